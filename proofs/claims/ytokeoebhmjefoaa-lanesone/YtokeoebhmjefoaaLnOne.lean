/- LanesOne: what is decoded is encoded. -/
import Derived.Test.YtokeoebhmjefoaaLnDecode
import Derived.Test.YtokeoebhmjefoaaBase6
namespace Go.Proofs.Ytokeoebhmjefoaa
open Go.RowKit

set_option maxHeartbeats 4000000 in
theorem lnone_any (v : Value) (xs : List Nat) (one : Bool) (u : Value) (ps : List Nat) (k : Nat) (w : World) (hb : RdB w v xs) (hx : ∀ x ∈ xs, x < 256) (hp0 : RdB w u ps) (hpx : ∀ x ∈ ps, x < 256) (hk8 : k < 256) :
    Calls Try.prog 6 #[v, .bool one, u, .int .u8 (k : Int)] w fun e w' => Says w e w' := by
  obtain ⟨aP, cP, rfl⟩ := hp0.form
  obtain ⟨NP, hNP⟩ : ∃ NP, ps.length = NP := ⟨_, rfl⟩
  have HP0 := Lib.hid hp0; have HPX := Lib.hid hpx
  rw [hNP] at HP0 ⊢
  have HNP := Lib.hid hNP
  clear hp0 hpx hNP
  have HAW := Lib.hid (awake17_any w)
  obtain ⟨ab, pb, rfl⟩ := hb.form
  have HB0 := Lib.hid hb; have HX := Lib.hid hx
  obtain ⟨N, hN⟩ : ∃ N, xs.length = N := ⟨_, rfl⟩
  rw [hN] at HB0 ⊢
  have HN := Lib.hid hN
  clear hb hx hN
  go_enter Try.func6, Try.ntmps6
  go_wp2_with fail
  refine HAW.out.mono ?_
  rintro e w1 ⟨rfl, hc1⟩
  have HC1 := Lib.hid hc1
  clear hc1 HAW
  by_cases hbig : 60 < N
  · have d1 : decide (60 < (N : Int)) = true := decide_eq_true (by omega)
    go_wp2
    go_ret
    exact ⟨rfl, HC1.out⟩
  have d1 : decide (60 < (N : Int)) = false := decide_eq_false (by omega)
  by_cases h0 : N = 0
  · subst h0
    go_wp2
    go_ret
    exact ⟨rfl, HC1.out⟩
  have hne0 : ((N : Int) == 0) = false := by simp; omega
  have hNI : (N : Int) ≤ 60 := by omega
  by_cases hbp : 100 < NP
  · have d2 : decide (100 < (NP : Int)) = true := decide_eq_true (by omega)
    go_wp2
    go_ret
    exact ⟨rfl, HC1.out⟩
  have d2 : decide (100 < (NP : Int)) = false := decide_eq_false (by omega)
  by_cases hbk : 60 < k
  · have d3 : decide (60 < (k : Int)) = true := decide_eq_true (by omega)
    go_wp2
    go_ret
    exact ⟨rfl, HC1.out⟩
  have d3 : decide (60 < (k : Int)) = false := decide_eq_false (by omega)
  have hkI : (k : Int) ≤ 60 := by omega
  have hof := r16of_any (.slice ab N pb) xs one w1 (HB0.out.kept HC1.out (by simp)) HX.out (by rw [HN.out]; omega) (by rw [HN.out]; omega)
  have hfit := ofM_fits xs one HX.out (by rw [HN.out]; omega) (by rw [HN.out]; omega)
  have hlg := ofM_log xs one HX.out (by rw [HN.out]; omega) (by rw [HN.out]; omega)
  obtain ⟨M, hM⟩ : ∃ M, ofM xs one = M := ⟨_, rfl⟩
  rw [hM] at hof hfit hlg
  have hok : lnOk M xs := ⟨hfit, by rw [HN.out]; omega⟩
  have HOF := Lib.hid hof; have HOK := Lib.hid hok; have HM := Lib.hid hM
  have hf64 := hfit.1.fit64
  have HLE := Lib.hid (show ∀ W cv u ys, RdLL W cv M.cs → RdB W u ys → (∀ y ∈ ys, y < 256) → ys.length < 1000000 → Calls Try.prog 11 #[mdv M cv, u] W fun e w' => ∃ p, e = .returned (.tuple #[p, .int .i64 (lnErr M ys)]) ∧ RdB w' p (lnEnc M ys) ∧ RoomOk p ∧ Chg (fun _ => False) W w' from fun W cv u ys hW hb hy hl => lencode_any _ _ M ys W ⟨cv, rfl, hW⟩ hf64 hb hy hl)
  have HLD := Lib.hid (show ∀ W cv u ys (k : Int), RdLL W cv M.cs → RdB W u ys → (∀ y ∈ ys, y < 256) → ys.length < 1000000 → (0 ≤ k ∧ k ≤ 1000000) → Calls Try.prog 16 #[mdv M cv, u, .int .i64 k] W fun e w' => ∃ y, e = .returned (.tuple #[y, .int .i64 ((errOf (lnRes M ys k) : Nat) : Int)]) ∧ RdB w' y (outOf (lnRes M ys k)) ∧ Chg (fun _ => False) W w' from fun W cv u ys k hW hb hy hl hk => ldecode_any _ _ M ys k W ⟨cv, rfl, hW⟩ hf64 hb hy hl (by omega))
  have HLB := Lib.hid (show ∀ W cv u ys, RdLL W cv M.cs → RdB W u ys → (∀ y ∈ ys, y < 256) → ys.length < 1000000 → Calls Try.prog 15 #[mdv M cv, u] W fun e w' => e = .returned (.int .i64 ((lnBits M ys : Nat) : Int)) ∧ Chg (fun _ => False) W w' from fun W cv u ys hW hb hy hl => lbits_any _ _ M ys W ⟨cv, rfl, hW⟩ hf64 hb hy hl)
  have hmdv : ∀ cv, mdv M cv = .agg #[.int .i64 M.log, .bool M.one, cv] := fun cv => rfl
  obtain ⟨log, hlog⟩ : ∃ log, M.log = log := ⟨_, rfl⟩
  obtain ⟨on, hon⟩ : ∃ on, M.one = on := ⟨_, rfl⟩
  obtain ⟨nc, hnc⟩ : ∃ nc, M.cs.length = nc := ⟨_, rfl⟩
  simp only [hmdv, hlog, hon] at HLE HLD HLB
  rw [hlog] at hlg
  obtain ⟨hlg0, hlg1⟩ := hlg
  have HLOG := Lib.hid hlog
  clear hof hfit hok hM hf64
  go_wp2_with fail
  refine HOF.out.mono ?_
  rintro e w2 ⟨u, rfl, hm2, hc2⟩
  obtain ⟨cv, rfl, hl2⟩ := hm2
  obtain ⟨am, pm, rfl⟩ := hl2.form
  rw [hmdv, hlog, hon, hnc]
  rw [hnc] at hl2
  have hca := Chg.alloc (fun _ => False) w2 (.cells #[.int .i64 log, .bool on, .slice am nc pm] 24)
  have hmb : Mb _ _ log on (.slice am nc pm) := heap_alloc_new w2 (.cells #[.int .i64 log, .bool on, .slice am nc pm] 24)
  obtain ⟨W2, hW2⟩ : ∃ W2, w2.alloc (.cells #[.int .i64 log, .bool on, .slice am nc pm] 24) = W2 := ⟨_, rfl⟩
  rw [hW2] at hca hmb
  obtain ⟨gm, hgm⟩ : ∃ gm, w2.heap.size = gm := ⟨_, rfl⟩
  rw [hgm] at hmb
  have HK := Lib.hid (show ∀ W W' : World, (Mb W gm log on (.slice am nc pm) ∧ RdLL W (.slice am nc pm) M.cs ∧ RdB W (.slice ab N pb) xs ∧ Chg (fun _ => False) w W) → Chg (fun _ => False) W W' → (Mb W' gm log on (.slice am nc pm) ∧ RdLL W' (.slice am nc pm) M.cs ∧ RdB W' (.slice ab N pb) xs ∧ Chg (fun _ => False) w W') from fun W W' ⟨h1, h2, h3, h4⟩ hc => ⟨h1.kept hc (by simp), h2.kept hc, h3.kept hc (by simp), h4.trans hc fun _ _ h => h⟩)
  have HS2 := Lib.hid (show Mb W2 gm log on (.slice am nc pm) ∧ RdLL W2 (.slice am nc pm) M.cs ∧ RdB W2 (.slice ab N pb) xs ∧ Chg (fun _ => False) w W2 from by
    have hcw := (HC1.out.trans hc2 fun _ _ h => h).trans hca fun _ _ h => h
    exact ⟨hmb, hl2.kept hca, HB0.out.kept hcw (by simp), hcw⟩)
  obtain ⟨b0, b1, b2⟩ := HS2.out.1.cells
  clear hl2 hc2 hca hmb hmdv hlog hon hnc HOF HC1 HB0
  have hld := HLD.out W2 _ _ ps (k : Int) HS2.out.2.1 (HP0.out.kept HS2.out.2.2.2 (by simp)) HPX.out (by rw [HNP.out]; omega) (by omega)
  have HLD2 := Lib.hid hld
  have HOL := Lib.hid (out_lt (m := M) (n := (k : Int)) HPX.out)
  clear hld HLD HLB
  go_wp2_with fail
  refine HLD2.out.mono ?_
  rintro e w3 ⟨y, rfl, hy, hc3⟩
  obtain ⟨ay, cy, rfl⟩ := hy.form
  have HS3 := Lib.hid (HK.out _ _ HS2.out hc3); have HY3 := Lib.hid hy
  clear hc3 hy HS2 HLD2 b0 b1 b2 hW2 hgm
  obtain ⟨b0, b1, b2⟩ := HS3.out.1.cells
  by_cases he : errOf (lnRes M ps (k : Int)) = 0
  · obtain ⟨ys, hys⟩ := errOf_zero he
    obtain ⟨h1, h2, h3, h4⟩ := ln_one HPX.out hys
    rw [hys] at HY3 HOL ⊢
    simp only [outOf, errOf] at HY3 HOL ⊢
    have hlen : ys.length = k := by omega
    have hle := HLE.out w3 _ _ ys HS3.out.2.1 HY3.out HOL.out (by omega)
    rw [h3, show lnErr M ys = 0 from by unfold lnErr; rw [if_pos h2]] at hle
    rw [hlen] at hle HY3 ⊢
    have HLE3 := Lib.hid hle
    clear he hys h1 h2 h3 h4 hlen hle HLE
    go_wp2_with fail
    refine HLE3.out.mono ?_
    rintro e w4 ⟨p, rfl, hp, _, hc4⟩
    obtain ⟨ap, cp, rfl⟩ := hp.form
    rw [HNP.out] at hp ⊢
    have HS4 := Lib.hid (HK.out _ _ HS3.out hc4); have HP4 := Lib.hid hp
    clear hc4 hp HS3 HLE3 b0 b1 b2
    go_wp2_with fail
    refine (same_any _ _ ps ps w4 HP4.out (HP0.out.kept HS4.out.2.2.2 (by simp)) HPX.out HPX.out).mono ?_
    rintro e w6 ⟨rfl, rfl⟩
    rw [decide_eq_true rfl]
    go_wp2
    go_ret
    exact ⟨rfl, HS4.out.2.2.2⟩
  · have hno := errOf_ne he
    rw [hno] at HY3 ⊢
    obtain ⟨E, hE⟩ : ∃ E, errOf (lnRes M ps (k : Int)) = E := ⟨_, rfl⟩
    rw [hE] at he ⊢
    have hEb : ((E : Int) == 0) = false := by simp; omega
    have hEc : ((E : Int) != 0) = true := by simp; omega
    clear hno hE HLE
    go_wp2
    go_ret
    exact ⟨rfl, HS3.out.2.2.2⟩

end Go.Proofs.Ytokeoebhmjefoaa
