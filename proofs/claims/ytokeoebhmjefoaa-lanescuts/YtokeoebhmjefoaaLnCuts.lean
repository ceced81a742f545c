/- LanesCuts: cut off anywhere a payload is another one's, or none. -/
import Derived.Test.YtokeoebhmjefoaaLnBack
import Derived.Test.YtokeoebhmjefoaaBase6
namespace Go.Proofs.Ytokeoebhmjefoaa
open Go.RowKit

set_option maxHeartbeats 8000000 in
theorem lncuts_any (v : Value) (xs : List Nat) (one : Bool) (k : Nat) (w : World) (hb : RdB w v xs) (hx : ∀ x ∈ xs, x < 256) (hk8 : k < 256) :
    Calls Try.prog 7 #[v, .bool one, .int .u8 (k : Int)] w fun e w' => Says w e w' := by
  have HAW := Lib.hid (awake17_any w)
  obtain ⟨ab, pb, rfl⟩ := hb.form
  have HB0 := Lib.hid hb; have HX := Lib.hid hx
  obtain ⟨N, hN⟩ : ∃ N, xs.length = N := ⟨_, rfl⟩
  rw [hN] at HB0 ⊢
  have HN := Lib.hid hN
  clear hb hx hN
  go_enter Try.func7, Try.ntmps7
  go_wp2_with fail
  refine HAW.out.mono ?_
  rintro e w1 ⟨rfl, hc1⟩
  have HC1 := Lib.hid hc1
  clear hc1 HAW
  by_cases hbig : 60 < N
  · have d1 : decide (60 < (N : Int)) = true := decide_eq_true (by omega)
    go_wp2
    go_ret
    exact ⟨rfl, HC1.out⟩
  have d1 : decide (60 < (N : Int)) = false := decide_eq_false (by omega)
  by_cases h0 : N = 0
  · subst h0
    go_wp2
    go_ret
    exact ⟨rfl, HC1.out⟩
  have hne0 : ((N : Int) == 0) = false := by simp; omega
  have hNI : (N : Int) ≤ 60 := by omega
  have hof := r16of_any (.slice ab N pb) xs one w1 (HB0.out.kept HC1.out (by simp)) HX.out (by rw [HN.out]; omega) (by rw [HN.out]; omega)
  have hfit := ofM_fits xs one HX.out (by rw [HN.out]; omega) (by rw [HN.out]; omega)
  have hlg := ofM_log xs one HX.out (by rw [HN.out]; omega) (by rw [HN.out]; omega)
  obtain ⟨M, hM⟩ : ∃ M, ofM xs one = M := ⟨_, rfl⟩
  rw [hM] at hof hfit hlg
  have hok : lnOk M xs := ⟨hfit, by rw [HN.out]; omega⟩
  have HOF := Lib.hid hof; have HOK := Lib.hid hok; have HM := Lib.hid hM
  have hf64 := hfit.1.fit64
  have HLE := Lib.hid (show ∀ W cv u ys, RdLL W cv M.cs → RdB W u ys → (∀ y ∈ ys, y < 256) → ys.length < 1000000 → Calls Try.prog 11 #[mdv M cv, u] W fun e w' => ∃ p, e = .returned (.tuple #[p, .int .i64 (lnErr M ys)]) ∧ RdB w' p (lnEnc M ys) ∧ RoomOk p ∧ Chg (fun _ => False) W w' from fun W cv u ys hW hb hy hl => lencode_any _ _ M ys W ⟨cv, rfl, hW⟩ hf64 hb hy hl)
  have HLD := Lib.hid (show ∀ W cv u ys (k : Int), RdLL W cv M.cs → RdB W u ys → (∀ y ∈ ys, y < 256) → ys.length < 1000000 → (0 ≤ k ∧ k ≤ 1000000) → Calls Try.prog 16 #[mdv M cv, u, .int .i64 k] W fun e w' => ∃ y, e = .returned (.tuple #[y, .int .i64 ((errOf (lnRes M ys k) : Nat) : Int)]) ∧ RdB w' y (outOf (lnRes M ys k)) ∧ Chg (fun _ => False) W w' from fun W cv u ys k hW hb hy hl hk => ldecode_any _ _ M ys k W ⟨cv, rfl, hW⟩ hf64 hb hy hl (by omega))
  have HLB := Lib.hid (show ∀ W cv u ys, RdLL W cv M.cs → RdB W u ys → (∀ y ∈ ys, y < 256) → ys.length < 1000000 → Calls Try.prog 15 #[mdv M cv, u] W fun e w' => e = .returned (.int .i64 ((lnBits M ys : Nat) : Int)) ∧ Chg (fun _ => False) W w' from fun W cv u ys hW hb hy hl => lbits_any _ _ M ys W ⟨cv, rfl, hW⟩ hf64 hb hy hl)
  have hmdv : ∀ cv, mdv M cv = .agg #[.int .i64 M.log, .bool M.one, cv] := fun cv => rfl
  obtain ⟨log, hlog⟩ : ∃ log, M.log = log := ⟨_, rfl⟩
  obtain ⟨on, hon⟩ : ∃ on, M.one = on := ⟨_, rfl⟩
  obtain ⟨nc, hnc⟩ : ∃ nc, M.cs.length = nc := ⟨_, rfl⟩
  simp only [hmdv, hlog, hon] at HLE HLD HLB
  rw [hlog] at hlg
  obtain ⟨hlg0, hlg1⟩ := hlg
  have HLOG := Lib.hid hlog
  clear hof hfit hok hM hf64
  go_wp2_with fail
  refine HOF.out.mono ?_
  rintro e w2 ⟨u, rfl, hm2, hc2⟩
  obtain ⟨cv, rfl, hl2⟩ := hm2
  obtain ⟨am, pm, rfl⟩ := hl2.form
  rw [hmdv, hlog, hon, hnc]
  rw [hnc] at hl2
  have hca := Chg.alloc (fun _ => False) w2 (.cells #[.int .i64 log, .bool on, .slice am nc pm] 24)
  have hmb : Mb _ _ log on (.slice am nc pm) := heap_alloc_new w2 (.cells #[.int .i64 log, .bool on, .slice am nc pm] 24)
  obtain ⟨W2, hW2⟩ : ∃ W2, w2.alloc (.cells #[.int .i64 log, .bool on, .slice am nc pm] 24) = W2 := ⟨_, rfl⟩
  rw [hW2] at hca hmb
  obtain ⟨gm, hgm⟩ : ∃ gm, w2.heap.size = gm := ⟨_, rfl⟩
  rw [hgm] at hmb
  have HK := Lib.hid (show ∀ W W' : World, (Mb W gm log on (.slice am nc pm) ∧ RdLL W (.slice am nc pm) M.cs ∧ RdB W (.slice ab N pb) xs ∧ Chg (fun _ => False) w W) → Chg (fun _ => False) W W' → (Mb W' gm log on (.slice am nc pm) ∧ RdLL W' (.slice am nc pm) M.cs ∧ RdB W' (.slice ab N pb) xs ∧ Chg (fun _ => False) w W') from fun W W' ⟨h1, h2, h3, h4⟩ hc => ⟨h1.kept hc (by simp), h2.kept hc, h3.kept hc (by simp), h4.trans hc fun _ _ h => h⟩)
  have HS2 := Lib.hid (show Mb W2 gm log on (.slice am nc pm) ∧ RdLL W2 (.slice am nc pm) M.cs ∧ RdB W2 (.slice ab N pb) xs ∧ Chg (fun _ => False) w W2 from by
    have hcw := (HC1.out.trans hc2 fun _ _ h => h).trans hca fun _ _ h => h
    exact ⟨hmb, hl2.kept hca, HB0.out.kept hcw (by simp), hcw⟩)
  obtain ⟨b0, b1, b2⟩ := HS2.out.1.cells
  clear hl2 hc2 hca hmb hmdv hlog hon hnc HOF HC1 HB0
  have hkI : (k : Int) < 256 := by omega
  have hle := HLE.out W2 _ _ xs HS2.out.2.1 HS2.out.2.2.1 HX.out (by rw [HN.out]; omega)
  obtain ⟨hpl, hpx⟩ := enc_len60 HOK.out HX.out (by rw [HN.out]; omega)
  have hpos : 0 < (lnEnc M xs).length := by unfold lnEnc; rw [if_pos HOK.out, (close_last _).1]; omega
  rw [show lnErr M xs = 0 from by unfold lnErr; rw [if_pos HOK.out]] at hle
  obtain ⟨P, hP⟩ : ∃ P, lnEnc M xs = P := ⟨_, rfl⟩
  rw [hP] at hle hpl hpx hpos
  have HLE2 := Lib.hid hle; have HPX := Lib.hid hpx; have HPE := Lib.hid hP
  clear hle hpx hP HLE HLOG HLB
  go_wp2_with fail
  refine HLE2.out.mono ?_
  rintro e w3 ⟨p, rfl, hp, hroom, hc3⟩
  obtain ⟨ap, cp, rfl⟩ := hp.form
  have hcap := hroom _ _ _ rfl
  have HS3 := Lib.hid (HK.out _ _ HS2.out hc3)
  obtain ⟨hs1, hs2⟩ := mslice_upto (n := k % P.length) hp (Nat.le_of_lt (Nat.mod_lt _ hpos)) hcap
  have hcI : (k : Int) % (P.length : Int) = ((k % P.length : Nat) : Int) := by simp
  have hcT : (k : Int).tmod (P.length : Int) = ((k % P.length : Nat) : Int) := by rw [Int.tmod_eq_emod_of_nonneg (by omega)]; exact hcI
  have hlt := Nat.mod_lt k hpos
  have htk : ∀ y ∈ P.take (k % P.length), y < 256 := fun y hy => HPX.out y (List.mem_of_mem_take hy)
  have hld := HLD.out w3.drew _ _ (P.take (k % P.length)) (N : Int) (HS3.out.2.1.kept ((Chg.refl (fun _ => False) w3).drew)) (hs2 _ (hp.kept ((Chg.refl (fun _ => False) w3).drew) (by simp))) htk (by rw [List.length_take]; omega) (by omega)
  obtain ⟨Q, hQ⟩ : ∃ Q, P.take (k % P.length) = Q := ⟨_, rfl⟩
  have hQP : Q.length < P.length := by rw [← hQ, List.length_take]; omega
  rw [hQ] at hld htk
  have HLD3 := Lib.hid hld; have HQX := Lib.hid htk; have HQP := Lib.hid hQP
  obtain ⟨PL, hPL⟩ : ∃ PL, P.length = PL := ⟨_, rfl⟩
  rw [hPL] at hs1 hcI hcT hlt hpos hpl HLD3 ⊢
  obtain ⟨c, hc⟩ : ∃ c, k % PL = c := ⟨_, rfl⟩
  rw [hc] at hs1 hcI hcT hlt HLD3
  have hPLz : ((PL : Int) == 0) = false := by simp; omega
  have hPL0 : ¬ PL = 0 := by omega
  have hcPI : (c : Int) < (PL : Int) := by omega
  have hPLb : (PL : Int) < 1000000 := by omega
  have hwk : IntKind.i64.wrap (k : Int) = (k : Int) := by rw [IntKind.wrap_i64]; omega
  have hwc : IntKind.i64.wrap (c : Int) = (c : Int) := by rw [IntKind.wrap_i64]; omega
  clear hcI hc3 hp hroom hld hs2 htk hQ hQP hPL hc HS2 HLE2 HLD b0 b1 b2 hW2 hgm hcap
  obtain ⟨b0, b1, b2⟩ := HS3.out.1.cells
  have HS4 := Lib.hid (HK.out _ _ HS3.out ((Chg.refl (fun _ => False) w3).drew))
  go_wp2
  go_region_held3 (fun W => W.cell? ⟨gm, 0, none⟩ = some (.int .i64 log) ∧ W.cell? ⟨gm, 1, none⟩ = some (.bool on) ∧ W.cell? ⟨gm, 2, none⟩ = some (.slice am nc pm)) (first | exact ⟨b0, b1, b2⟩ | exact ⟨q0, q1, q2⟩) (first
    | (go_at_call 16; with_reducible refine Calls.mono HLD3.out ?_; rintro e w5 ⟨y, rfl, hy, hc5⟩; have HS5 := Lib.hid (HK.out _ _ HS4.out hc5); obtain ⟨q0, q1, q2⟩ := HS5.out.1.cells; obtain ⟨ay, cy, rfl⟩ := hy.form; have HY5 := Lib.hid hy; clear hc5 hy))
  clear b0 b1 b2 q0 q1 q2 HS3 HS4 HLD3
  by_cases he : errOf (lnRes M Q (N : Int)) = 0
  · obtain ⟨ys, hys⟩ := errOf_zero he
    obtain ⟨h1, h2, h3, h4⟩ := ln_one HQX.out hys
    rw [hys] at HY5 ⊢
    simp only [outOf, errOf] at HY5 ⊢
    have hne : decide (ys = xs) = false := decide_eq_false fun hh => by
      have h5 := HQP.out
      rw [← h3, hh, HPE.out] at h5
      omega
    have hsame := same_any _ _ ys xs w5 HY5.out HS5.out.2.2.1 h4 HX.out
    rw [hne] at hsame
    have HSA := Lib.hid hsame
    clear he hys h1 h2 h3 h4 hne hsame
    go_wp2_with fail
    refine HSA.out.mono ?_
    rintro e w6 ⟨rfl, rfl⟩
    go_wp2
    go_ret
    exact ⟨rfl, HS5.out.2.2.2⟩
  · have hno := errOf_ne he
    rw [hno] at HY5 ⊢
    obtain ⟨E, hE⟩ : ∃ E, errOf (lnRes M Q (N : Int)) = E := ⟨_, rfl⟩
    rw [hE] at he ⊢
    have hEb : ((E : Int) == 0) = false := by simp; omega
    have hEc : ((E : Int) != 0) = true := by simp; omega
    clear hno hE
    go_wp2
    go_ret
    exact ⟨rfl, HS5.out.2.2.2⟩

end Go.Proofs.Ytokeoebhmjefoaa
