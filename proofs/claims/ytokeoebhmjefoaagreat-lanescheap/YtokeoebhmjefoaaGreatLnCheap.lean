/- LanesCheap: no more bits are put than the model allows. -/
import Derived.Test.YtokeoebhmjefoaaGreatBase6
import Derived.Test.YtokeoebhmjefoaaGreatLnCheapR
namespace Go.Proofs.YtokeoebhmjefoaaGreat
open Go.RowKit

set_option maxHeartbeats 4000000 in
theorem lncheap_any (v : Value) (xs : List Nat) (one : Bool) (w : World) (hb : RdB w v xs) (hx : ∀ x ∈ xs, x < 256) :
    Calls Tryz.prog 3 #[v, .bool one] w fun e w' => Says w e w' := by
  have HAW := Lib.hid (awake17_any w)
  obtain ⟨ab, pb, rfl⟩ := hb.form
  have HB0 := Lib.hid hb; have HX := Lib.hid hx
  obtain ⟨N, hN⟩ : ∃ N, xs.length = N := ⟨_, rfl⟩
  rw [hN] at HB0 ⊢
  have HN := Lib.hid hN
  clear hb hx hN
  go_enter Tryz.func3, Tryz.ntmps3
  go_wp2_with fail
  refine HAW.out.mono ?_
  rintro e w1 ⟨rfl, hc1⟩
  have HC1 := Lib.hid hc1
  clear hc1 HAW
  by_cases hbig : 60 < N
  · have d1 : decide (60 < (N : Int)) = true := decide_eq_true (by omega)
    go_wp2
    go_ret
    exact ⟨rfl, HC1.out⟩
  have d1 : decide (60 < (N : Int)) = false := decide_eq_false (by omega)
  by_cases h0 : N = 0
  · subst h0
    go_wp2
    go_ret
    exact ⟨rfl, HC1.out⟩
  have hne0 : ((N : Int) == 0) = false := by simp; omega
  have hNI : (N : Int) ≤ 60 := by omega
  have hof := r16of_any (.slice ab N pb) xs one w1 (HB0.out.kept HC1.out (by simp)) HX.out (by rw [HN.out]; omega) (by rw [HN.out]; omega)
  have hfit := ofM_fits xs one HX.out (by rw [HN.out]; omega) (by rw [HN.out]; omega)
  have hlg := ofM_log xs one HX.out (by rw [HN.out]; omega) (by rw [HN.out]; omega)
  obtain ⟨M, hM⟩ : ∃ M, ofM xs one = M := ⟨_, rfl⟩
  rw [hM] at hof hfit hlg
  have hok : lnOk M xs := ⟨hfit, by rw [HN.out]; omega⟩
  have HOF := Lib.hid hof; have HOK := Lib.hid hok; have HM := Lib.hid hM
  have hf64 := hfit.1.fit64
  have HLE := Lib.hid (show ∀ W cv u ys, RdLL W cv M.cs → RdB W u ys → (∀ y ∈ ys, y < 256) → ys.length < 1000000 → Calls Tryz.prog 7 #[mdv M cv, u] W fun e w' => ∃ p, e = .returned (.tuple #[p, .int .i64 (lnErr M ys)]) ∧ RdB w' p (lnEnc M ys) ∧ RoomOk p ∧ Chg (fun _ => False) W w' from fun W cv u ys hW hb hy hl => lencode_any _ _ M ys W ⟨cv, rfl, hW⟩ hf64 hb hy hl)
  have HLD := Lib.hid (show ∀ W cv u ys (k : Int), RdLL W cv M.cs → RdB W u ys → (∀ y ∈ ys, y < 256) → ys.length < 1000000 → (0 ≤ k ∧ k ≤ 1000000) → Calls Tryz.prog 9 #[mdv M cv, u, .int .i64 k] W fun e w' => ∃ y, e = .returned (.tuple #[y, .int .i64 ((errOf (lnRes M ys k) : Nat) : Int)]) ∧ RdB w' y (outOf (lnRes M ys k)) ∧ Chg (fun _ => False) W w' from fun W cv u ys k hW hb hy hl hk => ldecode_any _ _ M ys k W ⟨cv, rfl, hW⟩ hf64 hb hy hl (by omega))
  have HLB := Lib.hid (show ∀ W cv u ys, RdLL W cv M.cs → RdB W u ys → (∀ y ∈ ys, y < 256) → ys.length < 1000000 → Calls Tryz.prog 6 #[mdv M cv, u] W fun e w' => e = .returned (.int .i64 ((lnBits M ys : Nat) : Int)) ∧ Chg (fun _ => False) W w' from fun W cv u ys hW hb hy hl => lbits_any _ _ M ys W ⟨cv, rfl, hW⟩ hf64 hb hy hl)
  have hmdv : ∀ cv, mdv M cv = .agg #[.int .i64 M.log, .bool M.one, cv] := fun cv => rfl
  have HCH := Lib.hid (show ∀ W cv u (k : Nat), RdLL W cv M.cs → RdB W u xs → k ≤ 100000 → Calls Tryz.prog 8 #[mdv M cv, u, .int .i64 (k : Int)] W fun e w' => e = .returned (.bool (decide (2 ^ k * prodQ (fM M) (prs 0 xs) ≤ prodM (RM M) (fM M) (prs 0 xs)))) ∧ Chg (fun _ => False) W w' from fun W cv u k hW hb hk => r17cheap_any _ _ M xs k W ⟨cv, rfl, hW⟩ hfit hb HX.out (by rw [HN.out]; omega) hk)
  obtain ⟨log, hlog⟩ : ∃ log, M.log = log := ⟨_, rfl⟩
  obtain ⟨on, hon⟩ : ∃ on, M.one = on := ⟨_, rfl⟩
  obtain ⟨nc, hnc⟩ : ∃ nc, M.cs.length = nc := ⟨_, rfl⟩
  simp only [hmdv, hlog, hon] at HLE HLD HLB HCH
  rw [hlog] at hlg
  obtain ⟨hlg0, hlg1⟩ := hlg
  have HLOG := Lib.hid hlog
  clear hof hfit hok hM hf64
  go_wp2_with fail
  refine HOF.out.mono ?_
  rintro e w2 ⟨u, rfl, hm2, hc2⟩
  obtain ⟨cv, rfl, hl2⟩ := hm2
  obtain ⟨am, pm, rfl⟩ := hl2.form
  rw [hmdv, hlog, hon, hnc]
  rw [hnc] at hl2
  have hca := Chg.alloc (fun _ => False) w2 (.cells #[.int .i64 log, .bool on, .slice am nc pm] 26)
  have hmb : Mb _ _ log on (.slice am nc pm) := heap_alloc_new w2 (.cells #[.int .i64 log, .bool on, .slice am nc pm] 26)
  obtain ⟨W2, hW2⟩ : ∃ W2, w2.alloc (.cells #[.int .i64 log, .bool on, .slice am nc pm] 26) = W2 := ⟨_, rfl⟩
  rw [hW2] at hca hmb
  obtain ⟨gm, hgm⟩ : ∃ gm, w2.heap.size = gm := ⟨_, rfl⟩
  rw [hgm] at hmb
  have HK := Lib.hid (show ∀ W W' : World, (Mb W gm log on (.slice am nc pm) ∧ RdLL W (.slice am nc pm) M.cs ∧ RdB W (.slice ab N pb) xs ∧ Chg (fun _ => False) w W) → Chg (fun _ => False) W W' → (Mb W' gm log on (.slice am nc pm) ∧ RdLL W' (.slice am nc pm) M.cs ∧ RdB W' (.slice ab N pb) xs ∧ Chg (fun _ => False) w W') from fun W W' ⟨h1, h2, h3, h4⟩ hc => ⟨h1.kept hc (by simp), h2.kept hc, h3.kept hc (by simp), h4.trans hc fun _ _ h => h⟩)
  have HS2 := Lib.hid (show Mb W2 gm log on (.slice am nc pm) ∧ RdLL W2 (.slice am nc pm) M.cs ∧ RdB W2 (.slice ab N pb) xs ∧ Chg (fun _ => False) w W2 from by
    have hcw := (HC1.out.trans hc2 fun _ _ h => h).trans hca fun _ _ h => h
    exact ⟨hmb, hl2.kept hca, HB0.out.kept hcw (by simp), hcw⟩)
  obtain ⟨b0, b1, b2⟩ := HS2.out.1.cells
  clear hl2 hc2 hca hmb hmdv hlog hon hnc HOF HC1 HB0
  have hbd := payL_bounds HOK.out.1 HX.out
  have hch := payL_cheap HOK.out.1 HX.out
  have hcl := (close_last (payL M xs)).1
  obtain ⟨hr1, hr2, hr3⟩ := RM_le HOK.out.1.1
  rw [HLOG.out] at hr3
  have hen : lnErr M xs = 0 ∧ lnEnc M xs = pack (payL M xs ++ [true]) ∧ lnBits M xs = (payL M xs).length := by
    unfold lnErr lnEnc lnBits
    rw [if_pos HOK.out, if_pos HOK.out, if_pos HOK.out]
    exact ⟨rfl, rfl, rfl⟩
  obtain ⟨R, hR⟩ : ∃ R, RM M = R := ⟨_, rfl⟩
  obtain ⟨B, hB⟩ : ∃ B, (payL M xs).length = B := ⟨_, rfl⟩
  rw [hR, HN.out, hB] at hbd
  rw [hR] at hr1 hr2 hr3
  have hch2 : decide (2 ^ (B - 2 * R) * prodQ (fM M) (prs 0 xs) ≤ prodM (RM M) (fM M) (prs 0 xs)) = true := decide_eq_true (by rw [hR] at hch; rw [hB] at hch; rw [hR]; exact hch)
  rw [hB] at hcl
  obtain ⟨e1, e2, e3⟩ := hen
  have hB1 : B ≤ 684 := by
    have : N * R ≤ 60 * 11 := Nat.mul_le_mul (by omega) (by omega)
    omega
  have hle := HLE.out W2 _ _ xs HS2.out.2.1 HS2.out.2.2.1 HX.out (by rw [HN.out]; omega)
  have hlb := HLB.out W2 _ _ xs HS2.out.2.1 HS2.out.2.2.1 HX.out (by rw [HN.out]; omega)
  rw [e3, hB] at hlb
  have hPL : (pack (payL M xs ++ [true])).length = B / 8 + 1 := hcl
  have HLB2 := Lib.hid hlb; have HPL := Lib.hid hPL; have HE := Lib.hid (And.intro e1 e2); have HCH2 := Lib.hid hch2
  have hRI : log = (R : Int) := hr3.symm
  subst hRI
  have hB1I : (B : Int) ≤ 684 := by omega
  have hB2I : (2 : Int) * (R : Int) ≤ (B : Int) := by omega
  have hbk : (B : Int) - 2 * (R : Int) = ((B - 2 * R : Nat) : Int) := by omega
  obtain ⟨K, hK⟩ : ∃ K, B - 2 * R = K := ⟨_, rfl⟩
  rw [hK] at hbk HCH2
  have hK1 : K ≤ 100000 := by omega
  have hdI : (B : Int) / 8 = ((B / 8 : Nat) : Int) := by omega
  have hdT : (B : Int).tdiv 8 = ((B / 8 : Nat) : Int) := by rw [Int.tdiv_eq_ediv_of_nonneg (by omega)]; exact hdI
  have dA : decide ((B : Int) < 2 * (R : Int)) = false := decide_eq_false (by omega)
  have dB : decide (1000 < (B : Int)) = false := decide_eq_false (by omega)
  clear hbd hch hcl hr1 hr2 hr3 hR hB hle hlb hPL e1 e2 e3 hch2 hK HLOG HLB HLD
  go_wp2_with fail
  refine HLB2.out.mono ?_
  rintro e w3 ⟨rfl, hc3⟩
  have HS3 := Lib.hid (HK.out _ _ HS2.out hc3)
  clear hc3 HS2 HLB2 b0 b1 b2 hW2 hgm
  obtain ⟨b0, b1, b2⟩ := HS3.out.1.cells
  have hle := HLE.out w3 _ _ xs HS3.out.2.1 HS3.out.2.2.1 HX.out (by rw [HN.out]; omega)
  rw [HE.out.1, HE.out.2] at hle
  have HLE3 := Lib.hid hle
  clear hle HLE
  go_wp2_with fail
  refine HLE3.out.mono ?_
  rintro e w4 ⟨p, rfl, hp, _, hc4⟩
  obtain ⟨ap, cp, rfl⟩ := hp.form
  rw [HPL.out]
  have HS4 := Lib.hid (HK.out _ _ HS3.out hc4)
  clear hc4 hp HS3 HLE3 b0 b1 b2
  obtain ⟨b0, b1, b2⟩ := HS4.out.1.cells
  have hch := HCH.out w4 _ _ K HS4.out.2.1 HS4.out.2.2.1 hK1
  rw [HCH2.out] at hch
  have HCH4 := Lib.hid hch
  clear hch HCH HCH2
  obtain ⟨q, hq⟩ : ∃ q, B / 8 = q := ⟨_, rfl⟩
  rw [hq] at hdI hdT ⊢
  have hqI : (q : Int) ≤ 100 := by omega
  clear hq
  go_wp2_with fail
  refine HCH4.out.mono ?_
  rintro e w5 ⟨rfl, hc5⟩
  have HC5 := Lib.hid (HS4.out.2.2.2.trans hc5 fun _ _ h => h)
  clear hc5
  go_wp2
  go_ret
  exact ⟨rfl, HC5.out⟩

end Go.Proofs.YtokeoebhmjefoaaGreat
