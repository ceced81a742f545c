/- ModelTells: whether any model is right, the list of any context, and whether it fits any bytes, are as the document says. -/
import Derived.Test.YthghlfghdmifoaaBase4
namespace Go.Proofs.Ythghlfghdmifoaa
open Go.RowKit

set_option maxHeartbeats 4000000 in
theorem mtells_any (v u : Value) (m : Md) (c : Int) (xs : List Nat) (w : World) (h : RdM w v m) (hw : m.wide) (hlog : -9223372036854775808 ≤ m.log ∧ m.log ≤ 9223372036854775807) (hzz : ∀ l ∈ m.cs, ∀ z ∈ l, -9223372036854775808 ≤ z ∧ z ≤ 9223372036854775807)
    (hc : -9223372036854775808 ≤ c ∧ c ≤ 9223372036854775807) (hb : RdB w u xs) (hx : ∀ x ∈ xs, x < 256) :
    Calls Try.prog 4 #[v, .int .i64 c, u] w fun e w' => Says w e w' := by
  obtain ⟨ab, pb, rfl⟩ := hb.form
  obtain ⟨cv, rfl, h1⟩ := h
  have hfit : fewL m.cs → m.fit64 := fun hf => ⟨hlog, by have := hf.2.1; omega, fun l hl => ⟨by
    obtain ⟨j, hj, rfl⟩ := List.mem_iff_getElem.1 hl
    have := hf.1 j hj
    rw [List.getD_eq_getElem?_getD, List.getElem?_eq_getElem hj] at this
    simp only [Option.getD_some] at this
    omega, hzz l hl⟩⟩
  have HFW := Lib.hid (show ∀ W, RdLL W cv m.cs → Calls Try.prog 14 #[mdv m cv] W fun e w' => e = .returned (.bool (decide (fewL m.cs))) ∧ Chg (fun _ => False) W w' from fun W hW => r16few_wide _ m W ⟨cv, rfl, hW⟩ hw)
  have HMR := Lib.hid (show fewL m.cs → ∀ W, RdLL W cv m.cs → Calls Try.prog 15 #[mdv m cv] W fun e w' => e = .returned (.bool (decide m.right)) ∧ Chg (fun _ => False) W w' from fun hf W hW => mright_any _ m W ⟨cv, rfl, hW⟩ (hfit hf))
  have HRR := Lib.hid (show fewL m.cs → ∀ W, RdLL W cv m.cs → Calls Try.prog 16 #[mdv m cv] W fun e w' => e = .returned (.bool (decide m.right)) ∧ Chg (fun _ => False) W w' from fun hf W hW => r16right_any _ m W ⟨cv, rfl, hW⟩ (hfit hf))
  have HMA := Lib.hid (show fewL m.cs → ∀ W, RdLL W cv m.cs → Calls Try.prog 18 #[mdv m cv, .int .i64 c] W fun e w' => ∃ u, e = .returned u ∧ RdI w' u (m.atL c) ∧ Chg (fun _ => False) W w' from fun hf W hW => mat_any _ m c W ⟨cv, rfl, hW⟩ (hfit hf) hc)
  have HRA := Lib.hid (show fewL m.cs → ∀ W, RdLL W cv m.cs → Calls Try.prog 19 #[mdv m cv, .int .i64 c] W fun e w' => ∃ u, e = .returned u ∧ RdI w' u (m.atL c) ∧ Chg (fun _ => False) W w' from fun hf W hW => r16at_any _ m c W ⟨cv, rfl, hW⟩ (hfit hf))
  have HMF := Lib.hid (show fewL m.cs → xs.length ≤ 80 → ∀ W, RdLL W cv m.cs → RdB W (.slice ab xs.length pb) xs → Calls Try.prog 20 #[mdv m cv, .slice ab xs.length pb] W fun e w' => e = .returned (.bool (decide (m.fits xs))) ∧ Chg (fun _ => False) W w' from fun hf hl W hW hb => mfits_any _ _ m xs W ⟨cv, rfl, hW⟩ (hfit hf) hb hx (by omega))
  have HRF := Lib.hid (show fewL m.cs → xs.length ≤ 80 → ∀ W, RdLL W cv m.cs → RdB W (.slice ab xs.length pb) xs → Calls Try.prog 21 #[mdv m cv, .slice ab xs.length pb] W fun e w' => e = .returned (.bool (decide (m.fits xs))) ∧ Chg (fun _ => False) W w' from fun hf hl W hW hb => r16fits_any _ _ m xs W ⟨cv, rfl, hW⟩ (hfit hf) hb hx (by omega))
  have HAL := Lib.hid (show (m.atL c).length < 100000000000 from by
    by_cases he : m.atL c = []
    · rw [he]; simp
    · rw [atL_len m c he]; omega)
  obtain ⟨ao, cap, rfl⟩ := h1.form
  obtain ⟨log, one, cs⟩ := m
  obtain ⟨N, hN⟩ : ∃ N, xs.length = N := ⟨_, rfl⟩
  rw [hN] at HMF HRF ⊢
  unfold mdv at HFW HMR HRR HMA HRA HMF HRF ⊢
  simp only [] at HFW HMR HRR HMA HRA HMF HRF h1 ⊢
  obtain ⟨n, hn⟩ : ∃ n, cs.length = n := ⟨_, rfl⟩
  rw [hn] at HFW HMR HRR HMA HRA HMF HRF h1 ⊢
  have hca := Chg.alloc (fun _ => False) w (.cells #[.int .i64 log, .bool one, .slice ao n cap] 26)
  have hmb : Mb _ _ log one (.slice ao n cap) := heap_alloc_new w (.cells #[.int .i64 log, .bool one, .slice ao n cap] 26)
  obtain ⟨W, hW⟩ : ∃ W, w.alloc (.cells #[.int .i64 log, .bool one, .slice ao n cap] 26) = W := ⟨_, rfl⟩
  rw [hW] at hca hmb
  have hbb := hb.kept hca (by simp)
  rw [hN] at hbb
  have HK := Lib.hid (show ∀ W W' : World, (Mb W w.heap.size log one (.slice ao n cap) ∧ RdLL W (.slice ao n cap) cs ∧ RdB W (.slice ab N pb) xs ∧ Chg (fun _ => False) w W) → Chg (fun _ => False) W W' → (Mb W' w.heap.size log one (.slice ao n cap) ∧ RdLL W' (.slice ao n cap) cs ∧ RdB W' (.slice ab N pb) xs ∧ Chg (fun _ => False) w W') from fun W W' ⟨h1, h2, h3, h4⟩ hc => ⟨h1.kept hc (by simp), h2.kept hc, h3.kept hc (by simp), h4.trans hc fun _ _ h => h⟩)
  have HS := Lib.hid (show Mb W w.heap.size log one (.slice ao n cap) ∧ RdLL W (.slice ao n cap) cs ∧ RdB W (.slice ab N pb) xs ∧ Chg (fun _ => False) w W from ⟨hmb, h1.kept hca, hbb, hca⟩)
  have HAW := Lib.hid (awake16_any W)
  clear h1 hw hlog hzz hb hx hfit hca hmb hbb hn hN hc
  go_enter Try.func4, Try.ntmps4
  go_wp2_with fail
  refine HAW.out.mono ?_
  rintro e w1 ⟨rfl, hc1⟩
  have HS1 := Lib.hid (HK.out _ _ HS.out hc1)
  obtain ⟨b0, b1, b2⟩ := HS1.out.1.cells
  clear hc1 HS HAW hW
  go_wp2_with fail
  refine (HFW.out w1 HS1.out.2.1).mono ?_
  rintro e w2 ⟨rfl, hc2⟩
  have HS2 := Lib.hid (HK.out _ _ HS1.out hc2)
  obtain ⟨c0, c1, c2⟩ := HS2.out.1.cells
  clear hc2 b0 b1 b2 HS1 HFW
  by_cases hfew : fewL cs
  · rw [decide_eq_true hfew]
    by_cases hbig : 80 < N
    · have d1 : decide (80 < (N : Int)) = true := decide_eq_true (by omega)
      go_wp2
      go_ret
      exact ⟨rfl, HS2.out.2.2.2⟩
    · have d1 : decide (80 < (N : Int)) = false := decide_eq_false (by omega)
      have HMR := Lib.hid (HMR.out hfew); have HRR := Lib.hid (HRR.out hfew); have HMA := Lib.hid (HMA.out hfew); have HRA := Lib.hid (HRA.out hfew); have HMF := Lib.hid (HMF.out hfew (by omega)); have HRF := Lib.hid (HRF.out hfew (by omega))
      have HSD := Lib.hid (HK.out _ _ HS2.out ((Chg.refl (fun _ => False) w2).drew))
      obtain ⟨L, hL⟩ : ∃ L, Md.atL ⟨log, one, cs⟩ c = L := ⟨_, rfl⟩
      rw [hL] at HMA HRA HAL
      obtain ⟨D1, hD1⟩ : ∃ D1, decide (Md.right ⟨log, one, cs⟩) = D1 := ⟨_, rfl⟩
      rw [hD1] at HMR HRR
      obtain ⟨D2, hD2⟩ : ∃ D2, decide (Md.fits ⟨log, one, cs⟩ xs) = D2 := ⟨_, rfl⟩
      rw [hD2] at HMF HRF
      have e1 : (D1 == D1) = true := by simp
      have e2 : (D2 == D2) = true := by simp
      clear hfew hbig hL hD1 hD2
      go_wp2
      go_region_held3 (fun W => W.cell? ⟨w.heap.size, 0, none⟩ = some (.int .i64 log) ∧ W.cell? ⟨w.heap.size, 1, none⟩ = some (.bool one) ∧ W.cell? ⟨w.heap.size, 2, none⟩ = some (.slice ao n cap)) (first | exact ⟨c0, c1, c2⟩ | exact HS3.out.1.cells | exact HS4.out.1.cells | exact HS5.out.1.cells | exact HS6.out.1.cells | exact HS7.out.1.cells | exact HS8.out.1.cells | exact HS9.out.1.cells) (first
        | (go_at_call 15; refine (HMR.out _ HSD.out.2.1).mono ?_; rintro e w3 ⟨rfl, hc3⟩; have HS3 := Lib.hid (HK.out _ w3 HSD.out hc3); clear hc3)
        | (go_at_call 16; refine (HRR.out _ HS3.out.2.1).mono ?_; rintro e w4 ⟨rfl, hc4⟩; have HS4 := Lib.hid (HK.out _ w4 HS3.out hc4); clear hc4)
        | (go_at_call 18; refine (HMA.out _ HS4.out.2.1).mono ?_; rintro e w5 ⟨q5, rfl, hq5, hc5⟩; have HS5 := Lib.hid (HK.out _ w5 HS4.out hc5); have HQ5 := Lib.hid hq5; clear hc5 hq5)
        | (go_at_call 19; refine (HRA.out _ HS5.out.2.1).mono ?_; rintro e w6 ⟨q6, rfl, hq6, hc6⟩; have HS6 := Lib.hid (HK.out _ w6 HS5.out hc6); have HQ56 := Lib.hid (HQ5.out.kept hc6 (by simp)); have HQ6 := Lib.hid hq6; clear hc6 hq6)
        | (go_at_call 17; refine (ints_c _ _ L L w6 HQ56.out HQ6.out HAL.out HAL.out).mono ?_; rintro e w7 ⟨rfl, hc7⟩; rw [decide_eq_true rfl]; have HS7 := Lib.hid (HK.out _ w7 HS6.out hc7); clear hc7)
        | (go_at_call 20; refine (HMF.out _ HS7.out.2.1 HS7.out.2.2.1).mono ?_; rintro e w8 ⟨rfl, hc8⟩; have HS8 := Lib.hid (HK.out _ w8 HS7.out hc8); clear hc8)
        | (go_at_call 21; refine (HRF.out _ HS8.out.2.1 HS8.out.2.2.1).mono ?_; rintro e w9 ⟨rfl, hc9⟩; have HS9 := Lib.hid (HK.out _ w9 HS8.out hc9); clear hc9))
      go_wp2
      go_ret
      exact ⟨rfl, HS9.out.2.2.2⟩
  · rw [decide_eq_false hfew]
    clear hfew
    go_wp2
    go_ret
    exact ⟨rfl, HS2.out.2.2.2⟩

end Go.Proofs.Ythghlfghdmifoaa
