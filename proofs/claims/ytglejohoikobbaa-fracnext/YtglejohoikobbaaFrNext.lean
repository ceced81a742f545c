/- FracNext's walk. -/
import Derived.Test.YtglejohoikobbaaFrAwake
namespace Go.Proofs.Ytglejohoikobbaa
open Go.RowKit

theorem cmp_next {I Q S : Int} (h : Ky.right ⟨I, Q, S⟩) : cmpR ⟨I, Q, S⟩ ⟨I + 1, Q, S⟩ = -1 := by
  unfold cmpR
  unfold Ky.right at h
  simp only [] at h ⊢
  rw [if_pos]
  left
  rw [Int.add_mul]; omega

set_option maxHeartbeats 2000000 in
theorem fracNext_walk (i q s : Nat) (w : World) (hi : i < 65536) (hq : q < 65536) (hs : s < 256) :
    Calls Try.prog 5 #[.int .u16 (i : Int), .int .u16 (q : Int), .int .u8 (s : Int)] w fun e w' => e = .returned (.bool true) ∧ Chg (fun _ => False) w w' := by
  obtain ⟨I, Q, S, hA, rA⟩ := madeK_get i q s hs
  have MA := Lib.hid fun w => made_k w hi hq hs rfl rfl rfl hA
  have RA := Lib.hid rA
  have NX := Lib.hid fun w => knext_any ⟨I, Q, S⟩ w rA
  have hb : 0 ≤ I ∧ I ≤ 8191 ∧ 1 ≤ Q ∧ Q ≤ 4096 ∧ Q ≤ I ∧ I ≤ 2 * Q - 1 := by have := rA; unfold Ky.right at this; simp only [] at this; omega
  obtain ⟨i0, i1, q0, q1, iq0, iq1⟩ := hb
  clear hA rA hi hq hs
  go_enter Try.func5, Try.ntmps5
  go_wp2_with fail
  refine (awake9_any _).mono ?_
  rintro e w1 ⟨rfl, hc⟩
  have HC := Lib.hid hc
  clear hc
  go_wp2_with fail
  refine (MA.out _).mono ?_
  rintro e w2 ⟨rfl, hc⟩
  replace HC := Lib.hid (HC.out.trans hc fun _ _ h => h)
  clear hc MA
  go_wp2_with fail
  refine (key_k _ RA.out.fits).mono ?_
  rintro e w3 ⟨rfl, hc⟩
  replace HC := Lib.hid (HC.out.trans hc fun _ _ h => h)
  clear hc
  go_wp2_with fail
  refine (NX.out _).mono ?_
  rintro e w4 ⟨rfl, hc⟩
  have HA := Lib.hid (Kb.kept (Kb.of_alloc w3 26 ⟨I, Q, S⟩) hc (by simp))
  replace HC := Lib.hid ((HC.out.trans (Chg.alloc (fun _ => False) _ _) fun _ _ h => h).trans hc fun _ _ h => h)
  clear hc NX
  generalize w3.heap.size = ga at *
  simp only []
  by_cases hn : Ky.right ⟨I + 1, Q, S⟩
  · rw [decide_eq_true hn, show nextK ⟨I, Q, S⟩ = ⟨I + 1, Q, S⟩ by unfold nextK; rw [if_pos hn]]
    have HN := Lib.hid hn
    clear hn
    unfold kv
    simp only []
    have ha : Kb (w4.alloc (.cells #[.int .i64 (I + 1), .int .i64 Q, .int .i64 S] 26)) ga 26 ⟨I, Q, S⟩ := HA.out.kept (Chg.alloc (fun _ => False) w4 _) (by simp)
    obtain ⟨a0, a1, a2⟩ := ha.cells
    simp only [] at a0 a1 a2
    clear ha
    go_wp2_with fail
    refine (cmp_k _ RA.out HN.out).mono ?_
    rintro e w5 ⟨rfl, hc⟩
    rw [cmp_next RA.out]
    have HB := Lib.hid (Kb.kept (Kb.of_alloc w4 26 ⟨I + 1, Q, S⟩) hc (by simp))
    replace HC := Lib.hid ((HC.out.trans (Chg.alloc (fun _ => False) _ _) fun _ _ h => h).trans hc fun _ _ h => h)
    clear hc a0 a1 a2
    generalize w4.heap.size = gb at *
    obtain ⟨b0, b1, b2⟩ := HB.out.cells
    simp only [] at b0 b1 b2
    go_wp2_with fail
    refine (kright_any ⟨I + 1, Q, S⟩ _ HN.out.fits).mono ?_
    rintro e w6 ⟨rfl, hc⟩
    rw [decide_eq_true HN.out]
    replace HC := Lib.hid (HC.out.trans hc fun _ _ h => h)
    clear hc
    go_wp2
    go_ret
    exact ⟨rfl, HC.out⟩
  · rw [decide_eq_false hn, show nextK ⟨I, Q, S⟩ = ⟨0, 0, 0⟩ by unfold nextK; rw [if_neg hn]]
    have he : I = 2 * Q - 1 := by
      have h1 := RA.out
      unfold Ky.right at h1 hn
      simp only [] at h1 hn
      omega
    clear hn
    unfold kv
    simp only []
    have ha : Kb (w4.alloc (.cells #[.int .i64 0, .int .i64 0, .int .i64 0] 26)) ga 26 ⟨I, Q, S⟩ := HA.out.kept (Chg.alloc (fun _ => False) w4 _) (by simp)
    have hcc := HC.out.trans (Chg.alloc (fun _ => False) w4 (.cells #[.int .i64 0, .int .i64 0, .int .i64 0] 26)) fun _ _ h => h
    have HCC := Lib.hid hcc
    obtain ⟨a0, a1, a2⟩ := ha.cells
    simp only [] at a0 a1 a2
    clear ha hcc HC
    go_wp2
    go_ret
    exact ⟨rfl, HCC.out⟩

end Go.Proofs.Ytglejohoikobbaa
