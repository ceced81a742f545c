/- FracMiddle's walk. -/
import Derived.Test.YtglejohoikobbaaFrAwake
namespace Go.Proofs.Ytglejohoikobbaa
open Go.RowKit

theorem mid_right {I Q S J R : Int} (h1 : Ky.right ⟨I, Q, S⟩) (h2 : Ky.right ⟨J, R, S⟩) (hq : Q ≤ 2048) (hr : R ≤ 2048) : Ky.right ⟨I + J, Q + R, S⟩ := by
  unfold Ky.right at *; simp only [] at *; omega

set_option maxHeartbeats 2000000 in
theorem fracMiddle_walk (i p j q s : Nat) (w : World) (hi : i < 65536) (hp : p < 65536) (hj : j < 65536) (hq : q < 65536) (hs : s < 256) :
    Calls Try.prog 7 #[.int .u16 (i : Int), .int .u16 (p : Int), .int .u16 (j : Int), .int .u16 (q : Int), .int .u8 (s : Int)] w fun e w' => e = .returned (.bool true) ∧ Chg (fun _ => False) w w' := by
  obtain ⟨m, hm⟩ : ∃ m, p % 2048 = m := ⟨_, rfl⟩
  obtain ⟨n, hn⟩ : ∃ n, q % 2048 = n := ⟨_, rfl⟩
  have hm' : (p : Int) % 2048 = (m : Int) := by omega
  have hn' : (q : Int) % 2048 = (n : Int) := by omega
  have hm1 : m < 2048 := by omega
  have hn1 : n < 2048 := by omega
  obtain ⟨I, Q, S, hA, rA⟩ := madeK_get i m s hs
  obtain ⟨J, R, T, hB, rB⟩ := madeK_get j n s hs
  have hQ : Q = 1 + (m : Int) % 4096 := by
    have := congrArg Ky.Q hA; unfold madeK at this; simp only [] at this; rw [← this]; omega
  have hR : R = 1 + (n : Int) % 4096 := by
    have := congrArg Ky.Q hB; unfold madeK at this; simp only [] at this; rw [← this]; omega
  have hS : S = (s : Int) := (congrArg Ky.S hA).symm
  have hT : T = (s : Int) := (congrArg Ky.S hB).symm
  obtain rfl : S = T := hS.trans hT.symm
  have rC := mid_right rA rB (by omega) (by omega)
  have hmid := cmpR_mid ⟨I, Q, S⟩ ⟨J, R, S⟩ ⟨I + J, Q + R, S⟩ rfl rfl rfl rfl
  have MA := Lib.hid fun w => made_k w hi (show m < 65536 by omega) hs rfl rfl rfl hA
  have MB := Lib.hid fun w => made_k w hj (show n < 65536 by omega) hs rfl rfl rfl hB
  have RA := Lib.hid rA; have RB := Lib.hid rB
  have RC := Lib.hid rC
  have HMID := Lib.hid hmid
  have k1 : -9223372036854775808 ≤ I + J ∧ I + J ≤ 9223372036854775807 := by have := rC; unfold Ky.right at this; simp only [] at this; omega
  have k2 : -9223372036854775808 ≤ Q + R ∧ Q + R ≤ 9223372036854775807 := by have := rC; unfold Ky.right at this; simp only [] at this; omega
  obtain ⟨k10, k11⟩ := k1
  obtain ⟨k20, k21⟩ := k2
  clear hA hB rA rB rC hi hp hs hj hq hmid hQ hR hS hT hm hn hm1 hn1
  go_enter Try.func7, Try.ntmps7
  go_wp2_with fail
  refine (awake9_any _).mono ?_
  rintro e w1 ⟨rfl, hc⟩
  have HC := Lib.hid hc
  clear hc
  go_wp2_with fail
  refine (MA.out _).mono ?_
  rintro e w2 ⟨rfl, hc⟩
  replace HC := Lib.hid (HC.out.trans hc fun _ _ h => h)
  clear hc MA
  go_wp2_with fail
  refine (key_k _ RA.out.fits).mono ?_
  rintro e w3 ⟨rfl, hc⟩
  replace HC := Lib.hid (HC.out.trans hc fun _ _ h => h)
  clear hc
  go_wp2_with fail
  refine (MB.out _).mono ?_
  rintro e w4 ⟨rfl, hc⟩
  have HA := Lib.hid (Kb.kept (Kb.of_alloc w3 26 ⟨I, Q, S⟩) hc (by simp))
  replace HC := Lib.hid ((HC.out.trans (Chg.alloc (fun _ => False) _ _) fun _ _ h => h).trans hc fun _ _ h => h)
  clear hc MB
  generalize w3.heap.size = ga at *
  go_wp2_with fail
  refine (key_k _ RB.out.fits).mono ?_
  rintro e w5 ⟨rfl, hc⟩
  replace HA := Lib.hid (HA.out.kept hc (by simp))
  replace HC := Lib.hid (HC.out.trans hc fun _ _ h => h)
  clear hc
  have ha : Kb (w5.alloc (.cells #[.int .i64 J, .int .i64 R, .int .i64 S] 26)) ga 26 ⟨I, Q, S⟩ := HA.out.kept (Chg.alloc (fun _ => False) w5 _) (by simp)
  obtain ⟨a0, a1, a2⟩ := ha.cells
  have ha2 : Kb ((w5.alloc (.cells #[.int .i64 J, .int .i64 R, .int .i64 S] 26)).alloc (.cells #[.int .i64 (I + J), .int .i64 (Q + R), .int .i64 S] 26)) ga 26 ⟨I, Q, S⟩ := ha.kept (Chg.alloc (fun _ => False) _ _) (by simp)
  obtain ⟨a3, a4, a5⟩ := ha2.cells
  simp only [] at a0 a1 a2 a3 a4 a5
  clear ha ha2
  have KAB := Lib.hid fun w => cmp_k w RA.out RB.out
  have KAC := Lib.hid fun w => cmp_k w RA.out RC.out
  have KCB := Lib.hid fun w => cmp_k w RC.out RB.out
  rw [HMID.out.1] at KAC
  rw [HMID.out.2] at KCB
  generalize cmpR ⟨I, Q, S⟩ ⟨J, R, S⟩ = x at *
  clear HMID
  go_wp2_with fail
  refine (KAB.out _).mono ?_
  rintro e w6 ⟨rfl, hc⟩
  have hgc := (Kb.of_alloc (w5.alloc (.cells #[.int .i64 J, .int .i64 R, .int .i64 S] 26)) 26 ⟨I + J, Q + R, S⟩).kept hc (by simp)
  have hgb := (Kb.kept (Kb.of_alloc w5 26 ⟨J, R, S⟩) (Chg.alloc (fun _ => False) _ _) (by simp)).kept hc (by simp)
  have hsz : (w5.alloc (.cells #[.int .i64 J, .int .i64 R, .int .i64 S] 26)).heap.size = w5.heap.size + 1 := by simp
  rw [hsz] at hgc
  have HB := Lib.hid hgb; have HD := Lib.hid hgc
  have hcc := ((Chg.alloc (fun _ => False) w5 (.cells #[.int .i64 J, .int .i64 R, .int .i64 S] 26)).trans (Chg.alloc (fun _ => False) _ _) fun _ _ h => h).trans hc fun _ _ h => h
  replace HA := Lib.hid (HA.out.kept hcc (by simp))
  replace HC := Lib.hid (HC.out.trans hcc fun _ _ h => h)
  clear hc hcc hgb hgc hsz a0 a1 a2 a3 a4 a5 KAB
  generalize w5.heap.size + 1 = gc at *
  generalize w5.heap.size = gb at *
  obtain ⟨c0, c1, c2⟩ := HD.out.cells
  simp only [] at c0 c1 c2
  go_wp2_with fail
  refine (kright_any ⟨I + J, Q + R, S⟩ _ RC.out.fits).mono ?_
  rintro e w7 ⟨rfl, hc⟩
  rw [decide_eq_true RC.out]
  replace HA := Lib.hid (HA.out.kept hc (by simp))
  replace HB := Lib.hid (HB.out.kept hc (by simp))
  replace HD := Lib.hid (HD.out.kept hc (by simp))
  replace HC := Lib.hid (HC.out.trans hc fun _ _ h => h)
  clear hc c0 c1 c2
  obtain ⟨a0, a1, a2⟩ := HA.out.cells
  obtain ⟨c0, c1, c2⟩ := HD.out.cells
  simp only [] at a0 a1 a2 c0 c1 c2
  go_wp2_with fail
  refine (KAC.out _).mono ?_
  rintro e w8 ⟨rfl, hc⟩
  replace HB := Lib.hid (HB.out.kept hc (by simp))
  replace HD := Lib.hid (HD.out.kept hc (by simp))
  replace HC := Lib.hid (HC.out.trans hc fun _ _ h => h)
  clear hc c0 c1 c2 a0 a1 a2
  obtain ⟨b0, b1, b2⟩ := HB.out.cells
  obtain ⟨c0, c1, c2⟩ := HD.out.cells
  simp only [] at b0 b1 b2 c0 c1 c2
  go_wp2_with fail
  refine (KCB.out _).mono ?_
  rintro e w9 ⟨rfl, hc⟩
  replace HC := Lib.hid (HC.out.trans hc fun _ _ h => h)
  clear hc c0 c1 c2 b0 b1 b2
  go_wp2
  go_ret
  exact ⟨rfl, HC.out⟩

end Go.Proofs.Ytglejohoikobbaa
