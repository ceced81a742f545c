/- FracOrder's walk. -/
import Derived.Test.YtglejohoikobbaaFrAwake
import Derived.Deep.CutRange
namespace Go.Proofs.Ytglejohoikobbaa
open Go.RowKit

set_option maxHeartbeats 2000000 in
theorem fracOrder_walk (i p s j q t k r u : Nat) (w : World) (hi : i < 65536) (hp : p < 65536) (hs : s < 256) (hj : j < 65536) (hq : q < 65536) (ht : t < 256) (hk : k < 65536) (hr : r < 65536) (hu : u < 256) :
    Calls Try.prog 4 #[.int .u16 (i : Int), .int .u16 (p : Int), .int .u8 (s : Int), .int .u16 (j : Int), .int .u16 (q : Int), .int .u8 (t : Int), .int .u16 (k : Int), .int .u16 (r : Int), .int .u8 (u : Int)] w fun e w' => e = .returned (.bool true) ∧ Chg (fun _ => False) w w' := by
  obtain ⟨I, Q, S, hA, rA⟩ := madeK_get i p s hs
  obtain ⟨J, R, T, hB, rB⟩ := madeK_get j q t ht
  obtain ⟨K, V, U, hC, rC⟩ := madeK_get k r u hu
  have MA := Lib.hid fun w => made_k w hi hp hs rfl rfl rfl hA
  have MB := Lib.hid fun w => made_k w hj hq ht rfl rfl rfl hB
  have MC := Lib.hid fun w => made_k w hk hr hu rfl rfl rfl hC
  have RA := Lib.hid rA; have RB := Lib.hid rB; have RC := Lib.hid rC
  clear hA hB hC rA rB rC hi hp hs hj hq ht hk hr hu
  go_enter Try.func4, Try.ntmps4
  go_wp2_with fail
  refine (awake9_any _).mono ?_
  rintro e w1 ⟨rfl, hc⟩
  have HC := Lib.hid hc
  clear hc
  go_wp2_with fail
  refine (MA.out _).mono ?_
  rintro e w2 ⟨rfl, hc⟩
  replace HC := Lib.hid (HC.out.trans hc fun _ _ h => h)
  clear hc MA
  go_wp2_with fail
  refine (key_k _ RA.out.fits).mono ?_
  rintro e w3 ⟨rfl, hc⟩
  replace HC := Lib.hid (HC.out.trans hc fun _ _ h => h)
  clear hc
  go_wp2_with fail
  refine (MB.out _).mono ?_
  rintro e w4 ⟨rfl, hc⟩
  have HA := Lib.hid (Kb.kept (Kb.of_alloc w3 26 ⟨I, Q, S⟩) hc (by simp))
  replace HC := Lib.hid ((HC.out.trans (Chg.alloc (fun _ => False) _ _) fun _ _ h => h).trans hc fun _ _ h => h)
  clear hc MB
  generalize w3.heap.size = ga at *
  go_wp2_with fail
  refine (key_k _ RB.out.fits).mono ?_
  rintro e w5 ⟨rfl, hc⟩
  replace HA := Lib.hid (HA.out.kept hc (by simp))
  replace HC := Lib.hid (HC.out.trans hc fun _ _ h => h)
  clear hc
  go_wp2_with fail
  refine (MC.out _).mono ?_
  rintro e w6 ⟨rfl, hc⟩
  have HB := Lib.hid (Kb.kept (Kb.of_alloc w5 26 ⟨J, R, T⟩) hc (by simp))
  replace HA := Lib.hid (HA.out.kept ((Chg.alloc (fun _ => False) w5 _).trans hc fun _ _ h => h) (by simp))
  replace HC := Lib.hid ((HC.out.trans (Chg.alloc (fun _ => False) _ _) fun _ _ h => h).trans hc fun _ _ h => h)
  clear hc MC
  generalize w5.heap.size = gb at *
  go_wp2_with fail
  refine (key_k _ RC.out.fits).mono ?_
  rintro e w7 ⟨rfl, hc⟩
  replace HA := Lib.hid (HA.out.kept hc (by simp))
  replace HB := Lib.hid (HB.out.kept hc (by simp))
  replace HC := Lib.hid (HC.out.trans hc fun _ _ h => h)
  clear hc
  have ha : Kb (w7.alloc (.cells #[.int .i64 K, .int .i64 V, .int .i64 U] 26)) ga 26 ⟨I, Q, S⟩ := HA.out.kept (Chg.alloc (fun _ => False) w7 _) (by simp)
  have hb : Kb (w7.alloc (.cells #[.int .i64 K, .int .i64 V, .int .i64 U] 26)) gb 26 ⟨J, R, T⟩ := HB.out.kept (Chg.alloc (fun _ => False) w7 _) (by simp)
  obtain ⟨a0, a1, a2⟩ := ha.cells
  obtain ⟨b0, b1, b2⟩ := hb.cells
  simp only [] at a0 a1 a2 b0 b1 b2
  clear ha hb
  go_wp2_with fail
  refine (cmp_k _ RA.out RB.out).mono ?_
  rintro e w8 ⟨rfl, hc⟩
  have HD := Lib.hid (Kb.kept (Kb.of_alloc w7 26 ⟨K, V, U⟩) hc (by simp))
  replace HA := Lib.hid (HA.out.kept ((Chg.alloc (fun _ => False) w7 _).trans hc fun _ _ h => h) (by simp))
  replace HB := Lib.hid (HB.out.kept ((Chg.alloc (fun _ => False) w7 _).trans hc fun _ _ h => h) (by simp))
  replace HC := Lib.hid ((HC.out.trans (Chg.alloc (fun _ => False) _ _) fun _ _ h => h).trans hc fun _ _ h => h)
  clear hc a0 a1 a2 b0 b1 b2
  generalize w7.heap.size = gc at *
  obtain ⟨b0, b1, b2⟩ := HB.out.cells
  obtain ⟨c0, c1, c2⟩ := HD.out.cells
  simp only [] at b0 b1 b2 c0 c1 c2
  go_wp2_with fail
  refine (cmp_k _ RB.out RC.out).mono ?_
  rintro e w9 ⟨rfl, hc⟩
  replace HA := Lib.hid (HA.out.kept hc (by simp))
  replace HB := Lib.hid (HB.out.kept hc (by simp))
  replace HD := Lib.hid (HD.out.kept hc (by simp))
  replace HC := Lib.hid (HC.out.trans hc fun _ _ h => h)
  clear hc b0 b1 b2 c0 c1 c2
  obtain ⟨a0, a1, a2⟩ := HA.out.cells
  obtain ⟨c0, c1, c2⟩ := HD.out.cells
  simp only [] at a0 a1 a2 c0 c1 c2
  go_wp2_with fail
  refine (cmp_k _ RA.out RC.out).mono ?_
  rintro e w10 ⟨rfl, hc⟩
  replace HA := Lib.hid (HA.out.kept hc (by simp))
  replace HB := Lib.hid (HB.out.kept hc (by simp))
  replace HC := Lib.hid (HC.out.trans hc fun _ _ h => h)
  clear hc a0 a1 a2 c0 c1 c2 HD
  have hx3 := cmpR_cases ⟨I, Q, S⟩ ⟨J, R, T⟩
  have hz := cmpR_zero ⟨I, Q, S⟩ ⟨J, R, T⟩
  have htu := cmpR_turn ⟨I, Q, S⟩ ⟨J, R, T⟩
  have qA : 0 < Q := by have := RA.out; unfold Ky.right at this; simp only [] at this; omega
  have qB : 0 < R := by have := RB.out; unfold Ky.right at this; simp only [] at this; omega
  have qC : 0 < V := by have := RC.out; unfold Ky.right at this; simp only [] at this; omega
  have ht1 := cmpR_trans (a := ⟨I, Q, S⟩) (b := ⟨J, R, T⟩) (c := ⟨K, V, U⟩) qA qB qC
  have ht2 := cmpR_trans2 (a := ⟨I, Q, S⟩) (b := ⟨J, R, T⟩) (c := ⟨K, V, U⟩) qA qB qC
  have hself := cmpR_self ⟨I, Q, S⟩
  have KBA := Lib.hid fun w => cmp_k w RB.out RA.out
  have KAA := Lib.hid fun w => cmp_k w RA.out RA.out
  have x01 : cmpR ⟨I, Q, S⟩ ⟨J, R, T⟩ = -1 ∨ cmpR ⟨I, Q, S⟩ ⟨J, R, T⟩ = 0 ∨ cmpR ⟨I, Q, S⟩ ⟨J, R, T⟩ = 1 := by omega
  clear hx3
  rw [htu] at KBA
  rw [hself] at KAA
  revert ht1 ht2 hz KBA x01
  generalize cmpR ⟨I, Q, S⟩ ⟨J, R, T⟩ = x
  generalize cmpR ⟨J, R, T⟩ ⟨K, V, U⟩ = y
  generalize cmpR ⟨I, Q, S⟩ ⟨K, V, U⟩ = z
  intro hz ht1 ht2 KBA x01
  replace hz : x = 0 ↔ (I * R = J * Q ∧ S = T) := hz
  have d1 : x ≤ 0 → y ≤ 0 → ¬ 0 < z := fun h h' => by have := ht1 h h'; omega
  have d2 : 0 ≤ x → 0 ≤ y → ¬ z < 0 := fun h h' => by have := ht2 h h'; omega
  clear ht1 ht2 qA qB qC htu hself
  obtain ⟨a0, a1, a2⟩ := HA.out.cells
  obtain ⟨b0, b1, b2⟩ := HB.out.cells
  simp only [] at a0 a1 a2 b0 b1 b2
  have p1 : 0 ≤ I * R ∧ I * R ≤ 67108864 := by
    have h1 := RA.out; have h2 := RB.out
    unfold Ky.right at h1 h2
    simp only [] at h1 h2
    exact prod_bound (by omega) (by omega) (by omega) (by omega)
  have p2 : 0 ≤ J * Q ∧ J * Q ≤ 67108864 := by
    have h1 := RA.out; have h2 := RB.out
    unfold Ky.right at h1 h2
    simp only [] at h1 h2
    exact prod_bound (by omega) (by omega) (by omega) (by omega)
  obtain ⟨X, hX⟩ : ∃ X, I * R = X := ⟨_, rfl⟩
  obtain ⟨Y, hY⟩ : ∃ Y, J * Q = Y := ⟨_, rfl⟩
  rw [hX] at p1 hz
  rw [hY] at p2 hz
  obtain ⟨p10, p11⟩ := p1
  obtain ⟨p20, p21⟩ := p2
  have cs1 : (x = -1 ∧ y ≤ 0 ∧ ¬ 0 < z) ∨ (x = -1 ∧ ¬ y ≤ 0) ∨ (x = 0 ∧ y < 0 ∧ ¬ 0 < z) ∨ (x = 0 ∧ y = 0 ∧ ¬ 0 < z ∧ ¬ z < 0) ∨ (x = 0 ∧ 0 < y ∧ ¬ z < 0) ∨ (x = 1 ∧ y < 0) ∨ (x = 1 ∧ 0 ≤ y ∧ ¬ z < 0) := by
    clear hz hX hY
    rcases x01 with rfl | rfl | rfl
    · by_cases y0 : y ≤ 0
      · exact .inl ⟨rfl, y0, d1 (by decide) y0⟩
      · exact .inr (.inl ⟨rfl, y0⟩)
    · by_cases y0 : y < 0
      · exact .inr (.inr (.inl ⟨rfl, y0, d1 (by decide) (Int.le_of_lt y0)⟩))
      · by_cases y1 : y = 0
        · exact .inr (.inr (.inr (.inl ⟨rfl, y1, d1 (by decide) (Int.le_of_eq y1), d2 (by decide) (Int.le_of_eq y1.symm)⟩)))
        · exact .inr (.inr (.inr (.inr (.inl ⟨rfl, Int.lt_iff_le_and_ne.2 ⟨Int.not_lt.1 y0, fun h => y1 h.symm⟩, d2 (by decide) (Int.not_lt.1 y0)⟩))))
    · by_cases y0 : y < 0
      · exact .inr (.inr (.inr (.inr (.inr (.inl ⟨rfl, y0⟩)))))
      · exact .inr (.inr (.inr (.inr (.inr (.inr ⟨rfl, Int.not_lt.1 y0, d2 (by decide) (Int.not_lt.1 y0)⟩)))))
  have cs2 : ((x == 0) = false ∧ ¬ X = Y) ∨ ((x == 0) = false ∧ X = Y ∧ ¬ S = T) ∨ (x = 0 ∧ X = Y ∧ S = T) := by
    by_cases h : x = 0
    · exact .inr (.inr ⟨h, hz.1 h⟩)
    · by_cases e : X = Y
      · exact .inr (.inl ⟨by simpa using h, e, fun h2 => h (hz.2 ⟨e, h2⟩)⟩)
      · exact .inl ⟨by simpa using h, e⟩
  have x1 : -1 ≤ x := by clear hz cs1 cs2 d1 d2; omega
  have x2 : x ≤ 1 := by clear hz cs1 cs2 d1 d2; omega
  have CS2 := Lib.hid cs2
  clear hz d1 d2 x01 cs2
  go_upto_region 8 with fail
  go_cut [72] from 51 to 72 (fun s72 wx => s72 = .bool false ∧ wx = w10)
  case first =>
    clear a0 a1 a2 b0 b1 b2 hX hY
    clear KBA KAA HA HB HC RA RB RC CS2
    rcases cs1 with ⟨rfl, y0, z0⟩ | ⟨rfl, y0⟩ | ⟨rfl, y0, z0⟩ | ⟨rfl, rfl, z0, z1⟩ | ⟨rfl, y0, z0⟩ | ⟨rfl, y0⟩ | ⟨rfl, y0, z0⟩
    · replace z0 : decide (0 < z) = false := decide_eq_false (by omega)
      go_wp2_with fail; go_meet; exact ⟨rfl, rfl⟩
    · go_wp2_with fail; go_meet; exact ⟨rfl, rfl⟩
    · replace z0 : decide (0 < z) = false := decide_eq_false (by omega)
      go_wp2_with fail; go_meet; exact ⟨rfl, rfl⟩
    · replace z0 : decide (0 < z) = false := decide_eq_false (by omega)
      replace z1 : decide (z < 0) = false := decide_eq_false (by omega)
      go_wp2_with fail; go_meet; exact ⟨rfl, rfl⟩
    · replace z0 : decide (z < 0) = false := decide_eq_false (by omega)
      go_wp2_with fail; go_meet; exact ⟨rfl, rfl⟩
    · go_wp2_with fail; go_meet; exact ⟨rfl, rfl⟩
    · replace z0 : decide (z < 0) = false := decide_eq_false (by omega)
      go_wp2_with fail; go_meet; exact ⟨rfl, rfl⟩
  case rest =>
  obtain ⟨rfl, rfl⟩ := hcut
  clear cs1
  rcases CS2.out with ⟨h0, e1⟩ | ⟨h0, e1, e2⟩ | ⟨h0, e1, e2⟩
  · go_wp2_with fail
    refine (KBA.out _).mono ?_
    rintro e w11 ⟨rfl, hc⟩
    replace HA := Lib.hid (HA.out.kept hc (by simp))
    replace HB := Lib.hid (HB.out.kept hc (by simp))
    replace HC := Lib.hid (HC.out.trans hc fun _ _ h => h)
    clear hc a0 a1 a2 b0 b1 b2
    obtain ⟨a0, a1, a2⟩ := HA.out.cells
    obtain ⟨b0, b1, b2⟩ := HB.out.cells
    simp only [] at a0 a1 a2 b0 b1 b2
    go_wp2_with fail
    refine (KAA.out _).mono ?_
    rintro e w12 ⟨rfl, hc⟩
    replace HC := Lib.hid (HC.out.trans hc fun _ _ h => h)
    clear hc a0 a1 a2 b0 b1 b2
    go_wp2
    go_ret
    exact ⟨rfl, HC.out⟩
  · have e3 : (S == T) = false := by simpa using e2
    clear e2
    go_wp2_with fail
    refine (KBA.out _).mono ?_
    rintro e w11 ⟨rfl, hc⟩
    replace HA := Lib.hid (HA.out.kept hc (by simp))
    replace HB := Lib.hid (HB.out.kept hc (by simp))
    replace HC := Lib.hid (HC.out.trans hc fun _ _ h => h)
    clear hc a0 a1 a2 b0 b1 b2
    obtain ⟨a0, a1, a2⟩ := HA.out.cells
    obtain ⟨b0, b1, b2⟩ := HB.out.cells
    simp only [] at a0 a1 a2 b0 b1 b2
    go_wp2_with fail
    refine (KAA.out _).mono ?_
    rintro e w12 ⟨rfl, hc⟩
    replace HC := Lib.hid (HC.out.trans hc fun _ _ h => h)
    clear hc a0 a1 a2 b0 b1 b2
    go_wp2
    go_ret
    exact ⟨rfl, HC.out⟩
  · obtain rfl := h0
    obtain rfl := e1
    obtain rfl := e2
    go_wp2_with fail
    refine (KBA.out _).mono ?_
    rintro e w11 ⟨rfl, hc⟩
    replace HA := Lib.hid (HA.out.kept hc (by simp))
    replace HB := Lib.hid (HB.out.kept hc (by simp))
    replace HC := Lib.hid (HC.out.trans hc fun _ _ h => h)
    clear hc a0 a1 a2 b0 b1 b2
    obtain ⟨a0, a1, a2⟩ := HA.out.cells
    obtain ⟨b0, b1, b2⟩ := HB.out.cells
    simp only [] at a0 a1 a2 b0 b1 b2
    go_wp2_with fail
    refine (KAA.out _).mono ?_
    rintro e w12 ⟨rfl, hc⟩
    replace HC := Lib.hid (HC.out.trans hc fun _ _ h => h)
    clear hc a0 a1 a2 b0 b1 b2
    go_wp2
    go_ret
    exact ⟨rfl, HC.out⟩

end Go.Proofs.Ytglejohoikobbaa
