/- FracScaled's walk. -/
import Derived.Test.YtglejohoikobbaaFrAwake
namespace Go.Proofs.Ytglejohoikobbaa
open Go.RowKit

theorem times_right {I Q S f : Int} (h : Ky.right ⟨I, Q, S⟩) (hf : 1 ≤ f) (hq : Q * f ≤ 4096) : Ky.right ⟨I * f, Q * f, S⟩ := by
  unfold Ky.right at *
  simp only [] at *
  obtain ⟨h1, h2, h3, h4, h5, h6⟩ := h
  have e1 : Q * 1 ≤ Q * f := Int.mul_le_mul_of_nonneg_left hf (by omega)
  have e2 : Q * f ≤ I * f := Int.mul_le_mul_of_nonneg_right h3 (by omega)
  have e3 : I * f ≤ (2 * Q - 1) * f := Int.mul_le_mul_of_nonneg_right h4 (by omega)
  rw [Int.sub_mul, Int.mul_assoc] at e3
  omega
theorem times_bound {I Q f : Int} (h0 : 0 ≤ Q) (h1 : Q ≤ 8192) (hf : 1 ≤ f) (hf2 : f ≤ 8) : 0 ≤ Q * f ∧ Q * f ≤ 65536 :=
  ⟨Int.mul_nonneg h0 (by omega), Int.le_trans (Int.mul_le_mul h1 hf2 (by omega) (by decide)) (by decide)⟩

set_option maxHeartbeats 2000000 in
theorem fracScaled_walk (k : Ky) (l : Int) (b : Nat) (w : World) (hk : k.fits) (hl : -9223372036854775808 ≤ l ∧ l ≤ 9223372036854775807) (hb : b < 256) :
    Calls Try.prog 6 #[kv k, .int .i64 l, .int .u8 (b : Int)] w fun e w' => e = .returned (.bool true) ∧ Chg (fun _ => False) w w' := by
  obtain ⟨I, Q, S⟩ := k
  have SC := Lib.hid fun w => kscaled_any ⟨I, Q, S⟩ l w hk hl
  have RR := Lib.hid fun w => r9right_any ⟨I, Q, S⟩ w hk
  have HK := Lib.hid hk
  have hl1 := hl.1
  have hl2 := hl.2
  clear hk hl
  have hka := Kb.of_alloc w 23 ⟨I, Q, S⟩
  have hca := Chg.alloc (fun _ => False) w (.cells #[.int .i64 I, .int .i64 Q, .int .i64 S] 23)
  have HKA := Lib.hid hka; have HC := Lib.hid hca
  simp only [] at HKA
  clear hka hca
  unfold kv
  go_enter Try.func6, Try.ntmps6
  go_wp2_with fail
  refine (awake9_any _).mono ?_
  rintro e w1 ⟨rfl, hc⟩
  replace HKA := Lib.hid (HKA.out.kept hc (by simp))
  replace HC := Lib.hid (HC.out.trans hc fun _ _ h => h)
  clear hc
  generalize w.heap.size = ga at *
  obtain ⟨a0, a1, a2⟩ := HKA.out.cells
  simp only [] at a0 a1 a2
  go_wp2_with fail
  refine (key_k _ HK.out).mono ?_
  rintro e w2 ⟨rfl, hc⟩
  replace HKA := Lib.hid (HKA.out.kept hc (by simp))
  replace HC := Lib.hid (HC.out.trans hc fun _ _ h => h)
  clear hc a0 a1 a2
  go_wp2_with fail
  refine (SC.out _).mono ?_
  rintro e w3 ⟨rfl, hc⟩
  replace HKA := Lib.hid (HKA.out.kept hc (by simp))
  replace HC := Lib.hid (HC.out.trans hc fun _ _ h => h)
  clear hc
  obtain ⟨a0, a1, a2⟩ := HKA.out.cells
  simp only [] at a0 a1 a2
  go_wp2_with fail
  refine (RR.out _).mono ?_
  rintro e w4 ⟨rfl, hc⟩
  replace HKA := Lib.hid (HKA.out.kept hc (by simp))
  replace HC := Lib.hid (HC.out.trans hc fun _ _ h => h)
  clear hc a0 a1 a2 RR SC
  by_cases hr : Ky.right ⟨I, Q, S⟩ ∧ 1 ≤ l ∧ l ≤ 4096
  · have hs : scK ⟨I, Q, S⟩ l = (loK ⟨I, Q, S⟩ l, hiK ⟨I, Q, S⟩ l) := by unfold scK; rw [if_pos hr]
    rw [hs, decide_eq_true hr.1]
    have hsp := scaled_spec ⟨I, Q, S⟩ l (by have := hr.1; unfold Ky.right at this; simp only [] at this ⊢; omega)
    have hbd := scaled_bound ⟨I, Q, S⟩ l hr.1 hr.2.1 hr.2.2
    have htm := fun f hf => scaled_times ⟨I, Q, S⟩ l f (by have := hr.1; unfold Ky.right at this; simp only [] at this ⊢; omega) hf
    simp only [] at hsp
    obtain ⟨hr0, hr1, hr2⟩ := hr
    have hn := prod_bound (a := l) (b := I) (by omega) (by omega) (by have := hr0; unfold Ky.right at this; simp only [] at this ⊢; omega) (by have := hr0; unfold Ky.right at this; simp only [] at this ⊢; omega)
    have hm1 := prod_bound (a := loK ⟨I, Q, S⟩ l) (b := Q) (by omega) (by omega) (by have := hr0; unfold Ky.right at this; simp only [] at this ⊢; omega) (by have := hr0; unfold Ky.right at this; simp only [] at this ⊢; omega)
    have hm2 := prod_bound (a := hiK ⟨I, Q, S⟩ l) (b := Q) (by omega) (by omega) (by have := hr0; unfold Ky.right at this; simp only [] at this ⊢; omega) (by have := hr0; unfold Ky.right at this; simp only [] at this ⊢; omega)
    have hq : 1 ≤ Q ∧ Q ≤ 4096 := by have := hr0; unfold Ky.right at this; simp only [] at this ⊢; omega
    have hi : 0 ≤ I ∧ I ≤ 8192 := by have := hr0; unfold Ky.right at this; simp only [] at this ⊢; omega
    obtain ⟨c, hc⟩ : ∃ c, b % 8 = c := ⟨_, rfl⟩
    have hc' : (b : Int) % 8 = (c : Int) := by omega
    obtain ⟨F, hF⟩ : ∃ F : Int, 1 + (c : Int) = F := ⟨_, rfl⟩
    have hF1 : 1 ≤ F := by omega
    have hF2 : F ≤ 8 := by omega
    have hG := times_bound (I := I) (Q := Q) (by omega) (by omega) hF1 hF2
    have hH := times_bound (I := I) (Q := I) (by omega) (by omega) hF1 hF2
    have htm2 := htm F (by omega)
    have hrt := fun h => times_right hr0 hF1 h
    have hsc : Q * F ≤ 4096 → scK ⟨I * F, Q * F, S⟩ l = (loK ⟨I, Q, S⟩ l, hiK ⟨I, Q, S⟩ l) := fun h => by
      unfold scK
      rw [if_pos ⟨hrt h, hr1, hr2⟩, htm2.1, htm2.2]
    have hkk : Q * F ≤ 4096 → ∀ w, Calls Try.prog 16 #[.agg #[.int .i64 (I * F), .int .i64 (Q * F), .int .i64 S], .int .i64 l] w fun e w' => e = .returned (.tuple #[.int .i64 (loK ⟨I, Q, S⟩ l), .int .i64 (hiK ⟨I, Q, S⟩ l)]) ∧ Chg (fun _ => False) w w' := fun h w => by
      have := kscaled_any ⟨I * F, Q * F, S⟩ l w (hrt h).fits ⟨hl1, hl2⟩
      rw [hsc h] at this
      exact this
    have HKK := Lib.hid hkk
    clear htm htm2 hrt hsc hkk hs hc
    revert hsp hbd hn hm1 hm2 HKK hG hH
    generalize loK ⟨I, Q, S⟩ l = lo
    generalize hiK ⟨I, Q, S⟩ l = hi'
    intro hsp hbd hn hm1 hm2 hG hH HKK
    obtain ⟨N, hN⟩ : ∃ N, l * I = N := ⟨_, rfl⟩
    obtain ⟨A, hA⟩ : ∃ A, lo * Q = A := ⟨_, rfl⟩
    obtain ⟨B, hB⟩ : ∃ B, hi' * Q = B := ⟨_, rfl⟩
    obtain ⟨G, hG'⟩ : ∃ G, Q * F = G := ⟨_, rfl⟩
    obtain ⟨H, hH'⟩ : ∃ H, I * F = H := ⟨_, rfl⟩
    rw [hN, hA, hB] at hsp
    rw [hN] at hn
    rw [hA] at hm1
    rw [hB] at hm2
    rw [hG'] at hG HKK
    rw [hH'] at hH HKK
    obtain ⟨s1, s2, s3, s4⟩ := hsp
    obtain ⟨t1, t2, t3, t4⟩ := hbd
    obtain ⟨n1, n2⟩ := hn
    obtain ⟨m1, m2⟩ := hm1
    obtain ⟨m3, m4⟩ := hm2
    obtain ⟨g1, g2⟩ := hG
    obtain ⟨h1, h2⟩ := hH
    obtain ⟨q1, q2⟩ := hq
    obtain ⟨i1, i2⟩ := hi
    clear hr0
    obtain ⟨a0, a1, a2⟩ := HKA.out.cells
    simp only [] at a0 a1 a2
    by_cases hbig : G ≤ 4096
    · go_wp2_with fail
      refine (HKK.out hbig _).mono ?_
      rintro e w5 ⟨rfl, hcx⟩
      replace HKA := Lib.hid (HKA.out.kept hcx (by simp))
      replace HC := Lib.hid (HC.out.trans hcx fun _ _ h => h)
      clear hcx a0 a1 a2 HKK
      obtain ⟨a0, a1, a2⟩ := HKA.out.cells
      simp only [] at a0 a1 a2
      go_wp2
      go_ret
      exact ⟨rfl, HC.out⟩
    · clear HKK
      go_wp2
      go_ret
      exact ⟨rfl, HC.out⟩
  · have hs : scK ⟨I, Q, S⟩ l = (0, 0) := by unfold scK; rw [if_neg hr]
    rw [hs]
    by_cases h1 : Ky.right ⟨I, Q, S⟩
    · rw [decide_eq_true h1]
      by_cases h2 : 1 ≤ l
      · have h3 : ¬ l ≤ 4096 := fun h3 => hr ⟨h1, h2, h3⟩
        clear hr hs h1
        go_wp2
        go_ret
        exact ⟨rfl, HC.out⟩
      · clear hr hs h1
        go_wp2
        go_ret
        exact ⟨rfl, HC.out⟩
    · rw [decide_eq_false h1]
      clear hr hs h1
      go_wp2
      go_ret
      exact ⟨rfl, HC.out⟩

end Go.Proofs.Ytglejohoikobbaa
