/- The walk of LogsBetween. -/
import Derived.Test.YtkdgfnaelekjoaaLgAwake
namespace Go.Proofs.Ytkdgfnaelekjoaa
open Go.RowKit

theorem pow40 {k : Nat} (h : k ≤ 40) : (((2 ^ k : Nat)) : Int) ≤ 1099511627776 := by
  have h1 := pow_le h
  have : (2 : Nat) ^ 40 = 1099511627776 := by decide
  omega

set_option maxHeartbeats 2000000 in
theorem lbetween_any (n : Int) (w : World) (hn : -9223372036854775808 ≤ n ∧ n ≤ 9223372036854775807) :
    Calls Try.prog 4 #[.int .i64 n] w fun e w' => Says w e w' := by
  by_cases b1 : n < 1
  · go_enter Try.func4, Try.ntmps4
    go_wp2_with fail
    refine (awake7_any w).mono ?_
    rintro e w1 ⟨rfl, q1⟩
    go_wp2
    go_ret
    exact ⟨rfl, q1⟩
  · by_cases b2 : 1099511627776 < n
    · go_enter Try.func4, Try.ntmps4
      go_wp2_with fail
      refine (awake7_any w).mono ?_
      rintro e w1 ⟨rfl, q1⟩
      go_wp2
      go_ret
      exact ⟨rfl, q1⟩
    · have hf := floor_spec (n := n) (by omega)
      have hc := ceil_spec (n := n) (by omega)
      have hb := both_at (n := n) (by omega)
      have hw := width_floor (n := n) (by omega)
      have lf := floor_le40 (n := n) (by omega)
      have lc := ceil_le40 (n := n) (by omega)
      obtain ⟨F, hF⟩ : ∃ F, floorI n = F := ⟨_, rfl⟩
      obtain ⟨C, hC⟩ : ∃ C, ceilI n = C := ⟨_, rfl⟩
      rw [hF] at hf hb hw lf
      rw [hC] at hc hb lc
      have pf := pow40 lf
      have pc := pow40 lc
      rw [two_pow_succ F] at hf
      obtain ⟨A, hA⟩ : ∃ A, 2 ^ F = A := ⟨_, rfl⟩
      obtain ⟨B, hB⟩ : ∃ B, 2 ^ C = B := ⟨_, rfl⟩
      rw [hA] at hf hb pf
      rw [hB] at hc pc
      have eA : (2 : Int) ^ F = (A : Int) := by rw [← hA]; simp
      have eB : (2 : Int) ^ C = (B : Int) := by rw [← hB]; simp
      obtain ⟨hf1, hf2⟩ := hf
      obtain ⟨hc1, hc2⟩ := hc
      have hf3 : n < 2 * (A : Int) := by omega
      have lfI : (F : Int) ≤ 40 := by omega
      have lcI : (C : Int) ≤ 40 := by omega
      have HF := Lib.hid hF; have HC := Lib.hid hC; have HW := Lib.hid hw; have HB := Lib.hid hb; have HC2 := Lib.hid hc2
      clear hF hC hw hA hB hb hc2 hf2
      go_enter Try.func4, Try.ntmps4
      go_wp2_with fail
      refine (awake7_any w).mono ?_
      rintro e w1 ⟨rfl, q1⟩
      go_wp2_with fail
      refine (lfloor_any n w1 (by omega) hn.1).mono ?_
      rintro e w2 ⟨rfl, hc⟩
      rw [HF.out]
      have q2 := q1.trans hc (fun _ _ h => h)
      clear q1 hc
      go_wp2_with fail
      refine (lceil_any n w2 (by omega) hn.1).mono ?_
      rintro e w3 ⟨rfl, hc⟩
      rw [HC.out]
      have q3 := q2.trans hc (fun _ _ h => h)
      clear q2 hc
      by_cases hC0 : C = 0
      · subst hC0
        go_wp2_with fail
        refine (lwidth_any n w3 (by omega) hn.1).mono ?_
        rintro e w4 ⟨rfl, hc⟩
        rw [HW.out]
        have q4 := q3.trans hc (fun _ _ h => h)
        clear q3 hc
        by_cases hCF : 0 = F
        · subst hCF
          have hnA := HB.out.1 rfl
          have hAB : (A : Int) = (B : Int) := eA.symm.trans eB
          obtain rfl : A = B := by omega
          subst hnA
          go_wp2
          go_ret
          exact ⟨rfl, q4⟩
        · have hnA : ¬ n = (A : Int) := fun h => hCF (HB.out.2 h)
          have e1 : ((0 : Int) == (F : Int)) = false := by simp; omega
          have e2 : (n == (A : Int)) = false := by simp [hnA]
          go_wp2
          go_ret
          exact ⟨rfl, q4⟩
      · have hc2 := HC2.out.resolve_left hC0
        obtain ⟨C', rfl⟩ : ∃ C', C = C' + 1 := ⟨C - 1, by omega⟩
        rw [Nat.add_sub_cancel] at hc2
        obtain ⟨D, hD⟩ : ∃ D, 2 ^ C' = D := ⟨_, rfl⟩
        rw [hD] at hc2
        have eD : (2 : Int) ^ C' = (D : Int) := by rw [← hD]; simp
        go_wp2_with fail
        refine (lwidth_any n w3 (by omega) hn.1).mono ?_
        rintro e w4 ⟨rfl, hc⟩
        rw [HW.out]
        have q4 := q3.trans hc (fun _ _ h => h)
        clear q3 hc
        by_cases hCF : C' + 1 = F
        · subst hCF
          have hnA := HB.out.1 rfl
          have hAB : (A : Int) = (B : Int) := eA.symm.trans eB
          obtain rfl : A = B := by omega
          subst hnA
          go_wp2
          go_ret
          exact ⟨rfl, q4⟩
        · have hnA : ¬ n = (A : Int) := fun h => hCF (HB.out.2 h)
          have e2 : (n == (A : Int)) = false := by simp [hnA]
          have e1 : ((C' : Int) + 1 == (F : Int)) = false := by simp; omega
          go_wp2
          go_ret
          exact ⟨rfl, q4⟩

end Go.Proofs.Ytkdgfnaelekjoaa
