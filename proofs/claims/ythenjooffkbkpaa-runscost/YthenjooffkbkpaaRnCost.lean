/- RunsCost's walk. -/
import Derived.Test.YthenjooffkbkpaaRnAwake
namespace Go.Proofs.Ythenjooffkbkpaa
open Go.RowKit

theorem rnCost_nat (a : Nat) (h : a ≤ 255) : rnCostN (a : Int) = 2 * (a / 3) + 2 := by
  unfold rnCostN; rw [if_pos ⟨by omega, by omega⟩, Int.toNat_natCast]

set_option maxHeartbeats 1000000 in
theorem runsCost_walk (a b : Nat) (w : World) (ha : a < 256) (hb : b < 256) :
    Calls Try.prog 6 #[.int .u8 (a : Int), .int .u8 (b : Int)] w fun e w' => e = .returned (.bool true) ∧ Chg (fun _ => False) w w' := by
  have HA := Lib.hid fun W => rncost_any (a : Int) W (by omega)
  have HB := Lib.hid fun W => rncost_any (b : Int) W (by omega)
  have H6 := Lib.hid fun W => rncost_any 256 W (by decide)
  rw [rnCost_nat a (by omega)] at HA
  rw [rnCost_nat b (by omega)] at HB
  rw [show rnCostN 256 = 0 from rfl] at H6
  obtain ⟨a3, ha3⟩ : ∃ a3, a + 3 = a3 := ⟨_, rfl⟩
  have ha3I : (a : Int) + 3 = (a3 : Int) := by omega
  have H3 := Lib.hid fun (h : a ≤ 252) W => (show Calls Try.prog 12 #[.int .i64 (a3 : Int)] W fun e w' => e = .returned (.int .i64 ((2 * (a / 3) + 2 + 2 : Nat) : Int)) ∧ Chg (fun _ => False) W w' by
    have := rncost_any (a3 : Int) W (by omega)
    rw [rnCost_nat a3 (by omega), show 2 * (a3 / 3) + 2 = 2 * (a / 3) + 2 + 2 by omega] at this
    exact this)
  have hXY : b < a ∨ 2 * (a / 3) + 2 ≤ 2 * (b / 3) + 2 := by omega
  obtain ⟨X, hX⟩ : ∃ X, 2 * (a / 3) + 2 = X := ⟨_, rfl⟩
  obtain ⟨Y, hY⟩ : ∃ Y, 2 * (b / 3) + 2 = Y := ⟨_, rfl⟩
  rw [hX] at HA H3 hXY
  rw [hY] at HB hXY
  obtain ⟨X2, hX2⟩ : ∃ X2, X + 2 = X2 := ⟨_, rfl⟩
  have hX2I : (X : Int) + 2 = (X2 : Int) := by omega
  rw [hX2] at H3
  have x1 : decide (2 ≤ (X : Int)) = true := decide_eq_true (by omega)
  have x2 : decide ((X : Int) ≤ 172) = true := decide_eq_true (by omega)
  have x3 : (X : Int).tmod 2 = 0 := by rw [Int.tmod_eq_emod_of_nonneg (by omega)]; omega
  have x4 : (X : Int) % 2 = 0 := by omega
  have hXb : (X : Int) ≤ 172 := by omega
  have hne : ((X2 : Int) != (X2 : Int)) = false := by simp
  have haI : (a : Int) < 256 := by omega
  have hbI : (b : Int) < 256 := by omega
  clear hX hY hX2 ha3 ha hb
  have key : ∀ w4, Chg (fun _ => False) w w4 → True := fun _ _ => trivial
  clear key
  by_cases h252 : a ≤ 252
  · have d1 : decide ((a : Int) ≤ 252) = true := decide_eq_true (by omega)
    have H33 := Lib.hid (H3.out h252)
    clear H3 h252
    rcases hXY with hlt | hle
    · have d2 : b < a := hlt
      go_enter Try.func6, Try.ntmps6
      go_wp2_with fail
      refine (awake14_any _).mono ?_
      rintro e w1 ⟨rfl, hc⟩
      have HC := Lib.hid hc
      clear hc
      go_wp2_with fail
      refine (HA.out _).mono ?_
      rintro e w2 ⟨rfl, hc2⟩
      replace HC := Lib.hid (HC.out.trans hc2 fun _ _ h => h)
      clear hc2
      go_wp2_with fail
      refine (HB.out _).mono ?_
      rintro e w3 ⟨rfl, hc3⟩
      replace HC := Lib.hid (HC.out.trans hc3 fun _ _ h => h)
      clear hc3
      go_wp2_with fail
      refine (H33.out _).mono ?_
      rintro e w4 ⟨rfl, hc4⟩
      replace HC := Lib.hid (HC.out.trans hc4 fun _ _ h => h)
      clear hc4
      go_wp2_with fail
      refine (H6.out _).mono ?_
      rintro e w5 ⟨rfl, hc5⟩
      replace HC := Lib.hid (HC.out.trans hc5 fun _ _ h => h)
      clear hc5
      go_wp2
      go_ret
      exact ⟨rfl, HC.out⟩
    · have d2 : X ≤ Y := hle
      by_cases hlt : b < a
      · have d3 : b < a := hlt
        go_enter Try.func6, Try.ntmps6
        go_wp2_with fail
        refine (awake14_any _).mono ?_
        rintro e w1 ⟨rfl, hc⟩
        have HC := Lib.hid hc
        clear hc
        go_wp2_with fail
        refine (HA.out _).mono ?_
        rintro e w2 ⟨rfl, hc2⟩
        replace HC := Lib.hid (HC.out.trans hc2 fun _ _ h => h)
        clear hc2
        go_wp2_with fail
        refine (HB.out _).mono ?_
        rintro e w3 ⟨rfl, hc3⟩
        replace HC := Lib.hid (HC.out.trans hc3 fun _ _ h => h)
        clear hc3
        go_wp2_with fail
        refine (H33.out _).mono ?_
        rintro e w4 ⟨rfl, hc4⟩
        replace HC := Lib.hid (HC.out.trans hc4 fun _ _ h => h)
        clear hc4
        go_wp2_with fail
        refine (H6.out _).mono ?_
        rintro e w5 ⟨rfl, hc5⟩
        replace HC := Lib.hid (HC.out.trans hc5 fun _ _ h => h)
        clear hc5
        go_wp2
        go_ret
        exact ⟨rfl, HC.out⟩
      · go_enter Try.func6, Try.ntmps6
        go_wp2_with fail
        refine (awake14_any _).mono ?_
        rintro e w1 ⟨rfl, hc⟩
        have HC := Lib.hid hc
        clear hc
        go_wp2_with fail
        refine (HA.out _).mono ?_
        rintro e w2 ⟨rfl, hc2⟩
        replace HC := Lib.hid (HC.out.trans hc2 fun _ _ h => h)
        clear hc2
        go_wp2_with fail
        refine (HB.out _).mono ?_
        rintro e w3 ⟨rfl, hc3⟩
        replace HC := Lib.hid (HC.out.trans hc3 fun _ _ h => h)
        clear hc3
        go_wp2_with fail
        refine (H33.out _).mono ?_
        rintro e w4 ⟨rfl, hc4⟩
        replace HC := Lib.hid (HC.out.trans hc4 fun _ _ h => h)
        clear hc4
        go_wp2_with fail
        refine (H6.out _).mono ?_
        rintro e w5 ⟨rfl, hc5⟩
        replace HC := Lib.hid (HC.out.trans hc5 fun _ _ h => h)
        clear hc5
        go_wp2
        go_ret
        exact ⟨rfl, HC.out⟩
  · have d1 : decide ((a : Int) ≤ 252) = false := decide_eq_false (by omega)
    clear H3
    by_cases hlt : b < a
    · clear hXY
      go_enter Try.func6, Try.ntmps6
      go_wp2_with fail
      refine (awake14_any _).mono ?_
      rintro e w1 ⟨rfl, hc⟩
      have HC := Lib.hid hc
      clear hc
      go_wp2_with fail
      refine (HA.out _).mono ?_
      rintro e w2 ⟨rfl, hc2⟩
      replace HC := Lib.hid (HC.out.trans hc2 fun _ _ h => h)
      clear hc2
      go_wp2_with fail
      refine (HB.out _).mono ?_
      rintro e w3 ⟨rfl, hc3⟩
      replace HC := Lib.hid (HC.out.trans hc3 fun _ _ h => h)
      clear hc3
      go_wp2_with fail
      refine (H6.out _).mono ?_
      rintro e w5 ⟨rfl, hc5⟩
      replace HC := Lib.hid (HC.out.trans hc5 fun _ _ h => h)
      clear hc5
      go_wp2
      go_ret
      exact ⟨rfl, HC.out⟩
    · have d2 : X ≤ Y := hXY.resolve_left hlt
      clear hXY
      go_enter Try.func6, Try.ntmps6
      go_wp2_with fail
      refine (awake14_any _).mono ?_
      rintro e w1 ⟨rfl, hc⟩
      have HC := Lib.hid hc
      clear hc
      go_wp2_with fail
      refine (HA.out _).mono ?_
      rintro e w2 ⟨rfl, hc2⟩
      replace HC := Lib.hid (HC.out.trans hc2 fun _ _ h => h)
      clear hc2
      go_wp2_with fail
      refine (HB.out _).mono ?_
      rintro e w3 ⟨rfl, hc3⟩
      replace HC := Lib.hid (HC.out.trans hc3 fun _ _ h => h)
      clear hc3
      go_wp2_with fail
      refine (H6.out _).mono ?_
      rintro e w5 ⟨rfl, hc5⟩
      replace HC := Lib.hid (HC.out.trans hc5 fun _ _ h => h)
      clear hc5
      go_wp2
      go_ret
      exact ⟨rfl, HC.out⟩

end Go.Proofs.Ythenjooffkbkpaa
