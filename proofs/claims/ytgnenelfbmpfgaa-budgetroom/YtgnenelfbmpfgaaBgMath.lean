/- Plain mathematics of chapter 13: numbers that are no more than what is left. -/
import Derived.Test.YtgnenelfbmpfgaaLgMath
import Derived.Test.YtgnenelfbmpfgaaBfTake
namespace Go.Proofs.Ytgnenelfbmpfgaa
open Go

/-- may v be put, l being left? -/
def bCan (v l : Int) : Prop := 1 ≤ l ∧ l ≤ 4096 ∧ 0 ≤ v ∧ v ≤ l
instance (v l : Int) : Decidable (bCan v l) := by unfold bCan; infer_instance
def bgPutB (bs : List Bool) (v l : Int) : List Bool := if bCan v l then bs ++ bitsOf v.toNat (widthI l) else bs
def bgCostN (v l : Int) : Nat := if bCan v l then widthI l else 0
/-- what Take tells of the bits from p on: a number, an error, and where it stands then -/
def bgTk (xs : List Nat) (p : Nat) (l : Int) : Int × Int × Nat :=
  if 1 ≤ l ∧ l ≤ 4096 then (if p + widthI l ≤ 8 * xs.length then (if ((fv xs p (widthI l) : Nat) : Int) ≤ l then (((fv xs p (widthI l) : Nat) : Int), 0, p + widthI l) else (0, 13, p + widthI l)) else (0, 3, p)) else (0, 1, p)

theorem width_13 {l : Int} (h1 : 1 ≤ l) (h2 : l ≤ 4096) : 1 ≤ widthI l ∧ widthI l ≤ 13 ∧ l < ((2 ^ widthI l : Nat) : Int) ∧ ((2 ^ (widthI l - 1) : Nat) : Int) ≤ l := by
  have hs := floor_spec h1
  have hw := width_floor h1
  have hf := floor_mono (n := l) (m := ((2 ^ 12 : Nat) : Int)) (by simpa using h2)
  rw [floor_at] at hf
  rw [hw]
  exact ⟨by omega, by omega, hs.2, by rw [Nat.add_sub_cancel]; exact hs.1⟩
theorem bgPutB_length (bs : List Bool) (v l : Int) : (bgPutB bs v l).length = bs.length + bgCostN v l := by
  unfold bgPutB bgCostN
  split
  · rw [List.length_append, bitsOf_length]
  · rfl
theorem bgCost_le (v l : Int) : bgCostN v l ≤ 13 := by
  unfold bgCostN
  split
  · next h => exact (width_13 h.1 h.2.1).2.1
  · omega
theorem bgTk_le (xs : List Nat) (p : Nat) (l : Int) (h : p ≤ 8 * xs.length) : (bgTk xs p l).2.2 ≤ 8 * xs.length := by
  unfold bgTk
  split
  · split
    · split
      · assumption
      · assumption
    · exact h
  · exact h
theorem bgTk_num (xs : List Nat) (p : Nat) (l : Int) : 0 ≤ (bgTk xs p l).1 ∧ (bgTk xs p l).1 ≤ 4096 ∧ 0 ≤ (bgTk xs p l).2.1 ∧ (bgTk xs p l).2.1 ≤ 13 := by
  unfold bgTk
  split
  · split
    · split
      · simp only []; omega
      · simp only []; omega
    · simp only []; omega
  · simp only []; omega

end Go.Proofs.Ytgnenelfbmpfgaa
