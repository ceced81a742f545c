/- Plain mathematics of chapter 7: logs to the base of two. -/
import Derived.Test.YtgnenelfbmpfgaaBwMath
namespace Go.Proofs.Ytgnenelfbmpfgaa
open Go

def floorI (n : Int) : Nat := Nat.log2 n.toNat
def ceilI (n : Int) : Nat := if n < 2 then 0 else Nat.log2 (n.toNat - 1) + 1
def widthI (n : Int) : Nat := if n < 1 then 0 else Nat.log2 n.toNat + 1
def pickI (n m most : Int) : Int := max (max (min ((floorI n : Int) - 2) most) 5) ((ceilI m : Nat) : Int)

theorem pow_le {a b : Nat} (h : a ≤ b) : 2 ^ a ≤ 2 ^ b := Nat.pow_le_pow_right (by omega) h
theorem lt_of_pow {a b : Nat} (h : 2 ^ a < 2 ^ b) : a < b := by
  rcases Nat.lt_or_ge a b with h1 | h1
  · exact h1
  · have := pow_le h1; omega
theorem two_pow_succ (k : Nat) : 2 ^ (k + 1) = 2 * 2 ^ k := by rw [Nat.pow_succ]; omega

theorem floor_spec {n : Int} (h : 1 ≤ n) : ((2 ^ floorI n : Nat) : Int) ≤ n ∧ n < ((2 ^ (floorI n + 1) : Nat) : Int) := by
  have h1 := Nat.log2_self_le (n := n.toNat) (by omega)
  have h2 := Nat.lt_log2_self (n := n.toNat)
  unfold floorI
  omega
theorem floor_unique {n : Int} {k : Nat} (h1 : ((2 ^ k : Nat) : Int) ≤ n) (h2 : n < ((2 ^ (k + 1) : Nat) : Int)) : floorI n = k := by
  have hp := Nat.two_pow_pos k
  have hs := floor_spec (n := n) (by omega)
  have a := lt_of_pow (a := floorI n) (b := k + 1) (by omega)
  have b := lt_of_pow (a := k) (b := floorI n + 1) (by omega)
  omega
theorem floor_small {n : Int} (h : n < 2) : floorI n = 0 := by
  by_cases h1 : n = 1
  · subst h1; decide
  · unfold floorI
    rw [show n.toNat = 0 by omega]; decide
theorem ceil_small {n : Int} (h : n < 2) : ceilI n = 0 := by unfold ceilI; rw [if_pos h]

theorem ceil_spec {n : Int} (h : 1 ≤ n) : n ≤ ((2 ^ ceilI n : Nat) : Int) ∧ (ceilI n = 0 ∨ ((2 ^ (ceilI n - 1) : Nat) : Int) < n) := by
  by_cases h1 : n < 2
  · rw [ceil_small h1]; exact ⟨by simp; omega, .inl rfl⟩
  · have a := Nat.log2_self_le (n := n.toNat - 1) (by omega)
    have b := Nat.lt_log2_self (n := n.toNat - 1)
    unfold ceilI
    rw [if_neg h1]
    refine ⟨by omega, .inr ?_⟩
    rw [Nat.add_sub_cancel]; omega
theorem ceil_unique {n : Int} {k : Nat} (h : 1 ≤ n) (h1 : n ≤ ((2 ^ k : Nat) : Int)) (h2 : k = 0 ∨ ((2 ^ (k - 1) : Nat) : Int) < n) : ceilI n = k := by
  obtain ⟨s1, s2⟩ := ceil_spec h
  have a : ceilI n ≤ k := by
    rcases s2 with s2 | s2
    · omega
    · have := lt_of_pow (a := ceilI n - 1) (b := k) (by omega); omega
  have b : k ≤ ceilI n := by
    rcases h2 with h2 | h2
    · omega
    · have := lt_of_pow (a := k - 1) (b := ceilI n) (by omega); omega
  omega

theorem floor_mono {n m : Int} (h : n ≤ m) : floorI n ≤ floorI m := by
  by_cases h1 : n < 2
  · rw [floor_small h1]; omega
  · have a := floor_spec (n := n) (by omega)
    have b := floor_spec (n := m) (by omega)
    have := lt_of_pow (a := floorI n) (b := floorI m + 1) (by omega)
    omega
theorem ceil_mono {n m : Int} (h : n ≤ m) : ceilI n ≤ ceilI m := by
  by_cases h1 : n < 2
  · rw [ceil_small h1]; omega
  · have a := ceil_spec (n := n) (by omega)
    have b := ceil_spec (n := m) (by omega)
    rcases a.2 with a2 | a2
    · omega
    · have := lt_of_pow (a := ceilI n - 1) (b := ceilI m) (by omega); omega

theorem floor_at (k : Nat) : floorI ((2 ^ k : Nat) : Int) = k := floor_unique (Int.le_refl _) (by have := Nat.two_pow_pos k; rw [two_pow_succ]; omega)
theorem ceil_at (k : Nat) : ceilI ((2 ^ k : Nat) : Int) = k := by
  have := Nat.two_pow_pos k
  refine ceil_unique (by omega) (Int.le_refl _) ?_
  cases k with
  | zero => exact .inl rfl
  | succ k => right; rw [Nat.add_sub_cancel, two_pow_succ]; have := Nat.two_pow_pos k; omega

theorem floor_le40 {n : Int} (h : n ≤ 1099511627776) : floorI n ≤ 40 := by
  have := floor_mono (n := n) (m := ((2 ^ 40 : Nat) : Int)) (by simpa using h)
  rwa [floor_at] at this
theorem ceil_le40 {n : Int} (h : n ≤ 1099511627776) : ceilI n ≤ 40 := by
  have := ceil_mono (n := n) (m := ((2 ^ 40 : Nat) : Int)) (by simpa using h)
  rwa [ceil_at] at this

theorem width_small {n : Int} (h : n < 1) : widthI n = 0 := by unfold widthI; rw [if_pos h]
theorem width_floor {n : Int} (h : 1 ≤ n) : widthI n = floorI n + 1 := by unfold widthI floorI; rw [if_neg (by omega)]
theorem width_le41 {n : Int} (h : n ≤ 1099511627776) : widthI n ≤ 41 := by
  by_cases h1 : n < 1
  · rw [width_small h1]; omega
  · rw [width_floor (by omega)]; have := floor_le40 h; omega

theorem floor_double {n : Int} (h : 1 ≤ n) : floorI (2 * n) = floorI n + 1 ∧ floorI (2 * n + 1) = floorI n + 1 := by
  have a := floor_spec h
  have e1 := two_pow_succ (floorI n)
  have e2 := two_pow_succ (floorI n + 1)
  exact ⟨floor_unique (by omega) (by omega), floor_unique (by omega) (by omega)⟩
theorem ceil_double {n : Int} (h : 1 ≤ n) : ceilI (2 * n) = ceilI n + 1 := by
  have a := ceil_spec h
  have e1 := two_pow_succ (ceilI n)
  refine ceil_unique (by omega) (by omega) (.inr ?_)
  rw [Nat.add_sub_cancel]
  rcases a.2 with a2 | a2
  · rw [a2]; simp; omega
  · by_cases h0 : ceilI n = 0
    · rw [h0]; simp; omega
    · have e2 := two_pow_succ (ceilI n - 1)
      rw [show ceilI n - 1 + 1 = ceilI n by omega] at e2
      omega
theorem width_double {n : Int} (h : 1 ≤ n) : widthI (2 * n) = widthI n + 1 ∧ widthI (2 * n + 1) = widthI n + 1 := by
  have := floor_double h
  rw [width_floor h, width_floor (by omega), width_floor (by omega)]; omega
theorem width_half {n : Int} (h : 1 ≤ n) : widthI n = widthI (n / 2) + 1 := by
  by_cases h1 : n = 1
  · subst h1; decide
  · have := width_double (n := n / 2) (by omega)
    by_cases h2 : n % 2 = 0
    · rw [show 2 * (n / 2) = n by omega] at this; exact this.1
    · rw [show 2 * (n / 2) + 1 = n by omega] at this; exact this.2

theorem both_at {n : Int} (h : 1 ≤ n) : ceilI n = floorI n ↔ n = ((2 ^ floorI n : Nat) : Int) := by
  have a := floor_spec h
  have b := ceil_spec h
  constructor
  · intro e; rw [e] at b; omega
  · intro e
    have := ceil_at (floorI n)
    rw [← e] at this; exact this

theorem pick_ge5 (n m most : Int) : 5 ≤ pickI n m most := by unfold pickI; omega
theorem pick_le40 {n m most : Int} (h : n ≤ 1099511627776) (h2 : m ≤ 1099511627776) : pickI n m most ≤ 40 := by
  have := floor_le40 h; have := ceil_le40 h2
  unfold pickI; omega
theorem pick_mono {n m most n' m' most' : Int} (h1 : n ≤ n') (h2 : m ≤ m') (h3 : most ≤ most') : pickI n m most ≤ pickI n' m' most' := by
  have := floor_mono h1; have := ceil_mono h2
  unfold pickI; omega

/-- a table has room -/
theorem pick_room {n m t : Int} (hm : 1 ≤ m) (ht : 5 ≤ t) (k : Nat) (hk : pickI n m t = (k : Int)) :
    m ≤ ((2 ^ k : Nat) : Int) ∧ ((k : Int) ≤ t ∨ ((2 ^ (k - 1) : Nat) : Int) < m) ∧ (k = 5 ∨ k ≤ floorI n ∨ ((2 ^ (k - 1) : Nat) : Int) < m) := by
  have c := ceil_spec hm
  unfold pickI at hk
  have hck : ceilI m ≤ k := by omega
  have hp := pow_le hck
  by_cases he : ceilI m = k
  · rw [he] at c
    refine ⟨c.1, ?_, ?_⟩
    · rcases c.2 with c2 | c2
      · left; omega
      · right; exact c2
    · rcases c.2 with c2 | c2
      · exfalso; omega
      · right; right; exact c2
  · refine ⟨by omega, by left; omega, ?_⟩
    by_cases h5 : k = 5
    · left; exact h5
    · right; left; omega

end Go.Proofs.Ytgnenelfbmpfgaa
