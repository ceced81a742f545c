/- Plain mathematics of chapter 9: fractions held against each other. -/
import Derived.Test.YtglejohoikobbaaBwMath
namespace Go.Proofs.Ytglejohoikobbaa
open Go

/-- a key -/
structure Ky where
  I : Int
  Q : Int
  S : Int
  deriving DecidableEq

def Ky.right (k : Ky) : Prop := 1 ≤ k.Q ∧ k.Q ≤ 4096 ∧ k.Q ≤ k.I ∧ k.I ≤ 2 * k.Q - 1 ∧ 0 ≤ k.S ∧ k.S ≤ 255
instance Ky.right_dec (k : Ky) : Decidable k.right := by unfold Ky.right; infer_instance

/-- how two right keys are to each other -/
def cmpR (a b : Ky) : Int :=
  if a.I * b.Q < b.I * a.Q ∨ (a.I * b.Q = b.I * a.Q ∧ a.S < b.S) then -1
  else if b.I * a.Q < a.I * b.Q ∨ (a.I * b.Q = b.I * a.Q ∧ b.S < a.S) then 1 else 0
def cmpK (a b : Ky) : Int := if a.right ∧ b.right then cmpR a b else 0

theorem cmpR_cases (a b : Ky) : (cmpR a b = -1 ∧ (a.I * b.Q < b.I * a.Q ∨ (a.I * b.Q = b.I * a.Q ∧ a.S < b.S))) ∨ (cmpR a b = 1 ∧ (b.I * a.Q < a.I * b.Q ∨ (a.I * b.Q = b.I * a.Q ∧ b.S < a.S))) ∨ (cmpR a b = 0 ∧ a.I * b.Q = b.I * a.Q ∧ a.S = b.S) := by
  unfold cmpR
  by_cases h1 : a.I * b.Q < b.I * a.Q ∨ (a.I * b.Q = b.I * a.Q ∧ a.S < b.S)
  · rw [if_pos h1]; exact .inl ⟨rfl, h1⟩
  · rw [if_neg h1]
    by_cases h2 : b.I * a.Q < a.I * b.Q ∨ (a.I * b.Q = b.I * a.Q ∧ b.S < a.S)
    · rw [if_pos h2]; exact .inr (.inl ⟨rfl, h2⟩)
    · rw [if_neg h2]
      have e : a.I * b.Q = b.I * a.Q := by omega
      have e2 : a.S = b.S := by omega
      exact .inr (.inr ⟨rfl, e, e2⟩)

theorem cmpR_turn (a b : Ky) : cmpR b a = -cmpR a b := by
  rcases cmpR_cases a b with ⟨h, h'⟩ | ⟨h, h'⟩ | ⟨h, h', h''⟩ <;> rcases cmpR_cases b a with ⟨g, g'⟩ | ⟨g, g'⟩ | ⟨g, g', g''⟩ <;> omega
theorem cmpR_self (a : Ky) : cmpR a a = 0 := by
  rcases cmpR_cases a a with ⟨h, h'⟩ | ⟨h, h'⟩ | ⟨h, _⟩
  · omega
  · omega
  · exact h
theorem cmpR_zero (a b : Ky) : cmpR a b = 0 ↔ (a.I * b.Q = b.I * a.Q ∧ a.S = b.S) := by
  rcases cmpR_cases a b with ⟨h, h'⟩ | ⟨h, h'⟩ | ⟨h, h', h''⟩
  · constructor
    · intro h0; omega
    · intro h0; omega
  · constructor
    · intro h0; omega
    · intro h0; omega
  · exact ⟨fun _ => ⟨h', h''⟩, fun _ => h⟩

/-- a's fraction is no more than b's, nor b's than c's: nor is a's more than c's -/
theorem frac_trans {ai aq bi bq ci cq : Int} (hb : 0 < bq) (ha : 0 < aq) (hc : 0 < cq) (h1 : ai * bq ≤ bi * aq) (h2 : bi * cq ≤ ci * bq) : ai * cq ≤ ci * aq ∧ (ai * bq < bi * aq ∨ bi * cq < ci * bq → ai * cq < ci * aq) := by
  have k1 : ai * bq * cq ≤ bi * aq * cq := Int.mul_le_mul_of_nonneg_right h1 (by omega)
  have k2 : bi * cq * aq ≤ ci * bq * aq := Int.mul_le_mul_of_nonneg_right h2 (by omega)
  have e1 : bi * aq * cq = bi * cq * aq := by rw [Int.mul_assoc, Int.mul_comm aq cq, ← Int.mul_assoc]
  have e2 : ai * bq * cq = ai * cq * bq := by rw [Int.mul_assoc, Int.mul_comm bq cq, ← Int.mul_assoc]
  have e3 : ci * bq * aq = ci * aq * bq := by rw [Int.mul_assoc, Int.mul_comm bq aq, ← Int.mul_assoc]
  refine ⟨Int.le_of_mul_le_mul_right (by omega : ai * cq * bq ≤ ci * aq * bq) hb, fun h => ?_⟩
  refine Int.lt_of_mul_lt_mul_right (a := bq) ?_ (by omega)
  rcases h with h | h
  · have := Int.mul_lt_mul_of_pos_right h hc; omega
  · have := Int.mul_lt_mul_of_pos_right h ha; omega

theorem cmpR_trans {a b c : Ky} (ha : 0 < a.Q) (hb : 0 < b.Q) (hc : 0 < c.Q) (h1 : cmpR a b ≤ 0) (h2 : cmpR b c ≤ 0) : cmpR a c ≤ 0 := by
  have k1 : a.I * b.Q ≤ b.I * a.Q ∧ (a.I * b.Q = b.I * a.Q → a.S ≤ b.S) := by
    rcases cmpR_cases a b with ⟨h, h'⟩ | ⟨h, h'⟩ | ⟨h, h', h''⟩ <;> omega
  have k2 : b.I * c.Q ≤ c.I * b.Q ∧ (b.I * c.Q = c.I * b.Q → b.S ≤ c.S) := by
    rcases cmpR_cases b c with ⟨h, h'⟩ | ⟨h, h'⟩ | ⟨h, h', h''⟩ <;> omega
  obtain ⟨t1, t2⟩ := frac_trans hb ha hc k1.1 k2.1
  have t3 : a.I * c.Q = c.I * a.Q → a.S ≤ c.S := fun e => by
    have n1 : ¬ (a.I * b.Q < b.I * a.Q ∨ b.I * c.Q < c.I * b.Q) := fun hh => by have := t2 hh; omega
    have := k1.2 (by omega)
    have := k2.2 (by omega)
    omega
  rcases cmpR_cases a c with ⟨h, h'⟩ | ⟨h, h'⟩ | ⟨h, h', h''⟩ <;> omega

theorem cmpR_trans2 {a b c : Ky} (ha : 0 < a.Q) (hb : 0 < b.Q) (hc : 0 < c.Q) (h1 : 0 ≤ cmpR a b) (h2 : 0 ≤ cmpR b c) : 0 ≤ cmpR a c := by
  have t1 := cmpR_turn a b
  have t2 := cmpR_turn b c
  have t3 := cmpR_turn a c
  have := cmpR_trans hc hb ha (show cmpR c b ≤ 0 by omega) (show cmpR b a ≤ 0 by omega)
  omega

/-- the middle one -/
theorem cmpR_mid (a b c : Ky) (hI : c.I = a.I + b.I) (hQ : c.Q = a.Q + b.Q) (hS : a.S = b.S) (hS2 : c.S = a.S) : cmpR a c = cmpR a b ∧ cmpR c b = cmpR a b := by
  have e1 : a.I * c.Q = a.I * a.Q + a.I * b.Q := by rw [hQ, Int.mul_add]
  have e2 : c.I * a.Q = a.I * a.Q + b.I * a.Q := by rw [hI, Int.add_mul]
  have e3 : c.I * b.Q = a.I * b.Q + b.I * b.Q := by rw [hI, Int.add_mul]
  have e4 : b.I * c.Q = b.I * a.Q + b.I * b.Q := by rw [hQ, Int.mul_add]
  constructor
  · rcases cmpR_cases a c with ⟨h, h'⟩ | ⟨h, h'⟩ | ⟨h, h', h''⟩ <;> rcases cmpR_cases a b with ⟨g, g'⟩ | ⟨g, g'⟩ | ⟨g, g', g''⟩ <;> omega
  · rcases cmpR_cases c b with ⟨h, h'⟩ | ⟨h, h'⟩ | ⟨h, h', h''⟩ <;> rcases cmpR_cases a b with ⟨g, g'⟩ | ⟨g, g'⟩ | ⟨g, g', g''⟩ <;> omega

/-- so many times, rounded down and up -/
def loK (k : Ky) (l : Int) : Int := l * k.I / k.Q
def hiK (k : Ky) (l : Int) : Int := (l * k.I + k.Q - 1) / k.Q
theorem scaled_spec (k : Ky) (l : Int) (hq : 0 < k.Q) : loK k l * k.Q ≤ l * k.I ∧ l * k.I < loK k l * k.Q + k.Q ∧ l * k.I ≤ hiK k l * k.Q ∧ hiK k l * k.Q < l * k.I + k.Q := by
  unfold loK hiK
  have a1 := Int.mul_ediv_add_emod (l * k.I) k.Q
  have a2 := Int.emod_nonneg (l * k.I) (show k.Q ≠ 0 by omega)
  have a3 := Int.emod_lt_of_pos (l * k.I) hq
  have b1 := Int.mul_ediv_add_emod (l * k.I + k.Q - 1) k.Q
  have b2 := Int.emod_nonneg (l * k.I + k.Q - 1) (show k.Q ≠ 0 by omega)
  have b3 := Int.emod_lt_of_pos (l * k.I + k.Q - 1) hq
  rw [Int.mul_comm k.Q (l * k.I / k.Q)] at a1
  rw [Int.mul_comm k.Q ((l * k.I + k.Q - 1) / k.Q)] at b1
  omega

theorem scaled_unique {q n lo hi : Int} (hq : 0 < q) (h1 : lo * q ≤ n) (h2 : n < lo * q + q) (h3 : n ≤ hi * q) (h4 : hi * q < n + q) : lo = n / q ∧ hi = (n + q - 1) / q := by
  constructor
  · symm
    refine Int.le_antisymm ?_ ?_
    · have : n / q < lo + 1 := Int.ediv_lt_of_lt_mul hq (by rw [Int.add_mul, Int.one_mul]; exact h2)
      omega
    · exact Int.le_ediv_of_mul_le hq h1
  · symm
    refine Int.le_antisymm ?_ ?_
    · have : (n + q - 1) / q < hi + 1 := Int.ediv_lt_of_lt_mul hq (by rw [Int.add_mul, Int.one_mul]; omega)
      omega
    · exact Int.le_ediv_of_mul_le hq (by omega)

theorem scaled_times (k : Ky) (l f : Int) (hq : 0 < k.Q) (hf : 0 < f) : loK ⟨k.I * f, k.Q * f, k.S⟩ l = loK k l ∧ hiK ⟨k.I * f, k.Q * f, k.S⟩ l = hiK k l := by
  have s := scaled_spec k l hq
  have hqf : 0 < k.Q * f := Int.mul_pos hq hf
  have e : l * (k.I * f) = l * k.I * f := by rw [Int.mul_assoc]
  have e1 : loK k l * (k.Q * f) = loK k l * k.Q * f := by rw [Int.mul_assoc]
  have e2 : hiK k l * (k.Q * f) = hiK k l * k.Q * f := by rw [Int.mul_assoc]
  have m1 := Int.mul_le_mul_of_nonneg_right s.1 (show 0 ≤ f by omega)
  have m2 := Int.mul_lt_mul_of_pos_right s.2.1 hf
  have m3 := Int.mul_le_mul_of_nonneg_right s.2.2.1 (show 0 ≤ f by omega)
  have m4 := Int.mul_lt_mul_of_pos_right s.2.2.2 hf
  rw [Int.add_mul] at m2 m4
  have u := scaled_unique (q := k.Q * f) (n := l * (k.I * f)) (lo := loK k l) (hi := hiK k l) hqf (by omega) (by omega) (by omega) (by omega)
  exact ⟨u.1.symm, u.2.symm⟩

theorem scaled_bound (k : Ky) (l : Int) (h : k.right) (h1 : 1 ≤ l) (h2 : l ≤ 4096) : 0 ≤ loK k l ∧ loK k l ≤ 8192 ∧ 0 ≤ hiK k l ∧ hiK k l ≤ 8192 := by
  obtain ⟨q1, q2, i1, i2, _, _⟩ := h
  have s := scaled_spec k l (by omega)
  have hn0 : 0 ≤ l * k.I := Int.mul_nonneg (by omega) (by omega)
  have hn : l * k.I ≤ l * (2 * k.Q - 1) := Int.mul_le_mul_of_nonneg_left i2 (by omega)
  have e : l * (2 * k.Q - 1) = l * 2 * k.Q - l := by rw [Int.mul_sub, Int.mul_one, ← Int.mul_assoc]
  have lo0 : 0 ≤ loK k l := Int.ediv_nonneg hn0 (by omega)
  have hi0 : 0 ≤ hiK k l := Int.ediv_nonneg (by omega) (by omega)
  have hlo : loK k l * k.Q ≤ l * 2 * k.Q := by omega
  have hhi : hiK k l * k.Q < (l * 2 + 1) * k.Q := by rw [Int.add_mul, Int.one_mul]; omega
  have a1 := Int.le_of_mul_le_mul_right hlo (by omega)
  have a2 := Int.lt_of_mul_lt_mul_right hhi (by omega)
  omega

end Go.Proofs.Ytglejohoikobbaa
