/- Plain: numbers as words of 16 bits, the lowest first (as puncheonref17 reckons with them). -/
import Derived.Test.YtokeoebhmjefoaaGreatBase6
namespace Go.Proofs.YtokeoebhmjefoaaGreat
open Go

def numW : List Nat → Nat
  | [] => 0
  | x :: r => x + 65536 * numW r
/-- the words of a carry -/
def digs (c : Nat) : List Nat := if c = 0 then [] else c % 65536 :: digs (c / 65536)
termination_by c
decreasing_by omega
theorem digs_zero : digs 0 = [] := by rw [digs]; simp
theorem digs_pos {c : Nat} (h : c ≠ 0) : digs c = c % 65536 :: digs (c / 65536) := by rw [digs]; simp [h]
theorem numW_digs (c : Nat) : numW (digs c) = c := by
  induction c using Nat.strongRecOn with
  | ind c ih =>
    by_cases h : c = 0
    · subst h; rw [digs_zero]; rfl
    · rw [digs_pos h, numW, ih (c / 65536) (by omega)]; omega
/-- times a small number, with a carry -/
def timesC (k : Nat) : List Nat → Nat → List Nat
  | [], c => digs c
  | x :: r, c => (x * k + c) % 65536 :: timesC k r ((x * k + c) / 65536)
theorem numW_times (k : Nat) (a : List Nat) (c : Nat) : numW (timesC k a c) = numW a * k + c := by
  induction a generalizing c with
  | nil => simp [timesC, numW_digs, numW]
  | cons x r ih =>
    simp only [timesC, numW, ih]
    have h1 := Nat.div_add_mod (x * k + c) 65536
    rw [Nat.add_mul, Nat.mul_assoc, Nat.mul_add]
    omega

/-- words without zeros at the end -/
def okW : List Nat → Prop
  | [] => True
  | [x] => 0 < x ∧ x < 65536
  | x :: y :: r => x < 65536 ∧ okW (y :: r)
theorem okW_cons {x : Nat} {l : List Nat} (hx : x < 65536) (h : okW l) (hl : l ≠ []) : okW (x :: l) := by
  cases l with
  | nil => exact absurd rfl hl
  | cons y r => exact ⟨hx, h⟩
theorem digs_ok (c : Nat) : okW (digs c) := by
  induction c using Nat.strongRecOn with
  | ind c ih =>
    by_cases h : c = 0
    · subst h; rw [digs_zero]; trivial
    · rw [digs_pos h]
      by_cases h2 : c / 65536 = 0
      · rw [h2, digs_zero]; exact ⟨by omega, by omega⟩
      · refine okW_cons (by omega) (ih _ (by omega)) ?_
        rw [digs_pos h2]; simp
theorem times_okL {k : Nat} (hk : 1 ≤ k) {a : List Nat} (h : okW a) (ha : a ≠ []) (c : Nat) : okW (timesC k a c) ∧ timesC k a c ≠ [] := by
  induction a generalizing c with
  | nil => exact absurd rfl ha
  | cons x r ih =>
    refine ⟨?_, by simp [timesC]⟩
    cases r with
    | nil =>
      obtain ⟨h1, h2⟩ := h
      simp only [timesC]
      have hp : 0 < x * k := Nat.mul_pos h1 hk
      by_cases h3 : (x * k + c) / 65536 = 0
      · rw [h3, digs_zero]; exact ⟨by omega, by omega⟩
      · refine okW_cons (by omega) (digs_ok _) ?_
        rw [digs_pos h3]; simp
    | cons y r =>
      obtain ⟨h1, h2⟩ := h
      have := ih h2 (by simp) ((x * k + c) / 65536)
      exact okW_cons (Nat.mod_lt _ (by omega)) this.1 this.2
theorem okW_lt {l : List Nat} (h : okW l) : numW l < 65536 ^ l.length := by
  induction l with
  | nil => simp [numW]
  | cons x r ih =>
    have hx : x < 65536 ∧ okW r := by
      cases r with
      | nil => exact ⟨h.2, trivial⟩
      | cons y r => exact h
    have := ih hx.2
    rw [List.length_cons, Nat.pow_succ, Nat.mul_comm]
    simp only [numW]
    omega
theorem okW_ge {l : List Nat} (h : okW l) (hl : l ≠ []) : 65536 ^ (l.length - 1) ≤ numW l := by
  induction l with
  | nil => exact absurd rfl hl
  | cons x r ih =>
    cases r with
    | nil => simp [numW]; exact h.1
    | cons y r =>
      have := ih h.2 (by simp)
      simp only [List.length_cons, Nat.add_sub_cancel] at this ⊢
      rw [Nat.pow_succ, Nat.mul_comm]
      rw [numW]
      omega

/-- held against each other from the top down: the first n words -/
def aboveF (a b : List Nat) : Nat → Bool
  | 0 => false
  | n + 1 => if a.getD n 0 = b.getD n 0 then aboveF a b n else decide (b.getD n 0 < a.getD n 0)
theorem numW_take (a : List Nat) (n : Nat) (h : n < a.length) : numW (a.take (n + 1)) = numW (a.take n) + 65536 ^ n * a.getD n 0 := by
  induction a generalizing n with
  | nil => simp at h
  | cons x r ih =>
    cases n with
    | zero => simp [numW]
    | succ n =>
      have := ih n (by simpa using h)
      simp only [List.take_succ_cons, numW, List.getD_cons_succ]
      rw [this, Nat.pow_succ, Nat.mul_add, Nat.mul_comm (65536 ^ n) 65536, Nat.mul_assoc]; omega
theorem takeW_lt {a : List Nat} (h : ∀ x ∈ a, x < 65536) (n : Nat) (hn : n ≤ a.length) : numW (a.take n) < 65536 ^ n := by
  induction n with
  | zero => simp [numW]
  | succ n ih =>
    rw [numW_take a n (by omega)]
    have h1 := ih (by omega)
    have h2 : a.getD n 0 < 65536 := by
      rw [List.getD_eq_getElem?_getD, List.getElem?_eq_getElem (by omega)]
      exact h _ (List.getElem_mem _)
    have h3 : 65536 ^ n * a.getD n 0 ≤ 65536 ^ n * 65535 := Nat.mul_le_mul_left _ (by omega)
    rw [Nat.pow_succ]
    omega
theorem above_num {a b : List Nat} (ha : ∀ x ∈ a, x < 65536) (hb : ∀ x ∈ b, x < 65536) (n : Nat) (h1 : n ≤ a.length) (h2 : n ≤ b.length) : aboveF a b n = decide (numW (b.take n) < numW (a.take n)) := by
  induction n with
  | zero => simp [aboveF, numW]
  | succ n ih =>
    have ih := ih (by omega) (by omega)
    have ta := takeW_lt ha n (by omega)
    have tb := takeW_lt hb n (by omega)
    rw [numW_take a n (by omega), numW_take b n (by omega)]
    simp only [aboveF]
    by_cases he : a.getD n 0 = b.getD n 0
    · rw [if_pos he, ih, he]
      exact decide_eq_decide.2 (by omega)
    · rw [if_neg he]
      refine decide_eq_decide.2 ?_
      constructor
      · intro hlt
        have : 65536 ^ n * (b.getD n 0 + 1) ≤ 65536 ^ n * a.getD n 0 := Nat.mul_le_mul_left _ (by omega)
        rw [Nat.mul_add] at this
        omega
      · intro hlt
        rcases Nat.lt_or_ge (b.getD n 0) (a.getD n 0) with h3 | h3
        · exact h3
        · exfalso
          have : 65536 ^ n * (a.getD n 0 + 1) ≤ 65536 ^ n * b.getD n 0 := Nat.mul_le_mul_left _ (by omega)
          rw [Nat.mul_add] at this
          omega
theorem okW_words {l : List Nat} (h : okW l) : ∀ x ∈ l, x < 65536 := by
  induction l with
  | nil => simp
  | cons x r ih =>
    have hx : x < 65536 ∧ okW r := by
      cases r with
      | nil => exact ⟨h.2, trivial⟩
      | cons y r => exact h
    intro z hz
    rcases List.mem_cons.1 hz with rfl | hz
    · exact hx.1
    · exact ih hx.2 z hz
/-- is a number above another one? -/
def aboveW (a b : List Nat) : Bool := if a.length = b.length then aboveF a b a.length else decide (b.length < a.length)
theorem aboveW_num {a b : List Nat} (ha : okW a) (hb : okW b) (h0 : a ≠ []) (h1 : b ≠ []) : aboveW a b = decide (numW b < numW a) := by
  unfold aboveW
  by_cases he : a.length = b.length
  · rw [if_pos he, above_num (okW_words ha) (okW_words hb) a.length (Nat.le_refl _) (by omega), List.take_length, List.take_of_length_le (by omega)]
  · rw [if_neg he]
    refine decide_eq_decide.2 ?_
    have la := okW_lt ha
    have lb := okW_lt hb
    have ga := okW_ge ha h0
    have gb := okW_ge hb h1
    constructor
    · intro hlt
      have : 65536 ^ b.length ≤ 65536 ^ (a.length - 1) := Nat.pow_le_pow_right (by omega) (by omega)
      omega
    · intro hlt
      rcases Nat.lt_or_ge b.length a.length with h3 | h3
      · exact h3
      · exfalso
        have : 65536 ^ a.length ≤ 65536 ^ (b.length - 1) := Nat.pow_le_pow_right (by omega) (by omega)
        omega

end Go.Proofs.YtokeoebhmjefoaaGreat
