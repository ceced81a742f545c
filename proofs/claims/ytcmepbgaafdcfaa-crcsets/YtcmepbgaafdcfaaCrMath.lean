/- Plain mathematics (no program): sums of bits and bytes (chapter 4), one bit a step. -/
import Derived.Test.YtcmepbgaafdcfaaBrMath
namespace Go.Proofs.Ytcmepbgaafdcfaa
open Go.RowKit

def poly : Nat := 3988292384
/-- one bit 0 -/
def stepL (x : Nat) : Nat := if x % 2 = 1 then (x / 2) ^^^ poly else x / 2
/-- n bits 0 -/
def iterL : Nat → Nat → Nat
  | 0, x => x
  | n + 1, x => iterL n (stepL x)
/-- bits, one behind the other -/
def crcBits (x : Nat) : List Bool → Nat
  | [] => x
  | b :: r => crcBits (stepL (x ^^^ b.toNat)) r
/-- bytes, one behind the other -/
def crcBytes (x : Nat) : List Nat → Nat
  | [] => x
  | y :: r => crcBytes (iterL 8 (x ^^^ y)) r

theorem xor_div_two (a b : Nat) : (a ^^^ b) / 2 = a / 2 ^^^ b / 2 := by
  apply Nat.eq_of_testBit_eq
  intro i
  rw [Nat.testBit_xor, ← Nat.testBit_succ, ← Nat.testBit_succ, ← Nat.testBit_succ, Nat.testBit_xor]

theorem xor_mod_two (a b : Nat) : (a ^^^ b) % 2 = (a % 2 + b % 2) % 2 := by
  have h := Nat.testBit_xor a b 0
  simp only [Nat.testBit_zero] at h
  have h1 := Nat.mod_two_eq_zero_or_one a
  have h2 := Nat.mod_two_eq_zero_or_one b
  have h3 := Nat.mod_two_eq_zero_or_one (a ^^^ b)
  rcases h1 with h1 | h1 <;> rcases h2 with h2 | h2 <;> rcases h3 with h3 | h3 <;> simp [h1, h2, h3] at h ⊢

theorem xor_lt32 {a b : Nat} (ha : a < 4294967296) (hb : b < 4294967296) : a ^^^ b < 4294967296 := Nat.xor_lt_two_pow (n := 32) ha hb

theorem xor_cancel (a b : Nat) : a ^^^ b ^^^ b = a := by rw [Nat.xor_assoc, Nat.xor_self, Nat.xor_zero]

theorem xor_swap (a b c d : Nat) : (a ^^^ b) ^^^ (c ^^^ d) = (a ^^^ c) ^^^ (b ^^^ d) := by
  rw [Nat.xor_assoc, ← Nat.xor_assoc b c d, Nat.xor_comm b c, Nat.xor_assoc c b d, ← Nat.xor_assoc]

theorem stepL_zero : stepL 0 = 0 := by decide
theorem stepL_lt {x : Nat} (h : x < 4294967296) : stepL x < 4294967296 := by
  unfold stepL; split
  · exact xor_lt32 (by omega) (by decide)
  · omega

theorem stepL_xor (a b : Nat) : stepL (a ^^^ b) = stepL a ^^^ stepL b := by
  have h := xor_mod_two a b
  have hd := xor_div_two a b
  have h1 := Nat.mod_two_eq_zero_or_one a
  have h2 := Nat.mod_two_eq_zero_or_one b
  unfold stepL
  rw [hd, h]
  rcases h1 with h1 | h1 <;> rcases h2 with h2 | h2 <;> simp only [h1, h2]
  · simp
  · simp [Nat.xor_assoc]
  · simp
    rw [Nat.xor_assoc, Nat.xor_comm (b / 2), Nat.xor_assoc]
  · simp
    rw [xor_swap, Nat.xor_self, Nat.xor_zero]

theorem stepL_even (z : Nat) : stepL (2 * z) = z := by
  unfold stepL; rw [if_neg (by omega)]; omega

/-- bit 31 tells which -/
theorem stepL_top {x : Nat} (h : x < 4294967296) : (stepL x).testBit 31 = decide (x % 2 = 1) := by
  have hx : (x / 2).testBit 31 = false := Nat.testBit_lt_two_pow (by omega)
  unfold stepL
  split
  · next hh => rw [Nat.testBit_xor, hx, decide_eq_true hh]; decide
  · next hh => rw [hx, decide_eq_false hh]

theorem stepL_inj {a b : Nat} (ha : a < 4294967296) (hb : b < 4294967296) (h : stepL a = stepL b) : a = b := by
  have h1 := stepL_top ha
  have h2 := stepL_top hb
  rw [h, h2] at h1
  have hp : a % 2 = b % 2 := by
    have := Nat.mod_two_eq_zero_or_one a
    have := Nat.mod_two_eq_zero_or_one b
    rcases Nat.mod_two_eq_zero_or_one a with e1 | e1 <;> rcases Nat.mod_two_eq_zero_or_one b with e2 | e2 <;> simp [e1, e2] at h1 ⊢
  have hd : a / 2 = b / 2 := by
    unfold stepL at h
    rw [hp] at h
    split at h
    · have := congrArg (· ^^^ poly) h
      simpa [xor_cancel] using this
    · exact h
  omega

theorem iterL_zero (n : Nat) : iterL n 0 = 0 := by
  induction n with
  | zero => rfl
  | succ n ih => rw [iterL, stepL_zero, ih]
theorem iterL_lt (n : Nat) {x : Nat} (h : x < 4294967296) : iterL n x < 4294967296 := by
  induction n generalizing x with
  | zero => exact h
  | succ n ih => exact ih (stepL_lt h)
theorem iterL_xor (n a b : Nat) : iterL n (a ^^^ b) = iterL n a ^^^ iterL n b := by
  induction n generalizing a b with
  | zero => rfl
  | succ n ih => rw [iterL, iterL, iterL, stepL_xor, ih]
theorem iterL_add (m n x : Nat) : iterL (m + n) x = iterL n (iterL m x) := by
  induction m generalizing x with
  | zero => rw [Nat.zero_add]; rfl
  | succ m ih => rw [show m + 1 + n = (m + n) + 1 from by omega, iterL, iterL, ih]
theorem iterL_inj (n : Nat) {a b : Nat} (ha : a < 4294967296) (hb : b < 4294967296) (h : iterL n a = iterL n b) : a = b := by
  induction n generalizing a b with
  | zero => exact h
  | succ n ih => exact stepL_inj ha hb (ih (stepL_lt ha) (stepL_lt hb) h)
theorem iterL_pow (n z : Nat) : iterL n (2 ^ n * z) = z := by
  induction n generalizing z with
  | zero => simp [iterL]
  | succ n ih => rw [iterL, Nat.pow_succ, show 2 ^ n * 2 * z = 2 * (2 ^ n * z) from by rw [Nat.mul_comm (2 ^ n) 2, Nat.mul_assoc], stepL_even, ih]

theorem bool_xor_even (b : Bool) (z : Nat) : b.toNat + 2 * z = b.toNat ^^^ 2 * z := by
  apply Nat.eq_of_testBit_eq
  intro i
  rw [Nat.testBit_xor]
  cases i with
  | zero =>
    simp only [Nat.testBit_zero]
    cases b
    · simp
    · have e1 : (1 + 2 * z) % 2 = 1 := by omega
      have e2 : (2 * z) % 2 = 0 := by omega
      simp [e1, e2]
  | succ i =>
    rw [Nat.testBit_succ, Nat.testBit_succ, Nat.testBit_succ]
    have e1 : (b.toNat + 2 * z) / 2 = z := by cases b <;> simp <;> omega
    have e2 : b.toNat / 2 = 0 := by cases b <;> simp
    have e3 : 2 * z / 2 = z := by omega
    rw [e1, e2, e3]; simp

/-- n bits at once -/
theorem crcBits_val (x : Nat) (bs : List Bool) : crcBits x bs = iterL bs.length (x ^^^ val bs) := by
  induction bs generalizing x with
  | nil => simp [crcBits, val, iterL]
  | cons b r ih =>
    rw [crcBits, ih, List.length_cons, iterL]
    congr 1
    show _ = stepL (x ^^^ (b.toNat + 2 * val r))
    rw [bool_xor_even, ← Nat.xor_assoc, stepL_xor (x ^^^ b.toNat), stepL_even]

theorem crcBits_append (x : Nat) (a b : List Bool) : crcBits x (a ++ b) = crcBits (crcBits x a) b := by
  induction a generalizing x with
  | nil => rfl
  | cons c r ih => rw [List.cons_append, crcBits, crcBits, ih]

theorem crcBytes_cons (x y : Nat) (r : List Nat) : crcBytes x (y :: r) = crcBytes (iterL 8 (x ^^^ y)) r := rfl

theorem crcBytes_append (x : Nat) (a b : List Nat) : crcBytes x (a ++ b) = crcBytes (crcBytes x a) b := by
  induction a generalizing x with
  | nil => rfl
  | cons c r ih => rw [List.cons_append, crcBytes_cons, crcBytes_cons, ih]

theorem crcBytes_bits (x : Nat) (xs : List Nat) (h : ∀ y ∈ xs, y < 256) : crcBytes x xs = crcBits x (bitsB xs) := by
  induction xs generalizing x with
  | nil => rfl
  | cons y r ih =>
    have hy := h y (by simp)
    rw [crcBytes_cons, ih _ (fun z hz => h z (by simp [hz]))]
    show _ = crcBits x (bitsOf y 8 ++ bitsB r)
    rw [crcBits_append, crcBits_val x (bitsOf y 8), bitsOf_length, val_bitsOf, Nat.mod_eq_of_lt (by omega)]

theorem crcBytes_lt (x : Nat) (xs : List Nat) (hx : x < 4294967296) (h : ∀ y ∈ xs, y < 256) : crcBytes x xs < 4294967296 := by
  induction xs generalizing x with
  | nil => exact hx
  | cons y r ih => rw [crcBytes_cons]; exact ih _ (iterL_lt 8 (xor_lt32 hx (by have := h y (by simp); omega))) (fun z hz => h z (by simp [hz]))

/-- what a byte does, by a table of what the low byte does -/
theorem byte_table (a : Nat) : iterL 8 a = iterL 8 (a % 256) ^^^ a / 256 := by
  have e : a = a % 256 ^^^ 2 ^ 8 * (a / 256) := by
    have h := Nat.two_pow_add_eq_or_of_lt (show a % 256 < 2 ^ 8 from Nat.mod_lt _ (by decide)) (a / 256)
    have h2 : 2 ^ 8 * (a / 256) + a % 256 = a := by omega
    apply Nat.eq_of_testBit_eq
    intro i
    rw [Nat.testBit_xor]
    by_cases hi : i < 8
    · have h3 : (2 ^ 8 * (a / 256)).testBit i = false := by rw [Nat.testBit_two_pow_mul]; simp; omega
      rw [h3, Bool.xor_false, show (256 : Nat) = 2 ^ 8 from rfl, Nat.testBit_mod_two_pow]; simp [hi]
    · have h3 : (a % 256).testBit i = false := Nat.testBit_lt_two_pow (Nat.lt_of_lt_of_le (Nat.mod_lt _ (by decide)) (show (256 : Nat) ≤ 2 ^ i from by
        have : 2 ^ 8 ≤ 2 ^ i := Nat.pow_le_pow_right (by omega) (by omega)
        omega))
      rw [h3, Bool.false_xor, Nat.testBit_two_pow_mul, show a / 256 = a / 2 ^ 8 from rfl, Nat.testBit_div_two_pow]
      have : i - 8 + 8 = i := by omega
      simp [this]; omega
  conv => lhs; rw [e]
  rw [iterL_xor, iterL_pow]

/-- both turned alike, sums differ alike -/
def xorB (a b : List Nat) : List Nat := List.zipWith (· ^^^ ·) a b

theorem crcBytes_xor (x y : Nat) (a b : List Nat) (h : a.length = b.length) : crcBytes (x ^^^ y) (xorB a b) = crcBytes x a ^^^ crcBytes y b := by
  induction a generalizing x y b with
  | nil =>
    cases b with
    | nil => rfl
    | cons _ _ => simp at h
  | cons c r ih =>
    cases b with
    | nil => simp at h
    | cons d s =>
      rw [show xorB (c :: r) (d :: s) = (c ^^^ d) :: xorB r s from rfl, crcBytes_cons, crcBytes_cons, crcBytes_cons, xor_swap, iterL_xor, ih _ _ _ (by simpa using h)]

/-- all bits turned -/
theorem turned {x : Nat} (h : x < 4294967296) : 4294967295 - x = 4294967295 ^^^ x := by
  have e : 4294967295 - x = (4294967295 ^^^ x) := by
    apply Nat.eq_of_testBit_eq
    intro i
    have h1 : 4294967295 - x = 2 ^ 32 - (x + 1) := by omega
    rw [h1, Nat.testBit_two_pow_sub_succ (by omega), Nat.testBit_xor, show (4294967295 : Nat) = 2 ^ 32 - 1 from rfl, Nat.testBit_two_pow_sub_one]
    by_cases hi : i < 32
    · simp [hi]
    · have : x.testBit i = false := Nat.testBit_lt_two_pow (Nat.lt_of_lt_of_le h (show (4294967296 : Nat) ≤ 2 ^ i from by
        have : 2 ^ 32 ≤ 2 ^ i := Nat.pow_le_pow_right (by omega) (by omega)
        omega))
      simp [hi, this]
  exact e

/-- the sum behind a sum -/
def crcAdd (s : Nat) (xs : List Nat) : Nat := 4294967295 - crcBytes (4294967295 - s) xs

theorem crcAdd_nil {s : Nat} (h : s < 4294967296) : crcAdd s [] = s := by
  unfold crcAdd crcBytes; omega

theorem crcAdd_append (s : Nat) (a b : List Nat) (ha : ∀ y ∈ a, y < 256) : crcAdd s (a ++ b) = crcAdd (crcAdd s a) b := by
  unfold crcAdd
  rw [crcBytes_append]
  have := crcBytes_lt (4294967295 - s) a (by omega) ha
  congr 2
  omega

theorem crcAdd_lt (s : Nat) (xs : List Nat) : crcAdd s xs < 4294967296 := by unfold crcAdd; omega

theorem xor_turned {a b : Nat} (ha : a < 4294967296) (hb : b < 4294967296) : (4294967295 - a) ^^^ (4294967295 - b) = a ^^^ b := by
  rw [turned ha, turned hb, xor_swap, Nat.xor_self, Nat.zero_xor]

/-- of two texts of one length, both with the same bits turned, the sums differ alike -/
theorem crc_linear (s : Nat) (a b e : List Nat) (ha : ∀ y ∈ a, y < 256) (hb : ∀ y ∈ b, y < 256) (he : ∀ y ∈ e, y < 256) (h1 : a.length = e.length) (h2 : b.length = e.length) :
    crcAdd s a ^^^ crcAdd s (xorB a e) = crcAdd s b ^^^ crcAdd s (xorB b e) := by
  have key : ∀ a : List Nat, (∀ y ∈ a, y < 256) → a.length = e.length → crcAdd s a ^^^ crcAdd s (xorB a e) = crcBytes 0 e := by
    intro a ha h1
    have hx : ∀ y ∈ xorB a e, y < 256 := by
      intro y hy
      unfold xorB at hy
      obtain ⟨i, hi, rfl⟩ := List.getElem_of_mem hy
      rw [List.getElem_zipWith]
      exact Nat.xor_lt_two_pow (n := 8) (ha _ (List.getElem_mem _)) (he _ (List.getElem_mem _))
    unfold crcAdd
    rw [xor_turned (crcBytes_lt _ _ (by omega) ha) (crcBytes_lt _ _ (by omega) hx)]
    have := crcBytes_xor (4294967295 - s) 0 a e h1
    rw [Nat.xor_zero] at this
    rw [this, ← Nat.xor_assoc, Nat.xor_self, Nat.zero_xor]
  rw [key a ha h1, key b hb h2]

end Go.Proofs.Ytcmepbgaafdcfaa
