/- Plain mathematics (no program): bits turned within 32 side by side; four bytes make any sum (chapter 4). -/
import Derived.Test.YtcmepbgaafdcfaaCrMath
namespace Go.Proofs.Ytcmepbgaafdcfaa
open Go.RowKit

/-- one bit of bytes turned -/
def flip (xs : List Nat) (j : Nat) : List Nat := xs.set (j / 8) (xs.getD (j / 8) 0 ^^^ 2 ^ (j % 8))
/-- those of the first i bits of y turned, from place k on -/
def flips (xs : List Nat) (k y : Nat) : Nat → List Nat
  | 0 => xs
  | i + 1 => if y / 2 ^ i % 2 = 1 then flip (flips xs k y i) (k + i) else flips xs k y i

theorem flip_length (xs : List Nat) (j : Nat) : (flip xs j).length = xs.length := by simp [flip]
theorem flips_length (xs : List Nat) (k y i : Nat) : (flips xs k y i).length = xs.length := by
  induction i with
  | zero => rfl
  | succ i ih => rw [flips]; split <;> simp [flip_length, ih]

theorem flip_lt (xs : List Nat) (h : ∀ x ∈ xs, x < 256) (j : Nat) : ∀ x ∈ flip xs j, x < 256 := by
  intro x hx
  unfold flip at hx
  rcases List.mem_or_eq_of_mem_set hx with h' | rfl
  · exact h x h'
  · refine Nat.xor_lt_two_pow (n := 8) (getD_lt xs h _) ?_
    exact Nat.pow_lt_pow_right (by omega) (by omega)

theorem flips_lt (xs : List Nat) (h : ∀ x ∈ xs, x < 256) (k y i : Nat) : ∀ x ∈ flips xs k y i, x < 256 := by
  induction i with
  | zero => exact h
  | succ i ih =>
    rw [flips]; split
    · exact flip_lt _ ih _
    · exact ih

theorem xorB_length (a e : List Nat) (h : a.length = e.length) : (xorB a e).length = a.length := by simp [xorB, h]

theorem flip_xorB (a e : List Nat) (h : a.length = e.length) (j : Nat) (hj : j / 8 < a.length) : flip (xorB a e) j = xorB a (flip e j) := by
  have hg : (xorB a e).getD (j / 8) 0 = a[j / 8] ^^^ e[j / 8] := by
    rw [List.getD_eq_getElem?_getD, List.getElem?_eq_getElem (by rw [xorB_length a e h]; exact hj)]
    simp [xorB]
  have hg2 : e.getD (j / 8) 0 = e[j / 8] := by
    rw [List.getD_eq_getElem?_getD, List.getElem?_eq_getElem (by omega)]; rfl
  show (xorB a e).set (j / 8) ((xorB a e).getD (j / 8) 0 ^^^ 2 ^ (j % 8)) = xorB a (e.set (j / 8) (e.getD (j / 8) 0 ^^^ 2 ^ (j % 8)))
  rw [hg, hg2]
  apply List.ext_getElem
  · simp [xorB, h]
  · intro i h1 h2
    by_cases hij : i = j / 8
    · subst hij
      simp [xorB, Nat.xor_assoc]
    · rw [List.getElem_set_ne (by omega)]
      simp [xorB, List.getElem_set_ne (show j / 8 ≠ i by omega)]

theorem xorB_zero (a : List Nat) (n : Nat) (h : a.length = n) : xorB a (List.replicate n 0) = a := by
  apply List.ext_getElem
  · simp [xorB, h]
  · intro i h1 h2
    simp [xorB]

theorem flips_xorB (a : List Nat) (n k y m : Nat) (h : a.length = n) (hk : k + m ≤ 8 * n) : flips a k y m = xorB a (flips (List.replicate n 0) k y m) := by
  induction m with
  | zero => exact (xorB_zero a n h).symm
  | succ m ih =>
    rw [flips, flips, ih (by omega)]
    split
    · exact flip_xorB a _ (by rw [flips_length]; simp [h]) (k + m) (by omega)
    · rfl

theorem bit_xor (x s t : Nat) : decide ((x ^^^ 2 ^ s) / 2 ^ t % 2 = 1) = (decide (x / 2 ^ t % 2 = 1) ^^ decide (s = t)) := by
  have e : ∀ z : Nat, decide (z / 2 ^ t % 2 = 1) = z.testBit t := by
    intro z
    rw [Nat.testBit_eq_decide_div_mod_eq]
  rw [e, e, Nat.testBit_xor, Nat.testBit_two_pow]

theorem bits_flip (xs : List Nat) (j : Nat) (hj : j < 8 * xs.length) (b : Bool) (hb : (bitsB xs)[j]? = some b) : bitsB (flip xs j) = (bitsB xs).set j (!b) := by
  apply List.ext_getElem?
  intro i
  by_cases hi : i < 8 * xs.length
  · rw [bitsB_get _ _ (by rw [flip_length]; exact hi)]
    by_cases hij : i = j
    · subst hij
      rw [List.getElem?_set_self (by rw [bitsB_length]; exact hi)]
      rw [bitsB_get _ _ hi] at hb
      have hg : (flip xs i).getD (i / 8) 0 = xs.getD (i / 8) 0 ^^^ 2 ^ (i % 8) := by
        unfold flip
        rw [List.getD_eq_getElem?_getD, List.getElem?_set_self (by omega)]; rfl
      rw [hg, bit_xor, Option.some.inj hb]; simp
    · rw [List.getElem?_set_ne (by omega), bitsB_get _ _ hi]
      by_cases hbyte : i / 8 = j / 8
      · have hg : (flip xs j).getD (i / 8) 0 = xs.getD (i / 8) 0 ^^^ 2 ^ (j % 8) := by
          unfold flip
          rw [hbyte, List.getD_eq_getElem?_getD, List.getElem?_set_self (by omega)]; rfl
        rw [hg, bit_xor, decide_eq_false (show ¬ j % 8 = i % 8 by omega)]; simp
      · have hg : (flip xs j).getD (i / 8) 0 = xs.getD (i / 8) 0 := by
          unfold flip
          rw [List.getD_eq_getElem?_getD, List.getElem?_set_ne (by omega), ← List.getD_eq_getElem?_getD]
        rw [hg]
  · rw [List.getElem?_eq_none (by rw [bitsB_length, flip_length]; omega), List.getElem?_eq_none (by simp [bitsB_length]; omega)]

theorem bitsB_zeros (n : Nat) : bitsB (List.replicate n 0) = List.replicate (8 * n) false := by
  apply List.ext_getElem?
  intro i
  by_cases hi : i < 8 * n
  · rw [bitsB_get _ _ (by simpa using hi), List.getElem?_replicate, if_pos hi]
    have : (List.replicate n 0).getD (i / 8) 0 = 0 := by
      rw [List.getD_eq_getElem?_getD, List.getElem?_replicate, if_pos (by omega)]; rfl
    rw [this]; simp
  · rw [List.getElem?_eq_none (by rw [bitsB_length]; simp; omega), List.getElem?_eq_none (by simp; omega)]

theorem bits_flips (n k y m : Nat) (hk : k + m ≤ 8 * n) : bitsB (flips (List.replicate n 0) k y m) = List.replicate k false ++ (bitsOf y m ++ List.replicate (8 * n - k - m) false) := by
  induction m with
  | zero =>
    rw [flips, bitsB_zeros]
    simp only [bitsOf, List.nil_append]
    rw [List.replicate_append_replicate]; congr 1; omega
  | succ m ih =>
    have ih := ih (by omega)
    have hz : List.replicate (8 * n - k - m) false = false :: List.replicate (8 * n - k - (m + 1)) false := by
      rw [show 8 * n - k - m = (8 * n - k - (m + 1)) + 1 from by omega, List.replicate_succ]
    rw [flips]
    have hget : (bitsB (flips (List.replicate n 0) k y m))[k + m]? = some false := by
      rw [ih, List.getElem?_append_right (by simp), List.length_replicate, show k + m - k = m from by omega, List.getElem?_append_right (by rw [bitsOf_length]; omega), bitsOf_length, Nat.sub_self, hz]; rfl
    split
    · next hb =>
      rw [bits_flip _ (k + m) (by rw [flips_length]; simp; omega) false hget, ih, hz]
      rw [List.set_append_right _ _ (by simp), List.length_replicate, show k + m - k = m from by omega, List.set_append_right _ _ (by rw [bitsOf_length]; omega), bitsOf_length, Nat.sub_self]
      simp [bitsOf, hb]
    · next hb =>
      rw [ih, hz]
      simp [bitsOf, hb]

theorem val_falses (k : Nat) : val (List.replicate k false) = 0 := by
  have := val_zeros [] k
  simpa [val] using this

theorem crc_flips (n k y m : Nat) (hk : k + m ≤ 8 * n) : crcBytes 0 (flips (List.replicate n 0) k y m) = iterL (8 * n - k - m) (iterL m (y % 2 ^ m)) := by
  rw [crcBytes_bits _ _ (flips_lt _ (by intro x hx; rw [List.eq_of_mem_replicate hx]; decide) _ _ _), bits_flips n k y m hk, crcBits_append, crcBits_append]
  rw [crcBits_val 0 (List.replicate k false), val_falses, Nat.xor_self, iterL_zero, crcBits_val 0 (bitsOf y m), bitsOf_length, val_bitsOf, Nat.zero_xor, crcBits_val _ (List.replicate _ false), val_falses, Nat.xor_zero, List.length_replicate]

/-- bits turned within 32 side by side are always found -/
theorem crc_bursts (a : List Nat) (ha : ∀ x ∈ a, x < 256) (k y m : Nat) (hm : m ≤ 32) (hk : k + m ≤ 8 * a.length) :
    crcAdd 0 (flips a k y m) = crcAdd 0 a ↔ y % 2 ^ m = 0 := by
  have hlt : y % 2 ^ m < 4294967296 := by
    have h1 := Nat.mod_lt y (show 2 ^ m > 0 from Nat.pow_pos (by omega))
    have h2 : 2 ^ m ≤ 2 ^ 32 := Nat.pow_le_pow_right (by omega) hm
    omega
  have hx := crcBytes_xor 4294967295 0 a (flips (List.replicate a.length 0) k y m) (by rw [flips_length]; simp)
  rw [Nat.xor_zero, ← flips_xorB a a.length k y m rfl hk, crc_flips a.length k y m hk] at hx
  have h1 := crcBytes_lt 4294967295 a (by omega) ha
  have h2 := crcBytes_lt 4294967295 (flips a k y m) (by omega) (flips_lt a ha k y m)
  unfold crcAdd
  constructor
  · intro h
    have he : crcBytes 4294967295 (flips a k y m) = crcBytes 4294967295 a := by
      simp only [Nat.sub_zero] at h; omega
    rw [he] at hx
    have hz : iterL (8 * a.length - k - m) (iterL m (y % 2 ^ m)) = 0 := by
      have := congrArg (fun z => crcBytes 4294967295 a ^^^ z) hx
      rw [Nat.xor_self, ← Nat.xor_assoc, Nat.xor_self, Nat.zero_xor] at this
      exact this.symm
    rw [← iterL_zero (8 * a.length - k - m)] at hz
    have hz2 := iterL_inj _ (iterL_lt m hlt) (by omega) hz
    rw [← iterL_zero m] at hz2
    exact iterL_inj _ hlt (by omega) hz2
  · intro h
    rw [h, iterL_zero, iterL_zero, Nat.xor_zero] at hx
    simp only [Nat.sub_zero]; rw [hx]

theorem mod_pow_bit (y i : Nat) : decide (y % 2 ^ (i + 1) ≠ 0) = (decide (y % 2 ^ i ≠ 0) || decide (y / 2 ^ i % 2 = 1)) := by
  rw [Nat.mod_pow_succ]
  have h := Nat.mod_two_eq_zero_or_one (y / 2 ^ i)
  have hp : 0 < 2 ^ i := Nat.pow_pos (by omega)
  rcases h with h | h
  · simp [h]
  · rw [h, Nat.mul_one]
    have : ¬ (y % 2 ^ i + 2 ^ i = 0) := by omega
    simp

/-- one step back -/
def unL (x : Nat) : Nat := if x / 2147483648 = 1 then 2 * (x ^^^ poly) + 1 else 2 * x
def iterU : Nat → Nat → Nat
  | 0, x => x
  | n + 1, x => iterU n (unL x)

theorem top_lt {x : Nat} (h : x < 4294967296) (h1 : x / 2147483648 = 1) : x ^^^ poly < 2147483648 := by
  refine Nat.lt_pow_two_of_testBit (n := 31) _ fun i hi => ?_
  by_cases h31 : i = 31
  · subst h31
    rw [Nat.testBit_xor]
    have : x.testBit 31 = true := by rw [Nat.testBit_eq_decide_div_mod_eq]; simp; omega
    rw [this]; decide
  · exact Nat.testBit_lt_two_pow (Nat.lt_of_lt_of_le (xor_lt32 h (by decide)) (show (4294967296 : Nat) ≤ 2 ^ i from by
      have : 2 ^ 32 ≤ 2 ^ i := Nat.pow_le_pow_right (by omega) (by omega)
      omega))

theorem unL_lt {x : Nat} (h : x < 4294967296) : unL x < 4294967296 := by
  unfold unL; split
  · next h1 => have := top_lt h h1; omega
  · omega

theorem stepL_unL {x : Nat} (h : x < 4294967296) : stepL (unL x) = x := by
  unfold unL; split
  · next h1 =>
    unfold stepL
    rw [if_pos (by omega), show (2 * (x ^^^ poly) + 1) / 2 = x ^^^ poly from by omega, xor_cancel]
  · exact stepL_even x

theorem iterU_lt (n : Nat) {x : Nat} (h : x < 4294967296) : iterU n x < 4294967296 := by
  induction n generalizing x with
  | zero => exact h
  | succ n ih => exact ih (unL_lt h)

theorem iterL_iterU (n : Nat) {x : Nat} (h : x < 4294967296) : iterL n (iterU n x) = x := by
  induction n generalizing x with
  | zero => rfl
  | succ n ih =>
    rw [iterL_add n 1, iterU, ih (unL_lt h)]
    show iterL 0 (stepL (unL x)) = x
    rw [stepL_unL h]; rfl

def four (x : Nat) : List Nat := [x % 256, x / 256 % 256, x / 65536 % 256, x / 16777216 % 256]

theorem val_bitsB_cons (y : Nat) (r : List Nat) (h : y < 256) : val (bitsB (y :: r)) = y + 256 * val (bitsB r) := by
  show val (bitsOf y 8 ++ bitsB r) = _
  rw [val_append, val_bitsOf, bitsOf_length, Nat.mod_eq_of_lt (by omega)]

theorem four_val {x : Nat} (h : x < 4294967296) : val (bitsB (four x)) = x := by
  unfold four
  rw [val_bitsB_cons _ _ (by omega), val_bitsB_cons _ _ (by omega), val_bitsB_cons _ _ (by omega), val_bitsB_cons _ _ (by omega)]
  show x % 256 + 256 * (x / 256 % 256 + 256 * (x / 65536 % 256 + 256 * (x / 16777216 % 256 + 256 * 0))) = x
  omega

/-- four bytes make any sum -/
theorem crc_sets (s want : Nat) (hs : s < 4294967296) (hw : want < 4294967296) : crcAdd s (four (iterU 32 (4294967295 - want) ^^^ (4294967295 - s))) = want := by
  have hu := iterU_lt 32 (show 4294967295 - want < 4294967296 by omega)
  have hx := xor_lt32 hu (show 4294967295 - s < 4294967296 by omega)
  unfold crcAdd
  rw [crcBytes_bits _ _ (by unfold four; intro y hy; simp at hy; omega), crcBits_val, four_val hx, bitsB_length]
  show 4294967295 - iterL 32 _ = want
  rw [Nat.xor_comm (iterU 32 _), ← Nat.xor_assoc, Nat.xor_self, Nat.zero_xor, iterL_iterU 32 (by omega)]
  omega

end Go.Proofs.Ytcmepbgaafdcfaa
