/- Plain mathematics of bits in bytes (no program): a list of bits, the first one lowest, eight to a byte. -/
import Derived.WalkKit
namespace Go.Proofs.Ythenjooffkbkpaa

def val : List Bool → Nat
  | [] => 0
  | b :: r => b.toNat + 2 * val r

theorem val_lt (l : List Bool) : val l < 2 ^ l.length := by
  induction l with
  | nil => simp [val]
  | cons b r ih =>
    simp only [val, List.length_cons, Nat.pow_succ]
    cases b <;> simp <;> omega

theorem val_append (a b : List Bool) : val (a ++ b) = val a + 2 ^ a.length * val b := by
  induction a with
  | nil => simp [val]
  | cons x r ih =>
    simp only [val, List.cons_append, List.length_cons, Nat.pow_succ, ih]
    rw [Nat.mul_add, Nat.mul_comm (2 ^ r.length) 2, ← Nat.mul_assoc]
    omega

def byteAt (l : List Bool) (j : Nat) : Nat := val ((l.drop (8 * j)).take 8)
def pack (l : List Bool) : List Nat := (List.range ((l.length + 7) / 8)).map (byteAt l)

theorem pack_length (l : List Bool) : (pack l).length = (l.length + 7) / 8 := by simp [pack]

theorem byteAt_lt (l : List Bool) (j : Nat) : byteAt l j < 256 := by
  have h := val_lt ((l.drop (8 * j)).take 8)
  have h2 : ((l.drop (8 * j)).take 8).length ≤ 8 := by simp; omega
  have h3 : 2 ^ ((l.drop (8 * j)).take 8).length ≤ 2 ^ 8 := Nat.pow_le_pow_right (by omega) h2
  unfold byteAt; omega

theorem byteAt_last_lt (l : List Bool) : byteAt l (l.length / 8) < 2 ^ (l.length % 8) := by
  have h := val_lt ((l.drop (8 * (l.length / 8))).take 8)
  have h2 : ((l.drop (8 * (l.length / 8))).take 8).length = l.length % 8 := by simp; omega
  unfold byteAt; rw [h2] at h; exact h

theorem pack_getElem (l : List Bool) (j : Nat) (h : j < (pack l).length) : (pack l)[j] = byteAt l j := by simp [pack]

theorem pack_getElem? (l : List Bool) (j : Nat) (h : j < (l.length + 7) / 8) : (pack l)[j]? = some (byteAt l j) := by
  rw [List.getElem?_eq_getElem (by rw [pack_length]; exact h), pack_getElem]

theorem pack_lt (l : List Bool) : ∀ x ∈ pack l, x < 256 := by
  intro x hx
  simp only [pack, List.mem_map] at hx
  obtain ⟨j, _, rfl⟩ := hx
  exact byteAt_lt l j

theorem byteAt_append_left (a b : List Bool) (j : Nat) (h : 8 * j + 8 ≤ a.length) : byteAt (a ++ b) j = byteAt a j := by
  unfold byteAt
  rw [List.drop_append_of_le_length (by omega), List.take_append_of_le_length (by simp; omega)]

theorem byteAt_append_right (a b : List Bool) (j k : Nat) (h : a.length = 8 * k) : byteAt (a ++ b) (k + j) = byteAt b j := by
  unfold byteAt
  rw [List.drop_append, List.drop_eq_nil_of_le (by omega), List.nil_append]
  congr 2
  rw [h]; congr 1; omega

theorem byteAt_snoc (l : List Bool) (b : Bool) : byteAt (l ++ [b]) (l.length / 8) = byteAt l (l.length / 8) + b.toNat * 2 ^ (l.length % 8) := by
  unfold byteAt
  have e1 : ((l ++ [b]).drop (8 * (l.length / 8))).take 8 = (l.drop (8 * (l.length / 8))) ++ [b] := by
    rw [List.drop_append_of_le_length (by omega), List.take_of_length_le (by simp; omega)]
  have e2 : (l.drop (8 * (l.length / 8))).take 8 = l.drop (8 * (l.length / 8)) := List.take_of_length_le (by simp; omega)
  rw [e1, e2, val_append]
  have e3 : (l.drop (8 * (l.length / 8))).length = l.length % 8 := by simp; omega
  rw [e3]; simp [val, Nat.mul_comm]

theorem pack_snoc_new (l : List Bool) (b : Bool) (h : l.length % 8 = 0) : pack (l ++ [b]) = pack l ++ [b.toNat] := by
  have hb := byteAt_snoc l b
  have h0 := byteAt_last_lt l
  rw [h] at hb h0
  have e : (pack (l ++ [b])).length = (pack l).length + 1 := by simp [pack_length]; omega
  apply List.ext_getElem (by simp [e])
  intro j h1 h2
  rw [pack_getElem]
  rw [pack_length] at h1
  simp only [List.length_append, List.length_singleton] at h1
  by_cases hj : j < l.length / 8
  · rw [List.getElem_append_left (by rw [pack_length]; omega), pack_getElem, byteAt_append_left _ _ _ (by omega)]
  · have : j = l.length / 8 := by omega
    subst this
    rw [List.getElem_append_right (by rw [pack_length]; omega)]
    simp only [List.getElem_singleton]; rw [hb]; simp at h0; simp [h0]

theorem pack_snoc_old (l : List Bool) (b : Bool) (h : l.length % 8 ≠ 0) :
    pack (l ++ [b]) = (pack l).set (l.length / 8) (byteAt l (l.length / 8) + b.toNat * 2 ^ (l.length % 8)) := by
  have hb := byteAt_snoc l b
  apply List.ext_getElem (by simp [pack_length]; omega)
  intro j h1 h2
  rw [pack_getElem]
  rw [pack_length] at h1
  simp only [List.length_append, List.length_singleton] at h1
  by_cases hj : j = l.length / 8
  · subst hj; rw [List.getElem_set_self, hb]
  · rw [List.getElem_set_ne (by omega), pack_getElem, byteAt_append_left _ _ _ (by omega)]

theorem pack_append (a b : List Bool) (h : a.length % 8 = 0) : pack (a ++ b) = pack a ++ pack b := by
  apply List.ext_getElem (by simp [pack_length]; omega)
  intro j h1 h2
  rw [pack_getElem]
  rw [pack_length] at h1
  simp only [List.length_append] at h1
  by_cases hj : j < a.length / 8
  · rw [List.getElem_append_left (by rw [pack_length]; omega), pack_getElem, byteAt_append_left _ _ _ (by omega)]
  · rw [List.getElem_append_right (by rw [pack_length]; omega), pack_getElem]
    have e := byteAt_append_right a b (j - a.length / 8) (a.length / 8) (by omega)
    rw [show a.length / 8 + (j - a.length / 8) = j from by omega] at e
    rw [e, pack_length]; congr 1; omega

/-- the n lowest bits of v, the lowest first -/
def bitsOf (v : Nat) : Nat → List Bool
  | 0 => []
  | n + 1 => bitsOf v n ++ [decide (v / 2 ^ n % 2 = 1)]

theorem bitsOf_length (v n : Nat) : (bitsOf v n).length = n := by induction n with
  | zero => rfl
  | succ n ih => simp [bitsOf, ih]

theorem bitsOf_getElem (v n i : Nat) (h : i < (bitsOf v n).length) : (bitsOf v n)[i] = decide (v / 2 ^ i % 2 = 1) := by
  induction n with
  | zero => simp [bitsOf] at h
  | succ n ih =>
    simp only [bitsOf]
    by_cases hi : i < n
    · rw [List.getElem_append_left (by rw [bitsOf_length]; exact hi)]; exact ih _
    · have : i = n := by simp [bitsOf_length] at h; omega
      subst this
      rw [List.getElem_append_right (by rw [bitsOf_length]; omega)]; simp [bitsOf_length]

theorem bitsOf_split (v k c : Nat) (h : c ≤ k) : bitsOf v k = bitsOf v c ++ bitsOf (v / 2 ^ c) (k - c) := by
  apply List.ext_getElem (by simp [bitsOf_length]; omega)
  intro i h1 h2
  rw [bitsOf_length] at h1
  rw [bitsOf_getElem]
  by_cases hi : i < c
  · rw [List.getElem_append_left (by rw [bitsOf_length]; exact hi), bitsOf_getElem]
  · rw [List.getElem_append_right (by rw [bitsOf_length]; omega), bitsOf_getElem, bitsOf_length, Nat.div_div_eq_div_mul, ← Nat.pow_add]
    rw [show c + (i - c) = i from by omega]

theorem bitsOf_congr (u v k : Nat) (h : ∀ i, i < k → u / 2 ^ i % 2 = v / 2 ^ i % 2) : bitsOf u k = bitsOf v k := by
  apply List.ext_getElem (by simp [bitsOf_length])
  intro i h1 h2
  rw [bitsOf_length] at h1
  rw [bitsOf_getElem, bitsOf_getElem, h i h1]

/-- what Put does to the bits -/
def putB (bs : List Bool) (v : Nat) (n : Int) : List Bool := if 0 ≤ n ∧ n ≤ 24 then bs ++ bitsOf v n.toNat else bs

theorem putB_length (bs : List Bool) (v : Nat) (n : Int) : bs.length ≤ (putB bs v n).length ∧ (putB bs v n).length ≤ bs.length + 24 := by
  unfold putB; split
  · simp [bitsOf_length]; omega
  · omega

/-- the mark: behind the bits there is a 1, and above it nothing -/
theorem mark_byte (l : List Bool) : byteAt (l ++ [true]) (l.length / 8) / 2 ^ (l.length % 8) = 1 := by
  rw [byteAt_snoc]
  have h := byteAt_last_lt l
  have hp : 0 < 2 ^ (l.length % 8) := Nat.pow_pos (by omega)
  simp only [Bool.toNat_true, Nat.one_mul]
  rw [Nat.add_div_right _ hp, Nat.div_eq_of_lt h]

end Go.Proofs.Ythenjooffkbkpaa
