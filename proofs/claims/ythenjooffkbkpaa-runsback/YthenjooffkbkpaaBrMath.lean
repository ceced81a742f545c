/- Plain mathematics (no program): the bits of bytes, the mark, numbers out of bits. -/
import Derived.Test.YthenjooffkbkpaaBwMath
namespace Go.Proofs.Ythenjooffkbkpaa

theorem val_bitsOf (v n : Nat) : val (bitsOf v n) = v % 2 ^ n := by
  induction n with
  | zero => simp [bitsOf, val, Nat.mod_one]
  | succ n ih =>
    rw [bitsOf, val_append, ih, bitsOf_length, Nat.mod_pow_succ]
    congr 2
    have := Nat.mod_two_eq_zero_or_one (v / 2 ^ n)
    rcases this with h | h <;> simp [val, h]

theorem val_zeros (l : List Bool) (k : Nat) : val (l ++ List.replicate k false) = val l := by
  rw [val_append]
  have : val (List.replicate k false) = 0 := by
    induction k with
    | zero => rfl
    | succ k ih => simp [List.replicate_succ, val, ih]
  rw [this]; simp

theorem val_div (l : List Bool) (i : Nat) : val l / 2 ^ i = val (l.drop i) := by
  by_cases h : i ≤ l.length
  · have e : val l = val (l.take i) + 2 ^ i * val (l.drop i) := by
      conv => lhs; rw [← List.take_append_drop i l, val_append]
      rw [List.length_take, Nat.min_eq_left h]
    have h1 := val_lt (l.take i)
    rw [List.length_take, Nat.min_eq_left h] at h1
    rw [e, Nat.add_mul_div_left _ _ (Nat.pow_pos (by omega)), Nat.div_eq_of_lt h1, Nat.zero_add]
  · rw [List.drop_eq_nil_of_le (by omega)]
    have h1 := val_lt l
    have h2 : 2 ^ l.length ≤ 2 ^ i := Nat.pow_le_pow_right (by omega) (by omega)
    rw [Nat.div_eq_of_lt (by omega)]; rfl

theorem val_odd (l : List Bool) : decide (val l % 2 = 1) = l.getD 0 false := by
  cases l with
  | nil => rfl
  | cons b r =>
    have e : val (b :: r) % 2 = b.toNat := by
      simp only [val]
      cases b <;> simp <;> omega
    rw [e]; cases b <;> rfl

theorem val_bit (l : List Bool) (i : Nat) : decide (val l / 2 ^ i % 2 = 1) = l.getD i false := by
  rw [val_div, val_odd]
  simp [List.getD_eq_getElem?_getD]

theorem bitsOf_val (l : List Bool) : bitsOf (val l) l.length = l := by
  apply List.ext_getElem (by rw [bitsOf_length])
  intro i h1 h2
  rw [bitsOf_getElem, val_bit, List.getD_eq_getElem?_getD, List.getElem?_eq_getElem h2]; rfl

/-- the bits of bytes, each byte's lowest first -/
def bitsB : List Nat → List Bool
  | [] => []
  | x :: r => bitsOf x 8 ++ bitsB r

theorem bitsB_length (xs : List Nat) : (bitsB xs).length = 8 * xs.length := by
  induction xs with
  | nil => rfl
  | cons x r ih => simp [bitsB, bitsOf_length, ih]; omega

theorem bitsB_append (xs ys : List Nat) : bitsB (xs ++ ys) = bitsB xs ++ bitsB ys := by
  induction xs with
  | nil => rfl
  | cons x r ih => simp [bitsB, ih]

theorem bitsB_get (xs : List Nat) (i : Nat) (h : i < 8 * xs.length) : (bitsB xs)[i]? = some (decide (xs.getD (i / 8) 0 / 2 ^ (i % 8) % 2 = 1)) := by
  induction xs generalizing i with
  | nil => simp at h
  | cons x r ih =>
    simp only [bitsB]
    by_cases hi : i < 8
    · rw [List.getElem?_append_left (by rw [bitsOf_length]; exact hi), List.getElem?_eq_getElem (by rw [bitsOf_length]; exact hi), bitsOf_getElem]
      rw [show i / 8 = 0 from by omega, show i % 8 = i from by omega]; rfl
    · rw [List.getElem?_append_right (by rw [bitsOf_length]; omega), bitsOf_length, ih (i - 8) (by simp at h; omega)]
      rw [show i / 8 = (i - 8) / 8 + 1 from by omega, show (i - 8) % 8 = i % 8 from by omega]; rfl

theorem pack_bitsB (xs : List Nat) (h : ∀ x ∈ xs, x < 256) : pack (bitsB xs) = xs := by
  induction xs with
  | nil => rfl
  | cons x r ih =>
    simp only [bitsB]
    rw [pack_append _ _ (by rw [bitsOf_length]), ih (fun y hy => h y (by simp [hy]))]
    have e : pack (bitsOf x 8) = [x] := by
      have hx := h x (by simp)
      have hv : byteAt (bitsOf x 8) 0 = x := by
        unfold byteAt
        rw [Nat.mul_zero, List.drop_zero, List.take_of_length_le (by rw [bitsOf_length]; exact Nat.le_refl _), val_bitsOf, Nat.mod_eq_of_lt (by omega)]
      unfold pack
      rw [bitsOf_length]
      show List.map (byteAt (bitsOf x 8)) (List.range 1) = [x]
      simp [List.range_succ, hv]
    rw [e]; rfl

theorem bitsB_pack (bs : List Bool) : bitsB (pack bs) = bs ++ List.replicate (8 * ((bs.length + 7) / 8) - bs.length) false := by
  apply List.ext_getElem?
  intro i
  by_cases h : i < 8 * ((bs.length + 7) / 8)
  · rw [bitsB_get _ _ (by rw [pack_length]; exact h), List.getD_eq_getElem?_getD, pack_getElem? _ _ (by omega), Option.getD_some]
    unfold byteAt
    rw [val_bit]
    by_cases hi : i < bs.length
    · rw [List.getElem?_append_left hi, List.getElem?_eq_getElem hi, List.getD_eq_getElem?_getD, List.getElem?_take, if_pos (by omega), List.getElem?_drop, show 8 * (i / 8) + i % 8 = i from by omega, List.getElem?_eq_getElem hi]; rfl
    · rw [List.getElem?_append_right (by omega), List.getElem?_replicate, if_pos (by omega), List.getD_eq_getElem?_getD, List.getElem?_take, if_pos (by omega), List.getElem?_drop, show 8 * (i / 8) + i % 8 = i from by omega, List.getElem?_eq_none (by omega)]; rfl
  · rw [List.getElem?_eq_none (by rw [bitsB_length, pack_length]; omega), List.getElem?_eq_none (by simp; omega)]

theorem byteAt_zeros (l : List Bool) (k j : Nat) : byteAt (l ++ List.replicate k false) j = byteAt l j := by
  unfold byteAt
  rw [List.drop_append, List.take_append, List.drop_replicate, List.take_replicate, val_zeros]

theorem pack_zeros (l : List Bool) (k : Nat) (h : (l.length + k + 7) / 8 = (l.length + 7) / 8) : pack (l ++ List.replicate k false) = pack l := by
  apply List.ext_getElem (by simp [pack_length, h])
  intro j h1 h2
  rw [pack_getElem, pack_getElem, byteAt_zeros]

/-- how many bits a byte needs -/
def len8 (x : Nat) : Nat := if x = 0 then 0 else Nat.log2 x + 1

theorem len8_facts : ∀ x, x < 256 → x ≠ 0 → 1 ≤ len8 x ∧ len8 x ≤ 8 ∧ x / 2 ^ (len8 x - 1) % 2 = 1 ∧ ∀ j, j < 8 → len8 x ≤ j → x / 2 ^ j % 2 = 0 := by decide +kernel

/-- where the mark stands -/
def markPos (xs : List Nat) : Nat := 8 * (xs.length - 1) + len8 (xs.getD (xs.length - 1) 0) - 1
def openB (xs : List Nat) : List Bool := (bitsB xs).take (markPos xs)

theorem getD_lt (xs : List Nat) (h : ∀ x ∈ xs, x < 256) (i : Nat) : xs.getD i 0 < 256 := by
  rw [List.getD_eq_getElem?_getD]
  by_cases hi : i < xs.length
  · rw [List.getElem?_eq_getElem hi]; exact h _ (List.getElem_mem hi)
  · rw [List.getElem?_eq_none (by omega)]; decide

theorem markPos_lt (xs : List Nat) (hb : ∀ x ∈ xs, x < 256) (h0 : xs ≠ []) (hl : xs.getD (xs.length - 1) 0 ≠ 0) : 8 * (xs.length - 1) ≤ markPos xs ∧ markPos xs < 8 * xs.length := by
  have hn : 0 < xs.length := List.length_pos_iff.2 h0
  obtain ⟨f1, f2, _⟩ := len8_facts _ (getD_lt xs hb (xs.length - 1)) hl
  unfold markPos; omega

theorem openB_length (xs : List Nat) (hb : ∀ x ∈ xs, x < 256) (h0 : xs ≠ []) (hl : xs.getD (xs.length - 1) 0 ≠ 0) : (openB xs).length = markPos xs := by
  have := markPos_lt xs hb h0 hl
  unfold openB; rw [List.length_take, bitsB_length]; omega

theorem mark_split (xs : List Nat) (hb : ∀ x ∈ xs, x < 256) (h0 : xs ≠ []) (hl : xs.getD (xs.length - 1) 0 ≠ 0) :
    bitsB xs = openB xs ++ true :: List.replicate (8 * xs.length - markPos xs - 1) false := by
  have hn : 0 < xs.length := List.length_pos_iff.2 h0
  have hm := markPos_lt xs hb h0 hl
  have hlen := openB_length xs hb h0 hl
  obtain ⟨f1, f2, f3, f4⟩ := len8_facts _ (getD_lt xs hb (xs.length - 1)) hl
  have em : markPos xs = 8 * (xs.length - 1) + len8 (xs.getD (xs.length - 1) 0) - 1 := rfl
  generalize len8 (xs.getD (xs.length - 1) 0) = L at *
  apply List.ext_getElem?
  intro i
  by_cases hi : i < markPos xs
  · rw [List.getElem?_append_left (by omega)]
    unfold openB
    rw [List.getElem?_take, if_pos hi]
  · rw [List.getElem?_append_right (by omega), hlen]
    by_cases he : i = markPos xs
    · rw [he, Nat.sub_self, bitsB_get _ _ (by omega), show markPos xs / 8 = xs.length - 1 from by omega, show markPos xs % 8 = L - 1 from by omega, f3]; rfl
    · by_cases hb2 : i < 8 * xs.length
      · rw [bitsB_get _ _ hb2, show i / 8 = xs.length - 1 from by omega, f4 (i % 8) (by omega) (by omega)]
        rw [show i - markPos xs = (i - markPos xs - 1) + 1 from by omega, List.getElem?_cons_succ, List.getElem?_replicate, if_pos (by omega)]; rfl
      · rw [List.getElem?_eq_none (by rw [bitsB_length]; omega), List.getElem?_eq_none (by simp; omega)]

theorem mark_unique (a b : List Bool) (k m : Nat) (h : a ++ true :: List.replicate k false = b ++ true :: List.replicate m false) : a = b := by
  have key : ∀ (l : List Bool) (n : Nat), (l ++ true :: List.replicate n false).reverse.dropWhile (fun x => !x) = true :: l.reverse := by
    intro l n
    rw [List.reverse_append, List.reverse_cons, List.reverse_replicate, List.append_assoc]
    induction n with
    | zero => simp
    | succ n _ => simp [List.replicate_succ]
  have h1 := key a k
  rw [h, key b m] at h1
  simp at h1
  exact h1.symm

theorem close_last (bs : List Bool) : (pack (bs ++ [true])).length = bs.length / 8 + 1 ∧ (pack (bs ++ [true])).getD ((pack (bs ++ [true])).length - 1) 0 ≠ 0 ∧ pack (bs ++ [true]) ≠ [] := by
  have el : (pack (bs ++ [true])).length = bs.length / 8 + 1 := by rw [pack_length]; simp; omega
  refine ⟨el, ?_, fun h => by rw [h] at el; simp at el⟩
  rw [el, Nat.add_sub_cancel, List.getD_eq_getElem?_getD, pack_getElem? _ _ (by simp; omega), Option.getD_some]
  intro h
  have := mark_byte bs
  rw [h] at this; simp at this

theorem openB_close (bs : List Bool) : openB (pack (bs ++ [true])) = bs := by
  obtain ⟨el, hl, h0⟩ := close_last bs
  have hs := mark_split _ (pack_lt _) h0 hl
  rw [bitsB_pack, List.append_assoc] at hs
  exact (mark_unique _ _ _ _ hs).symm

theorem pack_openB (xs : List Nat) (hb : ∀ x ∈ xs, x < 256) (h0 : xs ≠ []) (hl : xs.getD (xs.length - 1) 0 ≠ 0) : pack (openB xs ++ [true]) = xs := by
  have hn : 0 < xs.length := List.length_pos_iff.2 h0
  have hs := mark_split xs hb h0 hl
  have hm := markPos_lt xs hb h0 hl
  have hlen := openB_length xs hb h0 hl
  have e := pack_bitsB xs hb
  rw [hs, show openB xs ++ true :: List.replicate (8 * xs.length - markPos xs - 1) false = (openB xs ++ [true]) ++ List.replicate (8 * xs.length - markPos xs - 1) false from by simp, pack_zeros _ _ (by simp [hlen]; omega)] at e
  exact e

/-- what Take tells, and what it leaves -/
def takeV (bs : List Bool) (n : Nat) : Nat := val (bs.drop (bs.length - n))
def takeR (bs : List Bool) (n : Nat) : List Bool := bs.take (bs.length - n)

theorem takeV_lt (bs : List Bool) (n : Nat) : takeV bs n < 2 ^ n := by
  have h := val_lt (bs.drop (bs.length - n))
  have h2 : 2 ^ (bs.drop (bs.length - n)).length ≤ 2 ^ n := Nat.pow_le_pow_right (by omega) (by simp; omega)
  unfold takeV; omega

theorem takeR_length (bs : List Bool) (n : Nat) : (takeR bs n).length = bs.length - n := by simp [takeR]

theorem drop_split (l : List Bool) (a b : Nat) (h : a ≤ b) (hb : b ≤ l.length) : l.drop a = (l.take b).drop a ++ l.drop b := by
  conv => lhs; rw [← List.take_append_drop b l, List.drop_append]
  rw [List.length_take, Nat.min_eq_left hb, Nat.sub_eq_zero_of_le h, List.drop_zero]

theorem take_split (bs : List Bool) (k c : Nat) (hk : k ≤ bs.length) (hc : c ≤ k) : takeV bs k = takeV (takeR bs c) (k - c) + 2 ^ (k - c) * takeV bs c ∧ takeR bs k = takeR (takeR bs c) (k - c) := by
  unfold takeV takeR
  rw [List.length_take, Nat.min_eq_left (by omega), show bs.length - c - (k - c) = bs.length - k from by omega]
  refine ⟨?_, by rw [List.take_take, Nat.min_eq_left (by omega)]⟩
  have e := drop_split bs (bs.length - k) (bs.length - c) (by omega) (by omega)
  rw [e, val_append]
  congr 2
  simp; congr 1; omega

theorem take_put (bs : List Bool) (v n : Nat) : takeV (bs ++ bitsOf v n) n = v % 2 ^ n ∧ takeR (bs ++ bitsOf v n) n = bs := by
  unfold takeV takeR
  rw [List.length_append, bitsOf_length, Nat.add_sub_cancel]
  rw [List.drop_left, List.take_left]
  exact ⟨val_bitsOf v n, rfl⟩

end Go.Proofs.Ythenjooffkbkpaa
