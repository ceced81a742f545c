/- Texts that other texts of this claim rest on, one behind the other (BwMath LgMath BwBase BwPut BwPutB BwPutC BwTell BwSame BrMath BrRead BrNew BrAwake BrSplits BwParts BwMany BfRead BfTake BgMath BfRest BfAwake BwBytes BrBack BfBack RnMath HsMath SpMath HdMath HdMathB HdMathC BwLawPut BwAwake BwFoot BwMark BoolRow). -/
import Derived.WalkKit
import Derived.Test.YtllkfmnofklpmaaRows
import Derived.WalkSpells
import Derived.WalkLawsBesides
import Derived.RegionTactic
import Derived.ChangeAlike
import Derived.Deep.QuietTactic
import Derived.BigQuiet
import Derived.StillTailTactics
import Derived.Laws.CopyOwn
import Derived.Lib.Hide
import Derived.Deep.AppendLies
import Derived.Laws.BytesArg
import Derived.Laws.MathBits
/- Plain mathematics of bits in bytes (no program): a list of bits, the first one lowest, eight to a byte. -/
namespace Go.Proofs.Ytllkfmnofklpmaa

def val : List Bool → Nat
  | [] => 0
  | b :: r => b.toNat + 2 * val r

theorem val_lt (l : List Bool) : val l < 2 ^ l.length := by
  induction l with
  | nil => simp [val]
  | cons b r ih =>
    simp only [val, List.length_cons, Nat.pow_succ]
    cases b <;> simp <;> omega

theorem val_append (a b : List Bool) : val (a ++ b) = val a + 2 ^ a.length * val b := by
  induction a with
  | nil => simp [val]
  | cons x r ih =>
    simp only [val, List.cons_append, List.length_cons, Nat.pow_succ, ih]
    rw [Nat.mul_add, Nat.mul_comm (2 ^ r.length) 2, ← Nat.mul_assoc]
    omega

def byteAt (l : List Bool) (j : Nat) : Nat := val ((l.drop (8 * j)).take 8)
def pack (l : List Bool) : List Nat := (List.range ((l.length + 7) / 8)).map (byteAt l)

theorem pack_length (l : List Bool) : (pack l).length = (l.length + 7) / 8 := by simp [pack]

theorem byteAt_lt (l : List Bool) (j : Nat) : byteAt l j < 256 := by
  have h := val_lt ((l.drop (8 * j)).take 8)
  have h2 : ((l.drop (8 * j)).take 8).length ≤ 8 := by simp; omega
  have h3 : 2 ^ ((l.drop (8 * j)).take 8).length ≤ 2 ^ 8 := Nat.pow_le_pow_right (by omega) h2
  unfold byteAt; omega

theorem byteAt_last_lt (l : List Bool) : byteAt l (l.length / 8) < 2 ^ (l.length % 8) := by
  have h := val_lt ((l.drop (8 * (l.length / 8))).take 8)
  have h2 : ((l.drop (8 * (l.length / 8))).take 8).length = l.length % 8 := by simp; omega
  unfold byteAt; rw [h2] at h; exact h

theorem pack_getElem (l : List Bool) (j : Nat) (h : j < (pack l).length) : (pack l)[j] = byteAt l j := by simp [pack]

theorem pack_getElem? (l : List Bool) (j : Nat) (h : j < (l.length + 7) / 8) : (pack l)[j]? = some (byteAt l j) := by
  rw [List.getElem?_eq_getElem (by rw [pack_length]; exact h), pack_getElem]

theorem pack_lt (l : List Bool) : ∀ x ∈ pack l, x < 256 := by
  intro x hx
  simp only [pack, List.mem_map] at hx
  obtain ⟨j, _, rfl⟩ := hx
  exact byteAt_lt l j

theorem byteAt_append_left (a b : List Bool) (j : Nat) (h : 8 * j + 8 ≤ a.length) : byteAt (a ++ b) j = byteAt a j := by
  unfold byteAt
  rw [List.drop_append_of_le_length (by omega), List.take_append_of_le_length (by simp; omega)]

theorem byteAt_append_right (a b : List Bool) (j k : Nat) (h : a.length = 8 * k) : byteAt (a ++ b) (k + j) = byteAt b j := by
  unfold byteAt
  rw [List.drop_append, List.drop_eq_nil_of_le (by omega), List.nil_append]
  congr 2
  rw [h]; congr 1; omega

theorem byteAt_snoc (l : List Bool) (b : Bool) : byteAt (l ++ [b]) (l.length / 8) = byteAt l (l.length / 8) + b.toNat * 2 ^ (l.length % 8) := by
  unfold byteAt
  have e1 : ((l ++ [b]).drop (8 * (l.length / 8))).take 8 = (l.drop (8 * (l.length / 8))) ++ [b] := by
    rw [List.drop_append_of_le_length (by omega), List.take_of_length_le (by simp; omega)]
  have e2 : (l.drop (8 * (l.length / 8))).take 8 = l.drop (8 * (l.length / 8)) := List.take_of_length_le (by simp; omega)
  rw [e1, e2, val_append]
  have e3 : (l.drop (8 * (l.length / 8))).length = l.length % 8 := by simp; omega
  rw [e3]; simp [val, Nat.mul_comm]

theorem pack_snoc_new (l : List Bool) (b : Bool) (h : l.length % 8 = 0) : pack (l ++ [b]) = pack l ++ [b.toNat] := by
  have hb := byteAt_snoc l b
  have h0 := byteAt_last_lt l
  rw [h] at hb h0
  have e : (pack (l ++ [b])).length = (pack l).length + 1 := by simp [pack_length]; omega
  apply List.ext_getElem (by simp [e])
  intro j h1 h2
  rw [pack_getElem]
  rw [pack_length] at h1
  simp only [List.length_append, List.length_singleton] at h1
  by_cases hj : j < l.length / 8
  · rw [List.getElem_append_left (by rw [pack_length]; omega), pack_getElem, byteAt_append_left _ _ _ (by omega)]
  · have : j = l.length / 8 := by omega
    subst this
    rw [List.getElem_append_right (by rw [pack_length]; omega)]
    simp only [List.getElem_singleton]; rw [hb]; simp at h0; simp [h0]

theorem pack_snoc_old (l : List Bool) (b : Bool) (h : l.length % 8 ≠ 0) :
    pack (l ++ [b]) = (pack l).set (l.length / 8) (byteAt l (l.length / 8) + b.toNat * 2 ^ (l.length % 8)) := by
  have hb := byteAt_snoc l b
  apply List.ext_getElem (by simp [pack_length]; omega)
  intro j h1 h2
  rw [pack_getElem]
  rw [pack_length] at h1
  simp only [List.length_append, List.length_singleton] at h1
  by_cases hj : j = l.length / 8
  · subst hj; rw [List.getElem_set_self, hb]
  · rw [List.getElem_set_ne (by omega), pack_getElem, byteAt_append_left _ _ _ (by omega)]

theorem pack_append (a b : List Bool) (h : a.length % 8 = 0) : pack (a ++ b) = pack a ++ pack b := by
  apply List.ext_getElem (by simp [pack_length]; omega)
  intro j h1 h2
  rw [pack_getElem]
  rw [pack_length] at h1
  simp only [List.length_append] at h1
  by_cases hj : j < a.length / 8
  · rw [List.getElem_append_left (by rw [pack_length]; omega), pack_getElem, byteAt_append_left _ _ _ (by omega)]
  · rw [List.getElem_append_right (by rw [pack_length]; omega), pack_getElem]
    have e := byteAt_append_right a b (j - a.length / 8) (a.length / 8) (by omega)
    rw [show a.length / 8 + (j - a.length / 8) = j from by omega] at e
    rw [e, pack_length]; congr 1; omega

/-- the n lowest bits of v, the lowest first -/
def bitsOf (v : Nat) : Nat → List Bool
  | 0 => []
  | n + 1 => bitsOf v n ++ [decide (v / 2 ^ n % 2 = 1)]

theorem bitsOf_length (v n : Nat) : (bitsOf v n).length = n := by induction n with
  | zero => rfl
  | succ n ih => simp [bitsOf, ih]

theorem bitsOf_getElem (v n i : Nat) (h : i < (bitsOf v n).length) : (bitsOf v n)[i] = decide (v / 2 ^ i % 2 = 1) := by
  induction n with
  | zero => simp [bitsOf] at h
  | succ n ih =>
    simp only [bitsOf]
    by_cases hi : i < n
    · rw [List.getElem_append_left (by rw [bitsOf_length]; exact hi)]; exact ih _
    · have : i = n := by simp [bitsOf_length] at h; omega
      subst this
      rw [List.getElem_append_right (by rw [bitsOf_length]; omega)]; simp [bitsOf_length]

theorem bitsOf_split (v k c : Nat) (h : c ≤ k) : bitsOf v k = bitsOf v c ++ bitsOf (v / 2 ^ c) (k - c) := by
  apply List.ext_getElem (by simp [bitsOf_length]; omega)
  intro i h1 h2
  rw [bitsOf_length] at h1
  rw [bitsOf_getElem]
  by_cases hi : i < c
  · rw [List.getElem_append_left (by rw [bitsOf_length]; exact hi), bitsOf_getElem]
  · rw [List.getElem_append_right (by rw [bitsOf_length]; omega), bitsOf_getElem, bitsOf_length, Nat.div_div_eq_div_mul, ← Nat.pow_add]
    rw [show c + (i - c) = i from by omega]

theorem bitsOf_congr (u v k : Nat) (h : ∀ i, i < k → u / 2 ^ i % 2 = v / 2 ^ i % 2) : bitsOf u k = bitsOf v k := by
  apply List.ext_getElem (by simp [bitsOf_length])
  intro i h1 h2
  rw [bitsOf_length] at h1
  rw [bitsOf_getElem, bitsOf_getElem, h i h1]

/-- what Put does to the bits -/
def putB (bs : List Bool) (v : Nat) (n : Int) : List Bool := if 0 ≤ n ∧ n ≤ 24 then bs ++ bitsOf v n.toNat else bs

theorem putB_length (bs : List Bool) (v : Nat) (n : Int) : bs.length ≤ (putB bs v n).length ∧ (putB bs v n).length ≤ bs.length + 24 := by
  unfold putB; split
  · simp [bitsOf_length]; omega
  · omega

/-- the mark: behind the bits there is a 1, and above it nothing -/
theorem mark_byte (l : List Bool) : byteAt (l ++ [true]) (l.length / 8) / 2 ^ (l.length % 8) = 1 := by
  rw [byteAt_snoc]
  have h := byteAt_last_lt l
  have hp : 0 < 2 ^ (l.length % 8) := Nat.pow_pos (by omega)
  simp only [Bool.toNat_true, Nat.one_mul]
  rw [Nat.add_div_right _ hp, Nat.div_eq_of_lt h]

end Go.Proofs.Ytllkfmnofklpmaa

/- Plain mathematics of chapter 7: logs to the base of two. -/
namespace Go.Proofs.Ytllkfmnofklpmaa
open Go

def floorI (n : Int) : Nat := Nat.log2 n.toNat
def ceilI (n : Int) : Nat := if n < 2 then 0 else Nat.log2 (n.toNat - 1) + 1
def widthI (n : Int) : Nat := if n < 1 then 0 else Nat.log2 n.toNat + 1
def pickI (n m most : Int) : Int := max (max (min ((floorI n : Int) - 2) most) 5) ((ceilI m : Nat) : Int)

theorem pow_le {a b : Nat} (h : a ≤ b) : 2 ^ a ≤ 2 ^ b := Nat.pow_le_pow_right (by omega) h
theorem lt_of_pow {a b : Nat} (h : 2 ^ a < 2 ^ b) : a < b := by
  rcases Nat.lt_or_ge a b with h1 | h1
  · exact h1
  · have := pow_le h1; omega
theorem two_pow_succ (k : Nat) : 2 ^ (k + 1) = 2 * 2 ^ k := by rw [Nat.pow_succ]; omega

theorem floor_spec {n : Int} (h : 1 ≤ n) : ((2 ^ floorI n : Nat) : Int) ≤ n ∧ n < ((2 ^ (floorI n + 1) : Nat) : Int) := by
  have h1 := Nat.log2_self_le (n := n.toNat) (by omega)
  have h2 := Nat.lt_log2_self (n := n.toNat)
  unfold floorI
  omega
theorem floor_unique {n : Int} {k : Nat} (h1 : ((2 ^ k : Nat) : Int) ≤ n) (h2 : n < ((2 ^ (k + 1) : Nat) : Int)) : floorI n = k := by
  have hp := Nat.two_pow_pos k
  have hs := floor_spec (n := n) (by omega)
  have a := lt_of_pow (a := floorI n) (b := k + 1) (by omega)
  have b := lt_of_pow (a := k) (b := floorI n + 1) (by omega)
  omega
theorem floor_small {n : Int} (h : n < 2) : floorI n = 0 := by
  by_cases h1 : n = 1
  · subst h1; decide
  · unfold floorI
    rw [show n.toNat = 0 by omega]; decide
theorem ceil_small {n : Int} (h : n < 2) : ceilI n = 0 := by unfold ceilI; rw [if_pos h]

theorem ceil_spec {n : Int} (h : 1 ≤ n) : n ≤ ((2 ^ ceilI n : Nat) : Int) ∧ (ceilI n = 0 ∨ ((2 ^ (ceilI n - 1) : Nat) : Int) < n) := by
  by_cases h1 : n < 2
  · rw [ceil_small h1]; exact ⟨by simp; omega, .inl rfl⟩
  · have a := Nat.log2_self_le (n := n.toNat - 1) (by omega)
    have b := Nat.lt_log2_self (n := n.toNat - 1)
    unfold ceilI
    rw [if_neg h1]
    refine ⟨by omega, .inr ?_⟩
    rw [Nat.add_sub_cancel]; omega
theorem ceil_unique {n : Int} {k : Nat} (h : 1 ≤ n) (h1 : n ≤ ((2 ^ k : Nat) : Int)) (h2 : k = 0 ∨ ((2 ^ (k - 1) : Nat) : Int) < n) : ceilI n = k := by
  obtain ⟨s1, s2⟩ := ceil_spec h
  have a : ceilI n ≤ k := by
    rcases s2 with s2 | s2
    · omega
    · have := lt_of_pow (a := ceilI n - 1) (b := k) (by omega); omega
  have b : k ≤ ceilI n := by
    rcases h2 with h2 | h2
    · omega
    · have := lt_of_pow (a := k - 1) (b := ceilI n) (by omega); omega
  omega

theorem floor_mono {n m : Int} (h : n ≤ m) : floorI n ≤ floorI m := by
  by_cases h1 : n < 2
  · rw [floor_small h1]; omega
  · have a := floor_spec (n := n) (by omega)
    have b := floor_spec (n := m) (by omega)
    have := lt_of_pow (a := floorI n) (b := floorI m + 1) (by omega)
    omega
theorem ceil_mono {n m : Int} (h : n ≤ m) : ceilI n ≤ ceilI m := by
  by_cases h1 : n < 2
  · rw [ceil_small h1]; omega
  · have a := ceil_spec (n := n) (by omega)
    have b := ceil_spec (n := m) (by omega)
    rcases a.2 with a2 | a2
    · omega
    · have := lt_of_pow (a := ceilI n - 1) (b := ceilI m) (by omega); omega

theorem floor_at (k : Nat) : floorI ((2 ^ k : Nat) : Int) = k := floor_unique (Int.le_refl _) (by have := Nat.two_pow_pos k; rw [two_pow_succ]; omega)
theorem ceil_at (k : Nat) : ceilI ((2 ^ k : Nat) : Int) = k := by
  have := Nat.two_pow_pos k
  refine ceil_unique (by omega) (Int.le_refl _) ?_
  cases k with
  | zero => exact .inl rfl
  | succ k => right; rw [Nat.add_sub_cancel, two_pow_succ]; have := Nat.two_pow_pos k; omega

theorem floor_le40 {n : Int} (h : n ≤ 1099511627776) : floorI n ≤ 40 := by
  have := floor_mono (n := n) (m := ((2 ^ 40 : Nat) : Int)) (by simpa using h)
  rwa [floor_at] at this
theorem ceil_le40 {n : Int} (h : n ≤ 1099511627776) : ceilI n ≤ 40 := by
  have := ceil_mono (n := n) (m := ((2 ^ 40 : Nat) : Int)) (by simpa using h)
  rwa [ceil_at] at this

theorem width_small {n : Int} (h : n < 1) : widthI n = 0 := by unfold widthI; rw [if_pos h]
theorem width_floor {n : Int} (h : 1 ≤ n) : widthI n = floorI n + 1 := by unfold widthI floorI; rw [if_neg (by omega)]
theorem width_le41 {n : Int} (h : n ≤ 1099511627776) : widthI n ≤ 41 := by
  by_cases h1 : n < 1
  · rw [width_small h1]; omega
  · rw [width_floor (by omega)]; have := floor_le40 h; omega

theorem floor_double {n : Int} (h : 1 ≤ n) : floorI (2 * n) = floorI n + 1 ∧ floorI (2 * n + 1) = floorI n + 1 := by
  have a := floor_spec h
  have e1 := two_pow_succ (floorI n)
  have e2 := two_pow_succ (floorI n + 1)
  exact ⟨floor_unique (by omega) (by omega), floor_unique (by omega) (by omega)⟩
theorem ceil_double {n : Int} (h : 1 ≤ n) : ceilI (2 * n) = ceilI n + 1 := by
  have a := ceil_spec h
  have e1 := two_pow_succ (ceilI n)
  refine ceil_unique (by omega) (by omega) (.inr ?_)
  rw [Nat.add_sub_cancel]
  rcases a.2 with a2 | a2
  · rw [a2]; simp; omega
  · by_cases h0 : ceilI n = 0
    · rw [h0]; simp; omega
    · have e2 := two_pow_succ (ceilI n - 1)
      rw [show ceilI n - 1 + 1 = ceilI n by omega] at e2
      omega
theorem width_double {n : Int} (h : 1 ≤ n) : widthI (2 * n) = widthI n + 1 ∧ widthI (2 * n + 1) = widthI n + 1 := by
  have := floor_double h
  rw [width_floor h, width_floor (by omega), width_floor (by omega)]; omega
theorem width_half {n : Int} (h : 1 ≤ n) : widthI n = widthI (n / 2) + 1 := by
  by_cases h1 : n = 1
  · subst h1; decide
  · have := width_double (n := n / 2) (by omega)
    by_cases h2 : n % 2 = 0
    · rw [show 2 * (n / 2) = n by omega] at this; exact this.1
    · rw [show 2 * (n / 2) + 1 = n by omega] at this; exact this.2

theorem both_at {n : Int} (h : 1 ≤ n) : ceilI n = floorI n ↔ n = ((2 ^ floorI n : Nat) : Int) := by
  have a := floor_spec h
  have b := ceil_spec h
  constructor
  · intro e; rw [e] at b; omega
  · intro e
    have := ceil_at (floorI n)
    rw [← e] at this; exact this

theorem pick_ge5 (n m most : Int) : 5 ≤ pickI n m most := by unfold pickI; omega
theorem pick_le40 {n m most : Int} (h : n ≤ 1099511627776) (h2 : m ≤ 1099511627776) : pickI n m most ≤ 40 := by
  have := floor_le40 h; have := ceil_le40 h2
  unfold pickI; omega
theorem pick_mono {n m most n' m' most' : Int} (h1 : n ≤ n') (h2 : m ≤ m') (h3 : most ≤ most') : pickI n m most ≤ pickI n' m' most' := by
  have := floor_mono h1; have := ceil_mono h2
  unfold pickI; omega

/-- a table has room -/
theorem pick_room {n m t : Int} (hm : 1 ≤ m) (ht : 5 ≤ t) (k : Nat) (hk : pickI n m t = (k : Int)) :
    m ≤ ((2 ^ k : Nat) : Int) ∧ ((k : Int) ≤ t ∨ ((2 ^ (k - 1) : Nat) : Int) < m) ∧ (k = 5 ∨ k ≤ floorI n ∨ ((2 ^ (k - 1) : Nat) : Int) < m) := by
  have c := ceil_spec hm
  unfold pickI at hk
  have hck : ceilI m ≤ k := by omega
  have hp := pow_le hck
  by_cases he : ceilI m = k
  · rw [he] at c
    refine ⟨c.1, ?_, ?_⟩
    · rcases c.2 with c2 | c2
      · left; omega
      · right; exact c2
    · rcases c.2 with c2 | c2
      · exfalso; omega
      · right; right; exact c2
  · refine ⟨by omega, by left; omega, ?_⟩
    by_cases h5 : k = 5
    · left; exact h5
    · right; left; omega

end Go.Proofs.Ytllkfmnofklpmaa

/- The relation 'only the blocks of S may have turned', a Writer in memory, and what bitw.setBit does. -/
namespace Go.Proofs.Ytllkfmnofklpmaa
open Go.RowKit

/-- Only blocks of S, and new ones, may have turned. -/
structure Chg (S : Nat → Prop) (w w' : World) : Prop where
  os : w'.os = w.os
  tape : w'.tape = w.tape
  output : w'.output = w.output
  size : w.heap.size ≤ w'.heap.size
  block : ∀ k, k < w.heap.size → ¬ S k → w'.heap[k]? = w.heap[k]?

theorem Chg.refl (S : Nat → Prop) (w : World) : Chg S w w := ⟨rfl, rfl, rfl, Nat.le_refl _, fun _ _ _ => rfl⟩
theorem Chg.trans {S T : Nat → Prop} {a b c : World} (h : Chg S a b) (k : Chg T b c) (hT : ∀ k, k < a.heap.size → T k → S k) : Chg S a c :=
  ⟨k.os.trans h.os, k.tape.trans h.tape, k.output.trans h.output, Nat.le_trans h.size k.size,
    fun i hi hs => (k.block i (Nat.lt_of_lt_of_le hi h.size) (fun ht => hs (hT i hi ht))).trans (h.block i hi hs)⟩
theorem Chg.mono {S T : Nat → Prop} {a b : World} (h : Chg S a b) (hT : ∀ k, k < a.heap.size → S k → T k) : Chg T a b :=
  ⟨h.os, h.tape, h.output, h.size, fun i hi hs => h.block i hi (fun hk => hs (hT i hi hk))⟩
theorem Chg.drew {S : Nat → Prop} {a b : World} (h : Chg S a b) : Chg S a b.drew := ⟨h.os, h.tape, h.output, h.size, h.block⟩
theorem Chg.drewN {S : Nat → Prop} {a b : World} (h : Chg S a b) (n : Nat) : Chg S a (b.drewN n) := ⟨h.os, h.tape, h.output, h.size, h.block⟩
theorem Chg.of_grown {w w' : World} {row : Option Nat} (h : w.grownBy w' row) : Chg (fun k => some k = row) w w' := ⟨h.os, h.tape, h.output, h.size, h.block⟩
theorem Chg.alloc (S : Nat → Prop) (w : World) (o : Obj) : Chg S w (w.alloc o) := ⟨rfl, rfl, rfl, by simp, fun k hk _ => Below.heap_alloc w o k hk⟩
theorem Chg.setCell (w : World) (a : Addr) (u : Value) : Chg (fun k => k = a.block) w (w.setCell a u) :=
  ⟨rfl, rfl, rfl, by simp [World.setCell], fun k _ hs => heap_setCell_other w a k u hs⟩
theorem Chg.of_below {w w' : World} (h : Below w.heap.size w w') : Chg (fun _ => False) w w' := ⟨h.os, h.tape, h.output, h.size, fun k hk _ => h.block k hk⟩
theorem Chg.below {S : Nat → Prop} {w w' : World} {B : Nat} (h : Chg S w w') (hB : B ≤ w.heap.size) (hS : ∀ k, k < B → ¬ S k) : Below B w w' :=
  ⟨h.os, h.tape, h.output, h.size, fun k hk => h.block k (by omega) (hS k hk)⟩
theorem Chg.own {S : Nat → Prop} {w w' : World} (h : Chg S w w') {base : Nat} {e : TypeId} {size : Nat} {v : Value} {n : Nat} {xs : List Value} (hown : w.ownsRow base e size v n xs)
    (hS : ∀ k, v.ownBlock = some k → ¬ S k) : w'.ownsRow base e size v n xs := by
  refine ⟨hown.1, ?_⟩
  rcases hown.2 with hn | ⟨g, cap, cur, rfl, hb, hgg, rest⟩
  · exact .inl hn
  · refine .inr ⟨g, cap, cur, rfl, hb, ?_, rest⟩
    rw [h.block g (Array.getElem?_eq_some_iff.1 hgg).1 (hS g rfl)]
    exact hgg

theorem ownsRow_mono {w : World} {base base' : Nat} {e : TypeId} {size : Nat} {v : Value} {n : Nat} {xs : List Value} (h : w.ownsRow base e size v n xs) (hb : base' ≤ base) : w.ownsRow base' e size v n xs := by
  refine ⟨h.1, ?_⟩
  rcases h.2 with hn | ⟨g, cap, cur, rfl, hb', rest⟩
  · exact .inl hn
  · exact .inr ⟨g, cap, cur, rfl, by omega, rest⟩

theorem ownsRow_base {w : World} {base base' : Nat} {e : TypeId} {size : Nat} {v : Value} {n : Nat} {xs : List Value} (h : w.ownsRow base e size v n xs) (hb : ∀ k, v.ownBlock = some k → base' ≤ k) : w.ownsRow base' e size v n xs := by
  refine ⟨h.1, ?_⟩
  rcases h.2 with hn | ⟨g, cap, cur, rfl, hb', rest⟩
  · exact .inl hn
  · exact .inr ⟨g, cap, cur, rfl, hb g rfl, rest⟩

/-- what each law's walk ends in -/
def Says (w : World) (e : Ending) (w' : World) : Prop := e = .returned (.bool true) ∧ Chg (fun _ => False) w w'

/-- bytes as values -/
def bv (xs : List Nat) : List Value := xs.map fun n : Nat => .int .u8 (n : Int)
theorem bv_length (xs : List Nat) : (bv xs).length = xs.length := by simp [bv]
theorem bv_set (xs : List Nat) (i n : Nat) : (bv xs).set i (.int .u8 (n : Int)) = bv (xs.set i n) := by simp [bv, List.map_set]
theorem bv_snoc (xs : List Nat) (n : Nat) : bv xs ++ [.int .u8 (n : Int)] = bv (xs ++ [n]) := by simp [bv]
theorem bv_get (xs : List Nat) (i : Nat) (h : i < xs.length) : (bv xs)[i]? = some (.int .u8 ((xs.getD i 0 : Nat) : Int)) := by
  simp [bv, List.getElem?_eq_getElem h]

theorem or_bit : ∀ k : Nat, k < 8 → ∀ x : Nat, x < 2 ^ k → bits .or .u8 (x : Int) ((2 : Int) ^ k % 256) = ((x + 2 ^ k : Nat) : Int) := by decide +kernel

theorem Try.infoU8 : (Try.prog.info? 5).map (fun i => (i.zero, i.size, i.bytes)) = some (some (.int .u8 0), 1, 1) := by kernel_rfl

set_option maxHeartbeats 400000 in
theorem setBit_any (g n cap i x : Nat) (w : World) (hc : w.cell? ⟨g, i / 8, none⟩ = some (.int .u8 (x : Int))) (hf : w.frozen? ⟨g, i / 8, none⟩ = false)
    (hi : i / 8 < n) (hi2 : i < 1000000000000) (hx : x < 2 ^ (i % 8)) :
    Calls Try.prog 81 #[.slice (some ⟨g, 0, none⟩) n cap, .int .i64 (i : Int)] w fun e w' => e = .returned (.tuple #[]) ∧ (w.setCell ⟨g, i / 8, none⟩ (.int .u8 ((x + 2 ^ (i % 8) : Nat) : Int))).drew = w' := by
  have H := Lib.hid (or_bit (i % 8) (by omega) x hx)
  have hx2 : 2 ^ (i % 8) ≤ 2 ^ 7 := Nat.pow_le_pow_right (by omega) (by omega)
  have hx0 : (0 : Int) ≤ x := by omega
  have hx1 : (x : Int) < 256 := by omega
  clear hx hx2
  go_enter Try.func81, Try.ntmps81
  go_wp2
  go_region
  all_goals (go_end0; exact ⟨rfl, by rw [H.out]⟩)

theorem setBit_row (base g n cap i : Nat) (xs : List Nat) (w : World) (hown : w.ownsRow base 5 1 (.slice (some ⟨g, 0, none⟩) n cap) n (bv xs))
    (hi : i / 8 < n) (hi2 : i < 1000000000000) (hx : xs.getD (i / 8) 0 < 2 ^ (i % 8)) :
    Calls Try.prog 81 #[.slice (some ⟨g, 0, none⟩) n cap, .int .i64 (i : Int)] w fun e w' => e = .returned (.tuple #[]) ∧
      w'.ownsRow base 5 1 (.slice (some ⟨g, 0, none⟩) n cap) n (bv (xs.set (i / 8) (xs.getD (i / 8) 0 + 2 ^ (i % 8)))) ∧ Chg (fun k => k = g) w w' := by
  have hlen : xs.length = n := by have := hown.1; simpa [bv] using this
  have hc := hown.cellAt (i / 8) (by omega)
  rw [bv_get xs (i / 8) (by omega)] at hc
  refine (setBit_any g n cap i (xs.getD (i / 8) 0) w hc (hown.frozenAt (i / 8)) hi hi2 hx).mono ?_
  rintro e w' ⟨rfl, rfl⟩
  have hs := hown.stored (i / 8) (.int .u8 ((xs.getD (i / 8) 0 + 2 ^ (i % 8) : Nat) : Int))
  rw [bv_set] at hs
  exact ⟨rfl, hs.1.drew, (Chg.setCell w ⟨g, i / 8, none⟩ _).drew⟩

end Go.Proofs.Ytllkfmnofklpmaa

/- A Writer in memory; what bitw.putBit does to it. -/
namespace Go.Proofs.Ytllkfmnofklpmaa
open Go.RowKit

/-- The Writer at block b holds the bits bs; its bytes lie in the block o (none: there are none yet). -/
def Wr (w : World) (b : Nat) (o : Option Nat) (bs : List Bool) : Prop :=
  ∃ v, w.heap[b]? = some (.cells #[v, .int .i64 (bs.length : Int)] 56 (0, 0)) ∧ v.ownBlock = o ∧ w.ownsRow (b + 1) 5 1 v ((bs.length + 7) / 8) (bv (pack bs))

/-- From w to w' only the Writer has turned; it holds bs now. -/
def WrTo (w w' : World) (b : Nat) (o : Option Nat) (bs : List Bool) : Prop :=
  ∃ o', Wr w' b o' bs ∧ Chg (fun k => k = b ∨ some k = o) w w' ∧ (o' = o ∨ ∃ k, o' = some k ∧ w.heap.size ≤ k)

theorem Wr.lt {w : World} {b : Nat} {o : Option Nat} {bs : List Bool} (h : Wr w b o bs) : b < w.heap.size ∧ ∀ k, o = some k → b < k ∧ k < w.heap.size := by
  obtain ⟨v, hb, ho, hown⟩ := h
  refine ⟨lt_of_block hb, fun k hk => ?_⟩
  have := hown.lt k (ho.trans hk)
  omega

theorem Wr.kept {S : Nat → Prop} {w w' : World} {b : Nat} {o : Option Nat} {bs : List Bool} (h : Wr w b o bs) (hc : Chg S w w') (h1 : ¬ S b) (h2 : ∀ k, o = some k → ¬ S k) : Wr w' b o bs := by
  have hl := h.lt
  obtain ⟨v, hb, ho, hown⟩ := h
  exact ⟨v, (hc.block b hl.1 h1).trans hb, ho, hc.own hown (fun k hk => h2 k (ho.symm.trans hk))⟩

theorem WrTo.trans {a w w' : World} {b : Nat} {o o1 : Option Nat} {bs : List Bool} (hc : Chg (fun k => k = b ∨ some k = o) a w) (h1 : o1 = o ∨ ∃ k, o1 = some k ∧ a.heap.size ≤ k) (h : WrTo w w' b o1 bs) : WrTo a w' b o bs := by
  obtain ⟨o', hw, hc', ho'⟩ := h
  refine ⟨o', hw, hc.trans hc' ?_, ?_⟩
  · intro k hk h'
    rcases h' with h' | h'
    · exact .inl h'
    · rcases h1 with rfl | ⟨k1, rfl, hk1⟩
      · exact .inr h'
      · simp only [Option.some.injEq] at h'; omega
  · rcases ho' with rfl | ⟨k, rfl, hk⟩
    · exact h1
    · exact .inr ⟨k, rfl, Nat.le_trans hc.size hk⟩

theorem cells2 {w : World} {b : Nat} {x y : Value} {t : TypeId} (h : w.heap[b]? = some (.cells #[x, y] t (0, 0))) :
    w.cell? ⟨b, 0, none⟩ = some x ∧ w.cell? ⟨b, 1, none⟩ = some y ∧ w.frozen? ⟨b, 0, none⟩ = false ∧ w.frozen? ⟨b, 1, none⟩ = false := by
  refine ⟨?_, ?_, frozen_of_row w b 0 _ t h, frozen_of_row w b 1 _ t h⟩
  · rw [cell_of_row w b 0 _ t _ h]; rfl
  · rw [cell_of_row w b 1 _ t _ h]; rfl

theorem set2_0 {w : World} {b : Nat} {x y u : Value} {t : TypeId} (h : w.heap[b]? = some (.cells #[x, y] t (0, 0))) : (w.setCell ⟨b, 0, none⟩ u).heap[b]? = some (.cells #[u, y] t (0, 0)) := by
  rw [heap_setCell_same w b 0 _ t u h]; rfl
theorem set2_1 {w : World} {b : Nat} {x y u : Value} {t : TypeId} (h : w.heap[b]? = some (.cells #[x, y] t (0, 0))) : (w.setCell ⟨b, 1, none⟩ u).heap[b]? = some (.cells #[x, u] t (0, 0)) := by
  rw [heap_setCell_same w b 1 _ t u h]; rfl

theorem slice_of_own {w : World} {base : Nat} {e : TypeId} {v : Value} {n : Nat} {xs : List Value} (h : w.ownsRow base e 1 v n xs) (hn : 0 < n) : ∃ g cap, v = .slice (some ⟨g, 0, none⟩) n cap ∧ base ≤ g := by
  rcases h.2 with ⟨_, h0⟩ | ⟨g, cap, cur, h, hb, _⟩
  · omega
  · exact ⟨g, cap, h, hb⟩

/-- the last line of putBit's walk: one bit more, in a world in which the row already holds it -/
theorem wr_close {w w2 : World} {b g cap : Nat} {o : Option Nat} {bs : List Bool} {one : Bool}
    (hb : w2.heap[b]? = some (.cells #[.slice (some ⟨g, 0, none⟩) ((bs.length + 1 + 7) / 8) cap, .int .i64 (bs.length : Int)] 56 (0, 0)))
    (hown : w2.ownsRow (b + 1) 5 1 (.slice (some ⟨g, 0, none⟩) ((bs.length + 1 + 7) / 8) cap) ((bs.length + 1 + 7) / 8) (bv (pack (bs ++ [one]))))
    (hc : Chg (fun k => k = b ∨ some k = o) w w2) (ho : some g = o ∨ w.heap.size ≤ g) :
    WrTo w (w2.setCell ⟨b, 1, none⟩ (.int .i64 ((bs.length : Int) + 1))) b o (bs ++ [one]) := by
  have hl := hown.lt g rfl
  refine ⟨some g, ⟨.slice (some ⟨g, 0, none⟩) ((bs.length + 1 + 7) / 8) cap, (by rw [set2_1 hb]; simp), rfl, ?_⟩, hc.trans (Chg.setCell w2 ⟨b, 1, none⟩ _) (fun k _ hk => .inl hk), ?_⟩
  · have := ownsRow_setCell_below hown (a := ⟨b, 1, none⟩) (by show b < b + 1; omega) (.int .i64 ((bs.length : Int) + 1))
    simpa using this
  · rcases ho with h | h
    · exact .inl h
    · exact .inr ⟨g, rfl, h⟩

end Go.Proofs.Ytllkfmnofklpmaa

/- What bitw.putBit does to a Writer. -/
namespace Go.Proofs.Ytllkfmnofklpmaa
open Go.RowKit

set_option maxHeartbeats 1000000 in
set_option maxRecDepth 20000 in
theorem putBit_old (b : Nat) (o : Option Nat) (bs : List Bool) (one : Bool) (w : World) (h : Wr w b o bs) (hlen : bs.length < 1000000000) (hm : bs.length % 8 ≠ 0) :
    Calls Try.prog 74 #[.pointer (some ⟨b, 0, none⟩), .bool one] w fun e w' => e = .returned (.tuple #[]) ∧ WrTo w w' b o (bs ++ [one]) := by
  obtain ⟨v, hb, ho, hown⟩ := h
  obtain ⟨g, cap, rfl, hbg⟩ := slice_of_own hown (by omega)
  obtain ⟨c0, c1, f0, f1⟩ := cells2 hb
  have hn : (bs.length + 1 + 7) / 8 = (bs.length + 7) / 8 := by omega
  have hlt := byteAt_last_lt bs
  have hget : (pack bs).getD (bs.length / 8) 0 = byteAt bs (bs.length / 8) := by
    rw [List.getD_eq_getElem?_getD, pack_getElem? bs _ (by omega)]; rfl
  have hold := pack_snoc_old bs one hm
  have ho' : some g = o := ho
  have ht : (((bs.length : Nat) : Int) % 8 == 0) = false := by rw [beq_eq_false_iff_ne]; omega
  have HO := Lib.hid ho; have HO' := Lib.hid ho'; have HN := Lib.hid hn; have HG := Lib.hid hget; have HP := Lib.hid hold; have HB := Lib.hid hb
  clear ho ho' hn hget hold hb
  cases one
  · go_enter Try.func74, Try.ntmps74
    go_wp2
    go_end0
    refine ⟨rfl, wr_close (g := g) (cap := cap) (w2 := w) (by rw [HN.out]; exact HB.out) ?_ (Chg.refl _ _) (.inl HO'.out)⟩
    rw [HN.out, HP.out]
    simp only [Bool.toNat_false, Nat.zero_mul, Nat.add_zero]
    rw [← HG.out, show (pack bs).set (bs.length / 8) ((pack bs).getD (bs.length / 8) 0) = pack bs from ?_]
    · exact hown
    · have hl : bs.length / 8 < (pack bs).length := by rw [pack_length]; omega
      rw [List.getD_eq_getElem?_getD, List.getElem?_eq_getElem hl]; simp
  · go_enter Try.func74, Try.ntmps74
    go_wp2
    go_still_tail 8, (by kernel_rfl)
    change wpList _ _ _ _ _ w.drew
    go_wp2_with fail
    refine (setBit_row (b + 1) g ((bs.length + 7) / 8) cap bs.length (pack bs) _ hown.drew (by omega) (by omega) (by rw [HG.out]; exact hlt)).mono ?_
    rintro e w2 ⟨rfl, hown2, hc2⟩
    have hc2' : Chg (fun k => k = g) w w2 := ⟨hc2.os, hc2.tape, hc2.output, hc2.size, hc2.block⟩
    have hb2 := (hc2'.block b (lt_of_block HB.out) (by omega)).trans HB.out
    obtain ⟨c0', c1', f0', f1'⟩ := cells2 hb2
    have HB2 := Lib.hid hb2
    clear hb2
    go_wp2
    go_end0
    refine ⟨rfl, wr_close (g := g) (cap := cap) (w2 := w2) (by rw [HN.out]; exact HB2.out) ?_ (hc2'.mono fun k _ hk => .inr (by rw [hk]; exact HO'.out)) (.inl HO'.out)⟩
    rw [HN.out, HP.out, ← HG.out]
    simpa using hown2

set_option maxHeartbeats 1000000 in
set_option maxRecDepth 20000 in
theorem putBit_new (b : Nat) (o : Option Nat) (bs : List Bool) (one : Bool) (w : World) (h : Wr w b o bs) (hlen : bs.length < 1000000000) (hm : bs.length % 8 = 0) :
    Calls Try.prog 74 #[.pointer (some ⟨b, 0, none⟩), .bool one] w fun e w' => e = .returned (.tuple #[]) ∧ WrTo w w' b o (bs ++ [one]) := by
  obtain ⟨i, hi, hz0, hz1, hz2⟩ := info_parts Try.infoU8
  obtain ⟨v, hb, ho, hown⟩ := h
  have hbl := lt_of_block hb
  obtain ⟨c0, c1, f0, f1⟩ := cells2 hb
  have hne : some b ≠ v.ownBlock := fun h => by have := hown.lt b h.symm; omega
  have hlo := hown.lt
  have ht : (((bs.length : Nat) : Int) % 8 == 0) = true := by rw [beq_iff_eq]; omega
  have HM := Lib.hid hm; have HO := Lib.hid ho; have HB := Lib.hid hb; have HL := Lib.hid hlo; have HNe := Lib.hid hne
  clear hm ho hb hlo hne
  have hnew := pack_snoc_new bs one HM.out
  have hn : (bs.length + 1 + 7) / 8 = (bs.length + 7) / 8 + 1 := by have := HM.out; omega
  have HW := Lib.hid hnew; have HN := Lib.hid hn
  clear hnew hn
  have key : ∀ (g cap : Nat) (w1 : World), (w.alloc (.cells #[.int .u8 0] 5)).grownBy w1 v.ownBlock → (v.ownBlock = some g ∨ g = w.heap.size + 1) →
      (some g = o ∨ w.heap.size ≤ g) ∧ w1.heap[b]? = some (.cells #[v, .int .i64 (bs.length : Int)] 56 (0, 0)) ∧ Chg (fun k => some k = o) w w1 := by
    intro g cap w1 h2 h3
    have hc : Chg (fun k => some k = o) w w1 := (Chg.alloc _ w _).trans (Chg.of_grown h2) (fun k _ hk => by rw [hk]; exact HO.out)
    refine ⟨?_, ?_, hc⟩
    · rcases h3 with h | h
      · exact .inl (by rw [← h]; exact HO.out)
      · exact .inr (by omega)
    · rw [hc.block b hbl (fun h => HNe.out (by rw [h]; exact HO.out.symm))]; exact HB.out
  cases one
  · go_enter Try.func74, Try.ntmps74
    go_wp2_with (at_builtin; refine wpList_append_lies _ rfl (.tmp 14) (.tmp 15) 31 rfl (b + 1) 5 i (.int .u8 0) 1 1 Try.underlying31 hi hz0 hz1 hz2 rfl (by decide) v ((bs.length + 7) / 8) _ rfl (hown.alloc _) ⟨w.heap.size, 0, none⟩ 1 1 [.int .u8 0] rfl rfl (cell_one_new _ _ _) ?c2 (by decide) (by unfold maxLen; omega) (by omega) (by simp; omega) (w.heap.size + 1) (by simp) ?_)
    case c2 => intro u hu; simp at hu; subst hu; rfl
    intro g cap w1 hown' hgrow hg _
    obtain ⟨hg, hb1, hc1⟩ := key g cap w1 hgrow hg
    have hbg := (hown'.lt g rfl).1
    obtain ⟨d0, d1, e0, e1⟩ := cells2 hb1
    have HB1 := Lib.hid hb1
    clear hb1 hgrow
    go_wp2
    go_end0
    refine ⟨rfl, wr_close (g := g) (cap := cap) (w2 := w1.setCell ⟨b, 0, none⟩ (.slice (some ⟨g, 0, none⟩) ((bs.length + 7) / 8 + 1) cap)) (by rw [HN.out]; exact set2_0 HB1.out) ?_ ((hc1.mono fun k _ hk => .inr hk).trans (Chg.setCell w1 ⟨b, 0, none⟩ _) (fun k _ hk => .inl hk)) hg⟩
    rw [HN.out, HW.out, ← bv_snoc]
    exact ownsRow_setCell_below hown' (a := ⟨b, 0, none⟩) (by show b < b + 1; omega) _
  · go_enter Try.func74, Try.ntmps74
    go_wp2_with (at_builtin; refine wpList_append_lies _ rfl (.tmp 14) (.tmp 15) 31 rfl (b + 1) 5 i (.int .u8 0) 1 1 Try.underlying31 hi hz0 hz1 hz2 rfl (by decide) v ((bs.length + 7) / 8) _ rfl (hown.alloc _) ⟨w.heap.size, 0, none⟩ 1 1 [.int .u8 0] rfl rfl (cell_one_new _ _ _) ?c2 (by decide) (by unfold maxLen; omega) (by omega) (by simp; omega) (w.heap.size + 1) (by simp) ?_)
    case c2 => intro u hu; simp at hu; subst hu; rfl
    intro g cap w1 hown' hgrow hg _
    obtain ⟨hg, hb1, hc1⟩ := key g cap w1 hgrow hg
    have hbg := (hown'.lt g rfl).1
    obtain ⟨d0, d1, e0, e1⟩ := cells2 hb1
    have HB1 := Lib.hid hb1
    clear hb1 hgrow
    have hb2 := set2_0 (u := .slice (some ⟨g, 0, none⟩) ((bs.length + 7) / 8 + 1) cap) HB1.out
    have hown2 := ownsRow_setCell_below hown' (a := ⟨b, 0, none⟩) (by show b < b + 1; omega) (.slice (some ⟨g, 0, none⟩) ((bs.length + 7) / 8 + 1) cap)
    have hc2 := (hc1.mono fun k _ hk => .inr hk).trans (Chg.setCell w1 ⟨b, 0, none⟩ (.slice (some ⟨g, 0, none⟩) ((bs.length + 7) / 8 + 1) cap)) (S := fun k => k = b ∨ some k = o) (fun k _ hk => .inl hk)
    have HB2 := Lib.hid hb2
    clear hb2
    go_wp2
    generalize w1.setCell ⟨b, 0, none⟩ (.slice (some ⟨g, 0, none⟩) ((bs.length + 7) / 8 + 1) cap) = w2 at *
    clear hown' hc1 d0 d1 e0 e1 HB1
    obtain ⟨d0, d1, e0, e1⟩ := cells2 HB2.out
    go_still_tail 8, (by kernel_rfl)
    change wpList _ _ _ _ _ w2.drew
    go_wp2_with fail
    refine (setBit_row (b + 1) g ((bs.length + 7) / 8 + 1) cap bs.length (pack bs ++ [0]) _ (by rw [← bv_snoc]; exact hown2.drew) (by have := HM.out; omega) (by omega) (by rw [HM.out, List.getD_eq_getElem?_getD, List.getElem?_append_right (by rw [pack_length]; have := HM.out; omega)]; rw [pack_length]; rw [show bs.length / 8 - (bs.length + 7) / 8 = 0 from by omega]; simp)).mono ?_
    rintro e w3 ⟨rfl, hown3, hc3⟩
    have hc3' : Chg (fun k => k = g) w2 w3 := ⟨hc3.os, hc3.tape, hc3.output, hc3.size, hc3.block⟩
    have hb3 := (hc3'.block b (lt_of_block HB2.out) (by omega)).trans HB2.out
    obtain ⟨c0', c1', f0', f1'⟩ := cells2 hb3
    have HB3 := Lib.hid hb3
    clear hb3
    go_wp2
    go_end0
    refine ⟨rfl, wr_close (g := g) (cap := cap) (w2 := w3) (by rw [HN.out]; exact HB3.out) ?_ (hc2.trans hc3' fun k hk hkg => ?_) hg⟩
    · rw [HN.out, HW.out]
      have e1 : (pack bs ++ [0]).getD (bs.length / 8) 0 = 0 := by
        rw [List.getD_eq_getElem?_getD, List.getElem?_append_right (by rw [pack_length]; have := HM.out; omega)]; rw [pack_length]; rw [show bs.length / 8 - (bs.length + 7) / 8 = 0 from by omega]; simp
      have e2 : (pack bs ++ [0]).set (bs.length / 8) 1 = pack bs ++ [1] := by
        rw [show bs.length / 8 = (pack bs).length from by rw [pack_length]; have := HM.out; omega]; simp
      rw [e1, HM.out] at hown3
      simpa [e2] using hown3
    · rcases hg with h | h
      · exact .inr (by rw [hkg]; exact h)
      · omega

theorem putBit_any (b : Nat) (o : Option Nat) (bs : List Bool) (one : Bool) (w : World) (h : Wr w b o bs) (hlen : bs.length < 1000000000) :
    Calls Try.prog 74 #[.pointer (some ⟨b, 0, none⟩), .bool one] w fun e w' => e = .returned (.tuple #[]) ∧ WrTo w w' b o (bs ++ [one]) := by
  by_cases hm : bs.length % 8 = 0
  · exact putBit_new b o bs one w h hlen hm
  · exact putBit_old b o bs one w h hlen hm

end Go.Proofs.Ytllkfmnofklpmaa

/- What bitw.New, Put, Bits do. -/
namespace Go.Proofs.Ytllkfmnofklpmaa
open Go.RowKit

theorem wraps_u32 (n : Int) (h0 : 0 ≤ n) (h1 : n < 2 ^ 32) : IntKind.u32.wrap n = n := by rw [IntKind.wrap_u32]; omega

theorem and_one_bit (v k : Nat) (hv : v < 4294967296) : (bits BinOp.and IntKind.u32 ((v : Int) / 2 ^ k) 1 == 1) = decide (v / 2 ^ k % 2 = 1) := by
  have e : ((v : Int) / 2 ^ k) = ((v / 2 ^ k : Nat) : Int) := by simp
  have hl : v / 2 ^ k ≤ v := Nat.div_le_self _ _
  rw [e]
  generalize v / 2 ^ k = y at *
  have h := bits_mask .u32 32 (by decide) wraps_u32 1 (by decide) (y : Int) (by omega) (by omega)
  rw [show (1 : Int) = 2 ^ 1 - 1 from by decide, h]
  rw [Bool.eq_iff_iff]; simp; omega

theorem new_any (w : World) : Calls Try.prog 9 #[] w fun e w' => e = .returned (.pointer (some ⟨w.heap.size, 0, none⟩)) ∧ w.alloc (.cells #[.slice none 0 0, .int .i64 0] 56) = w' := by
  go_enter Try.func9, Try.ntmps9
  go_wp2
  go_ret
  exact ⟨rfl, rfl⟩

theorem new_wr (w : World) : Calls Try.prog 9 #[] w fun e w' => e = .returned (.pointer (some ⟨w.heap.size, 0, none⟩)) ∧ Wr w' w.heap.size none [] ∧ Chg (fun _ => False) w w' := by
  refine (new_any w).mono ?_
  rintro e w' ⟨rfl, rfl⟩
  exact ⟨rfl, ⟨_, heap_alloc_new w _, rfl, World.ownsRow_nil _ _ _ _⟩, Chg.alloc _ w _⟩

theorem bits_any (b : Nat) (o : Option Nat) (bs : List Bool) (w : World) (h : Wr w b o bs) :
    Calls Try.prog 12 #[.pointer (some ⟨b, 0, none⟩)] w fun e w' => e = .returned (.int .i64 (bs.length : Int)) ∧ w = w' := by
  obtain ⟨v, hb, ho, hown⟩ := h
  obtain ⟨c0, c1, f0, f1⟩ := cells2 hb
  clear hb ho hown
  go_enter Try.func12, Try.ntmps12
  go_wp2
  go_ret
  exact ⟨rfl, rfl⟩

theorem put_no (b : Nat) (v n : Int) (w : World) (hn : n < 0 ∨ 24 < n) :
    Calls Try.prog 56 #[.pointer (some ⟨b, 0, none⟩), .int .u32 v, .int .i64 n] w fun e w' => e = .returned (.bool false) ∧ w = w' := by
  by_cases h0 : n < 0
  · have h0' : decide (n < 0) = true := by simpa using h0
    go_enter Try.func56, Try.ntmps56
    go_wp2
    go_ret
    exact ⟨rfl, rfl⟩
  · have h0' : decide (n < 0) = false := by simpa using h0
    have h1' : decide (24 < n) = true := by simp; omega
    go_enter Try.func56, Try.ntmps56
    go_wp2
    go_ret
    exact ⟨rfl, rfl⟩

set_option maxHeartbeats 400000 in
theorem put_yes (b : Nat) (o : Option Nat) (bs : List Bool) (v n : Nat) (w : World) (h : Wr w b o bs) (hlen : bs.length < 900000000) (hv : v < 4294967296) (hn : n ≤ 24) :
    Calls Try.prog 56 #[.pointer (some ⟨b, 0, none⟩), .int .u32 (v : Int), .int .i64 (n : Int)] w fun e w' => e = .returned (.bool true) ∧ WrTo w w' b o (bs ++ bitsOf v n) := by
  have h0' : decide ((n : Int) < 0) = false := by simp
  have h1' : decide (24 < (n : Int)) = false := by simp; omega
  have hst : WrTo w w b o (bs ++ bitsOf v 0) := ⟨o, by simpa [bitsOf] using h, Chg.refl _ _, .inl rfl⟩
  go_enter Try.func56, Try.ntmps56
  go_wp2
  go_loopw [15] (fun i wr => ∃ k : Nat, k ≤ n ∧ i = .int .i64 (k : Int) ∧ WrTo w wr b o (bs ++ bitsOf v k)) (fun i _ => n - (intOf i).toNat)
  case atStart => exact ⟨0, Nat.zero_le _, rfl, hst⟩
  case round =>
    obtain ⟨k, hk, rfl, hwr⟩ := hrel
    by_cases hlt : k < n
    · obtain ⟨o1, hw1, hc1, ho1⟩ := hwr
      go_wp2_with fail
      refine (putBit_any b o1 (bs ++ bitsOf v k) _ wr hw1 (by simp [bitsOf_length]; omega)).mono ?_
      rintro e w2 ⟨rfl, hw2⟩
      have hw2' := WrTo.trans hc1 ho1 hw2
      rw [and_one_bit v k hv, List.append_assoc, show bitsOf v k ++ [decide (v / 2 ^ k % 2 = 1)] = bitsOf v (k + 1) from rfl] at hw2'
      clear hw2 hw1 hc1 ho1
      go_wp2
      go_roundw
      case rel => exact ⟨k + 1, by omega, by go_num, hw2'⟩
      case measure => simp [intOf]; omega
    · obtain rfl : k = n := by omega
      go_wp2
      go_ret
      exact ⟨rfl, hwr⟩

theorem put_any (b : Nat) (o : Option Nat) (bs : List Bool) (v : Nat) (n : Int) (w : World) (h : Wr w b o bs) (hlen : bs.length < 900000000) (hv : v < 4294967296) :
    Calls Try.prog 56 #[.pointer (some ⟨b, 0, none⟩), .int .u32 (v : Int), .int .i64 n] w fun e w' => e = .returned (.bool (decide (0 ≤ n ∧ n ≤ 24))) ∧ WrTo w w' b o (putB bs v n) := by
  by_cases hn : 0 ≤ n ∧ n ≤ 24
  · obtain ⟨m, rfl⟩ := Int.eq_ofNat_of_zero_le hn.1
    refine (put_yes b o bs v m w h hlen hv (by omega)).mono ?_
    rintro e w' ⟨rfl, hw⟩
    rw [show decide (0 ≤ (m : Int) ∧ (m : Int) ≤ 24) = true from decide_eq_true hn, show putB bs v (m : Int) = bs ++ bitsOf v m from by unfold putB; rw [if_pos hn]; rfl]
    exact ⟨rfl, hw⟩
  · refine (put_no b v n w (by omega)).mono ?_
    rintro e w' ⟨rfl, rfl⟩
    rw [show decide (0 ≤ n ∧ n ≤ 24) = false from decide_eq_false hn, show putB bs v n = bs from by unfold putB; rw [if_neg hn]]
    exact ⟨rfl, o, h, Chg.refl _ _, .inl rfl⟩

end Go.Proofs.Ytllkfmnofklpmaa

/- What bitw's Close tells: memory of its own. -/
namespace Go.Proofs.Ytllkfmnofklpmaa
open Go.RowKit

/-- The call hands back bytes xs in memory of its own, and nothing that was there has turned. -/
def Fresh (w : World) (xs : List Nat) (e : Ending) (w' : World) : Prop :=
  ∃ g cap, e = .returned (.slice (some ⟨g, 0, none⟩) xs.length cap) ∧ w'.ownsRow w.heap.size 5 1 (.slice (some ⟨g, 0, none⟩) xs.length cap) xs.length (bv xs) ∧ Chg (fun _ => False) w w'

/-- a row that is known whole -/
theorem own_heap {w : World} {base g n : Nat} {e : TypeId} {xs : List Value} (h : w.ownsRow base e 1 (.slice (some ⟨g, 0, none⟩) n n) n xs) : w.heap[g]? = some (.cells xs.toArray e (0, 0)) := by
  rcases h.2 with ⟨h', _⟩ | ⟨g', cap', cur, h', _, hg, _, _, hcs, htake⟩
  · simp at h'
  · simp only [Value.slice.injEq, Option.some.injEq, Addr.mk.injEq, and_true, true_and] at h'
    obtain ⟨rfl, rfl⟩ := h'
    rw [hg, ← htake, List.take_of_length_le (by rw [Array.length_toList, hcs]; omega)]
theorem own_of_heap {w : World} {base g n : Nat} {e : TypeId} {xs : List Value} (hb : base ≤ g) (hn : xs.length = n) (hm : n ≤ maxLen) (h : w.heap[g]? = some (.cells xs.toArray e (0, 0))) : w.ownsRow base e 1 (.slice (some ⟨g, 0, none⟩) n n) n xs :=
  ⟨by omega, .inr ⟨g, n, xs.toArray, rfl, hb, h, Nat.le_refl _, hm, by simp [hn], List.take_of_length_le (by simp; omega)⟩⟩

theorem zeros_length (n : Nat) : (madeCells #[Value.int .u8 0] n).toList.length = n := by simp [madeCells]
theorem zeros_bv (n : Nat) : (madeCells #[Value.int .u8 0] n).toList = bv (List.replicate n 0) := by
  apply List.ext_getElem (by simp [madeCells, bv])
  intro j h1 h2
  simp [madeCells, bv, Nat.mod_one]
theorem Chg.then_below {w w1 w2 : World} (h : Chg (fun _ => False) w w1) (k : Below w.heap.size w1 w2) : Chg (fun _ => False) w w2 :=
  ⟨k.os.trans h.os, k.tape.trans h.tape, k.output.trans h.output, Nat.le_trans h.size k.size, fun i hi hs => (k.block i hi).trans (h.block i hi hs)⟩

theorem splice_all {α : Type} (L cs : List α) (h : L.length = cs.length) : splice L 0 cs = cs := by simp [splice, h]

theorem bv_one (xs : List Nat) : ∀ u ∈ bv xs, u.oneCell' = true := by
  intro u hu
  simp only [bv, List.mem_map] at hu
  obtain ⟨x, _, rfl⟩ := hu
  rfl

theorem own_src {w : World} {base : Nat} {e : TypeId} {v : Value} {n : Nat} {xs : List Value} (h : w.ownsRow base e 1 v n xs) : ∃ ao cap, v = .slice ao n cap ∧ (0 < xs.length → ∃ ad, ao = some ad ∧ ∀ j u, xs[j]? = some u → w.cell? (ad.add j) = some u) := by
  rcases h.2 with ⟨rfl, rfl⟩ | ⟨g, cap, cur, rfl, hb, _⟩
  · exact ⟨none, 0, rfl, fun hp => by have := h.1; omega⟩
  · exact ⟨some ⟨g, 0, none⟩, cap, rfl, fun _ => ⟨_, rfl, h.cells rfl⟩⟩

theorem Try.sizeU8 : (Try.prog.info? 5).map (·.size) = some 1 := by kernel_rfl

theorem close_math (bs : List Bool) (n : Nat) (hn : n = bs.length / 8 + 1) :
    ((pack bs ++ List.replicate (n - (pack bs).length) 0).getD (bs.length / 8) 0 < 2 ^ (bs.length % 8)) ∧
    (pack bs ++ List.replicate (n - (pack bs).length) 0).set (bs.length / 8) ((pack bs ++ List.replicate (n - (pack bs).length) 0).getD (bs.length / 8) 0 + 2 ^ (bs.length % 8)) = pack (bs ++ [true]) := by
  by_cases hm : bs.length % 8 = 0
  · have e1 : (pack bs).length = bs.length / 8 := by rw [pack_length]; omega
    have e2 : n - bs.length / 8 = 1 := by omega
    rw [pack_snoc_new bs true hm, e1, e2, hm]
    have e3 : (pack bs ++ List.replicate 1 0).getD (bs.length / 8) 0 = 0 := by
      rw [List.getD_eq_getElem?_getD, List.getElem?_append_right (by omega), e1]; simp
    rw [e3]
    refine ⟨by decide, ?_⟩
    rw [← e1]; simp
  · have e1 : (pack bs).length = bs.length / 8 + 1 := by rw [pack_length]; omega
    have e2 : n - (bs.length / 8 + 1) = 0 := by omega
    rw [pack_snoc_old bs true hm, e1, e2]
    have e3 : (pack bs ++ List.replicate 0 0).getD (bs.length / 8) 0 = byteAt bs (bs.length / 8) := by
      simp only [List.replicate_zero, List.append_nil]
      rw [List.getD_eq_getElem?_getD, pack_getElem? bs _ (by omega)]; rfl
    rw [e3]
    exact ⟨byteAt_last_lt bs, by simp⟩

theorem splice_front {α : Type} (L cs : List α) : splice L 0 cs = cs ++ L.drop cs.length := by simp [splice]

end Go.Proofs.Ytllkfmnofklpmaa

/- Bytes that are read off memory; what puncheonref01.Same tells. -/
namespace Go.Proofs.Ytllkfmnofklpmaa
open Go.RowKit

/-- The value v is a slice of the bytes xs. -/
def RdB (w : World) (v : Value) (xs : List Nat) : Prop :=
  (xs = [] ∧ ∃ ao c, v = .slice ao 0 c) ∨ ∃ g off cap, v = .slice (some ⟨g, off, none⟩) xs.length cap ∧ ∀ j, j < xs.length → w.cell? ⟨g, off + j, none⟩ = some (.int .u8 ((xs.getD j 0 : Nat) : Int))

def strB (xs : List Nat) : ByteArray := strOfNums (xs.map fun n : Nat => (n : Int))

theorem strB_toList (xs : List Nat) : (strB xs).data.toList = xs.map UInt8.ofNat := by
  rw [strB, strOfNums_data, List.map_map]; rfl

theorem map_ofNat_inj : ∀ (xs ys : List Nat), (∀ x ∈ xs, x < 256) → (∀ y ∈ ys, y < 256) → xs.map UInt8.ofNat = ys.map UInt8.ofNat → xs = ys
  | [], [], _, _, _ => rfl
  | [], _ :: _, _, _, h => by simp at h
  | _ :: _, [], _, _, h => by simp at h
  | x :: xs, y :: ys, hx, hy, h => by
    simp only [List.map_cons, List.cons.injEq] at h
    have h1 : x = y := by
      have := congrArg UInt8.toNat h.1
      have hx0 := hx x (by simp); have hy0 := hy y (by simp)
      simp at this; omega
    rw [h1, map_ofNat_inj xs ys (fun z hz => hx z (by simp [hz])) (fun z hz => hy z (by simp [hz])) h.2]

theorem str_beq (xs ys : List Nat) (hx : ∀ x ∈ xs, x < 256) (hy : ∀ y ∈ ys, y < 256) : ((strB xs).toList == (strB ys).toList) = decide (xs = ys) := by
  rw [ByteArray.toList_eq, ByteArray.toList_eq, strB_toList, strB_toList, Bool.eq_iff_iff, beq_iff_eq, decide_eq_true_iff]
  exact ⟨map_ofNat_inj xs ys hx hy, fun h => by rw [h]⟩

theorem run_conv {w : World} {v : Value} {xs : List Nat} (h : RdB w v xs) : (convert 31 9 v).run Try.prog w = .ok (.string (strB xs)) w := by
  rcases h with ⟨rfl, ao, c, rfl⟩ | ⟨g, off, cap, rfl, hc⟩
  · rw [run_convert_bytes_string w 31 9 5 ao 0 c Try.underlying31 Try.underlying5 Try.underlying9]
    cases ao with
    | none => simp [Conv.bytesToString]; rfl
    | some a =>
      have hl : (loadCells a 0).run Try.prog w = .ok #[] w := run_loadCells_list (P := Try.prog) w a [] (fun j v hj => by simp at hj)
      simp [Conv.bytesToString, hl]
      rfl
  · refine run_convert_bytes_arg (P := Try.prog) w 31 5 Try.underlying31 Try.underlying5 g off xs.length cap _ (by simp) (fun i hi => ?_) 9 Try.underlying9
    rw [hc i hi]; simp [List.getD_eq_getElem?_getD, List.getElem?_eq_getElem hi]

theorem RdB.of_own {w : World} {base : Nat} {v : Value} {n : Nat} {xs : List Nat} (h : w.ownsRow base 5 1 v n (bv xs)) : RdB w v xs := by
  have hl := h.1
  rw [bv_length] at hl
  rcases h.2 with ⟨rfl, rfl⟩ | ⟨g, cap, cur, rfl, _⟩
  · exact .inl ⟨List.eq_nil_of_length_eq_zero (by omega), none, 0, rfl⟩
  · refine .inr ⟨g, 0, cap, by simp [hl], fun j hj => ?_⟩
    rw [Nat.zero_add, h.cellAt j (by omega), bv_get xs j hj]

theorem RdB.kept {S : Nat → Prop} {w w' : World} {v : Value} {xs : List Nat} (h : RdB w v xs) (hc : Chg S w w') (hS : ∀ k, v.ownBlock = some k → ¬ S k) : RdB w' v xs := by
  rcases h with h | ⟨g, off, cap, rfl, hcell⟩
  · exact .inl h
  · refine .inr ⟨g, off, cap, rfl, fun j hj => ?_⟩
    have := hcell j hj
    have hlt : g < w.heap.size := block_lt_of_cell this
    rw [World.cell?_of_block (w := w) (hc.block g hlt (hS g rfl))]; exact this

set_option maxHeartbeats 400000 in
theorem same_any (v1 v2 : Value) (xs ys : List Nat) (w : World) (h1 : RdB w v1 xs) (h2 : RdB w v2 ys) (hx : ∀ x ∈ xs, x < 256) (hy : ∀ y ∈ ys, y < 256) :
    Calls Try.prog 13 #[v1, v2] w fun e w' => e = .returned (.bool (decide (xs = ys))) ∧ w = w' := by
  have r1 := run_conv h1
  have r2 := run_conv h2
  have HX := Lib.hid hx; have HY := Lib.hid hy
  clear h1 h2 hx hy
  go_enter Try.func13, Try.ntmps13
  go_wp2
  go_ret
  exact ⟨congrArg (fun b => Ending.returned (Value.bool b)) (str_beq xs ys HX.out HY.out), rfl⟩

end Go.Proofs.Ytllkfmnofklpmaa

/- Plain mathematics (no program): the bits of bytes, the mark, numbers out of bits. -/
namespace Go.Proofs.Ytllkfmnofklpmaa

theorem val_bitsOf (v n : Nat) : val (bitsOf v n) = v % 2 ^ n := by
  induction n with
  | zero => simp [bitsOf, val, Nat.mod_one]
  | succ n ih =>
    rw [bitsOf, val_append, ih, bitsOf_length, Nat.mod_pow_succ]
    congr 2
    have := Nat.mod_two_eq_zero_or_one (v / 2 ^ n)
    rcases this with h | h <;> simp [val, h]

theorem val_zeros (l : List Bool) (k : Nat) : val (l ++ List.replicate k false) = val l := by
  rw [val_append]
  have : val (List.replicate k false) = 0 := by
    induction k with
    | zero => rfl
    | succ k ih => simp [List.replicate_succ, val, ih]
  rw [this]; simp

theorem val_div (l : List Bool) (i : Nat) : val l / 2 ^ i = val (l.drop i) := by
  by_cases h : i ≤ l.length
  · have e : val l = val (l.take i) + 2 ^ i * val (l.drop i) := by
      conv => lhs; rw [← List.take_append_drop i l, val_append]
      rw [List.length_take, Nat.min_eq_left h]
    have h1 := val_lt (l.take i)
    rw [List.length_take, Nat.min_eq_left h] at h1
    rw [e, Nat.add_mul_div_left _ _ (Nat.pow_pos (by omega)), Nat.div_eq_of_lt h1, Nat.zero_add]
  · rw [List.drop_eq_nil_of_le (by omega)]
    have h1 := val_lt l
    have h2 : 2 ^ l.length ≤ 2 ^ i := Nat.pow_le_pow_right (by omega) (by omega)
    rw [Nat.div_eq_of_lt (by omega)]; rfl

theorem val_odd (l : List Bool) : decide (val l % 2 = 1) = l.getD 0 false := by
  cases l with
  | nil => rfl
  | cons b r =>
    have e : val (b :: r) % 2 = b.toNat := by
      simp only [val]
      cases b <;> simp <;> omega
    rw [e]; cases b <;> rfl

theorem val_bit (l : List Bool) (i : Nat) : decide (val l / 2 ^ i % 2 = 1) = l.getD i false := by
  rw [val_div, val_odd]
  simp [List.getD_eq_getElem?_getD]

theorem bitsOf_val (l : List Bool) : bitsOf (val l) l.length = l := by
  apply List.ext_getElem (by rw [bitsOf_length])
  intro i h1 h2
  rw [bitsOf_getElem, val_bit, List.getD_eq_getElem?_getD, List.getElem?_eq_getElem h2]; rfl

/-- the bits of bytes, each byte's lowest first -/
def bitsB : List Nat → List Bool
  | [] => []
  | x :: r => bitsOf x 8 ++ bitsB r

theorem bitsB_length (xs : List Nat) : (bitsB xs).length = 8 * xs.length := by
  induction xs with
  | nil => rfl
  | cons x r ih => simp [bitsB, bitsOf_length, ih]; omega

theorem bitsB_append (xs ys : List Nat) : bitsB (xs ++ ys) = bitsB xs ++ bitsB ys := by
  induction xs with
  | nil => rfl
  | cons x r ih => simp [bitsB, ih]

theorem bitsB_get (xs : List Nat) (i : Nat) (h : i < 8 * xs.length) : (bitsB xs)[i]? = some (decide (xs.getD (i / 8) 0 / 2 ^ (i % 8) % 2 = 1)) := by
  induction xs generalizing i with
  | nil => simp at h
  | cons x r ih =>
    simp only [bitsB]
    by_cases hi : i < 8
    · rw [List.getElem?_append_left (by rw [bitsOf_length]; exact hi), List.getElem?_eq_getElem (by rw [bitsOf_length]; exact hi), bitsOf_getElem]
      rw [show i / 8 = 0 from by omega, show i % 8 = i from by omega]; rfl
    · rw [List.getElem?_append_right (by rw [bitsOf_length]; omega), bitsOf_length, ih (i - 8) (by simp at h; omega)]
      rw [show i / 8 = (i - 8) / 8 + 1 from by omega, show (i - 8) % 8 = i % 8 from by omega]; rfl

theorem pack_bitsB (xs : List Nat) (h : ∀ x ∈ xs, x < 256) : pack (bitsB xs) = xs := by
  induction xs with
  | nil => rfl
  | cons x r ih =>
    simp only [bitsB]
    rw [pack_append _ _ (by rw [bitsOf_length]), ih (fun y hy => h y (by simp [hy]))]
    have e : pack (bitsOf x 8) = [x] := by
      have hx := h x (by simp)
      have hv : byteAt (bitsOf x 8) 0 = x := by
        unfold byteAt
        rw [Nat.mul_zero, List.drop_zero, List.take_of_length_le (by rw [bitsOf_length]; exact Nat.le_refl _), val_bitsOf, Nat.mod_eq_of_lt (by omega)]
      unfold pack
      rw [bitsOf_length]
      show List.map (byteAt (bitsOf x 8)) (List.range 1) = [x]
      simp [List.range_succ, hv]
    rw [e]; rfl

theorem bitsB_pack (bs : List Bool) : bitsB (pack bs) = bs ++ List.replicate (8 * ((bs.length + 7) / 8) - bs.length) false := by
  apply List.ext_getElem?
  intro i
  by_cases h : i < 8 * ((bs.length + 7) / 8)
  · rw [bitsB_get _ _ (by rw [pack_length]; exact h), List.getD_eq_getElem?_getD, pack_getElem? _ _ (by omega), Option.getD_some]
    unfold byteAt
    rw [val_bit]
    by_cases hi : i < bs.length
    · rw [List.getElem?_append_left hi, List.getElem?_eq_getElem hi, List.getD_eq_getElem?_getD, List.getElem?_take, if_pos (by omega), List.getElem?_drop, show 8 * (i / 8) + i % 8 = i from by omega, List.getElem?_eq_getElem hi]; rfl
    · rw [List.getElem?_append_right (by omega), List.getElem?_replicate, if_pos (by omega), List.getD_eq_getElem?_getD, List.getElem?_take, if_pos (by omega), List.getElem?_drop, show 8 * (i / 8) + i % 8 = i from by omega, List.getElem?_eq_none (by omega)]; rfl
  · rw [List.getElem?_eq_none (by rw [bitsB_length, pack_length]; omega), List.getElem?_eq_none (by simp; omega)]

theorem byteAt_zeros (l : List Bool) (k j : Nat) : byteAt (l ++ List.replicate k false) j = byteAt l j := by
  unfold byteAt
  rw [List.drop_append, List.take_append, List.drop_replicate, List.take_replicate, val_zeros]

theorem pack_zeros (l : List Bool) (k : Nat) (h : (l.length + k + 7) / 8 = (l.length + 7) / 8) : pack (l ++ List.replicate k false) = pack l := by
  apply List.ext_getElem (by simp [pack_length, h])
  intro j h1 h2
  rw [pack_getElem, pack_getElem, byteAt_zeros]

/-- how many bits a byte needs -/
def len8 (x : Nat) : Nat := if x = 0 then 0 else Nat.log2 x + 1

theorem len8_facts : ∀ x, x < 256 → x ≠ 0 → 1 ≤ len8 x ∧ len8 x ≤ 8 ∧ x / 2 ^ (len8 x - 1) % 2 = 1 ∧ ∀ j, j < 8 → len8 x ≤ j → x / 2 ^ j % 2 = 0 := by decide +kernel

/-- where the mark stands -/
def markPos (xs : List Nat) : Nat := 8 * (xs.length - 1) + len8 (xs.getD (xs.length - 1) 0) - 1
def openB (xs : List Nat) : List Bool := (bitsB xs).take (markPos xs)

theorem getD_lt (xs : List Nat) (h : ∀ x ∈ xs, x < 256) (i : Nat) : xs.getD i 0 < 256 := by
  rw [List.getD_eq_getElem?_getD]
  by_cases hi : i < xs.length
  · rw [List.getElem?_eq_getElem hi]; exact h _ (List.getElem_mem hi)
  · rw [List.getElem?_eq_none (by omega)]; decide

theorem markPos_lt (xs : List Nat) (hb : ∀ x ∈ xs, x < 256) (h0 : xs ≠ []) (hl : xs.getD (xs.length - 1) 0 ≠ 0) : 8 * (xs.length - 1) ≤ markPos xs ∧ markPos xs < 8 * xs.length := by
  have hn : 0 < xs.length := List.length_pos_iff.2 h0
  obtain ⟨f1, f2, _⟩ := len8_facts _ (getD_lt xs hb (xs.length - 1)) hl
  unfold markPos; omega

theorem openB_length (xs : List Nat) (hb : ∀ x ∈ xs, x < 256) (h0 : xs ≠ []) (hl : xs.getD (xs.length - 1) 0 ≠ 0) : (openB xs).length = markPos xs := by
  have := markPos_lt xs hb h0 hl
  unfold openB; rw [List.length_take, bitsB_length]; omega

theorem mark_split (xs : List Nat) (hb : ∀ x ∈ xs, x < 256) (h0 : xs ≠ []) (hl : xs.getD (xs.length - 1) 0 ≠ 0) :
    bitsB xs = openB xs ++ true :: List.replicate (8 * xs.length - markPos xs - 1) false := by
  have hn : 0 < xs.length := List.length_pos_iff.2 h0
  have hm := markPos_lt xs hb h0 hl
  have hlen := openB_length xs hb h0 hl
  obtain ⟨f1, f2, f3, f4⟩ := len8_facts _ (getD_lt xs hb (xs.length - 1)) hl
  have em : markPos xs = 8 * (xs.length - 1) + len8 (xs.getD (xs.length - 1) 0) - 1 := rfl
  generalize len8 (xs.getD (xs.length - 1) 0) = L at *
  apply List.ext_getElem?
  intro i
  by_cases hi : i < markPos xs
  · rw [List.getElem?_append_left (by omega)]
    unfold openB
    rw [List.getElem?_take, if_pos hi]
  · rw [List.getElem?_append_right (by omega), hlen]
    by_cases he : i = markPos xs
    · rw [he, Nat.sub_self, bitsB_get _ _ (by omega), show markPos xs / 8 = xs.length - 1 from by omega, show markPos xs % 8 = L - 1 from by omega, f3]; rfl
    · by_cases hb2 : i < 8 * xs.length
      · rw [bitsB_get _ _ hb2, show i / 8 = xs.length - 1 from by omega, f4 (i % 8) (by omega) (by omega)]
        rw [show i - markPos xs = (i - markPos xs - 1) + 1 from by omega, List.getElem?_cons_succ, List.getElem?_replicate, if_pos (by omega)]; rfl
      · rw [List.getElem?_eq_none (by rw [bitsB_length]; omega), List.getElem?_eq_none (by simp; omega)]

theorem mark_unique (a b : List Bool) (k m : Nat) (h : a ++ true :: List.replicate k false = b ++ true :: List.replicate m false) : a = b := by
  have key : ∀ (l : List Bool) (n : Nat), (l ++ true :: List.replicate n false).reverse.dropWhile (fun x => !x) = true :: l.reverse := by
    intro l n
    rw [List.reverse_append, List.reverse_cons, List.reverse_replicate, List.append_assoc]
    induction n with
    | zero => simp
    | succ n _ => simp [List.replicate_succ]
  have h1 := key a k
  rw [h, key b m] at h1
  simp at h1
  exact h1.symm

theorem close_last (bs : List Bool) : (pack (bs ++ [true])).length = bs.length / 8 + 1 ∧ (pack (bs ++ [true])).getD ((pack (bs ++ [true])).length - 1) 0 ≠ 0 ∧ pack (bs ++ [true]) ≠ [] := by
  have el : (pack (bs ++ [true])).length = bs.length / 8 + 1 := by rw [pack_length]; simp; omega
  refine ⟨el, ?_, fun h => by rw [h] at el; simp at el⟩
  rw [el, Nat.add_sub_cancel, List.getD_eq_getElem?_getD, pack_getElem? _ _ (by simp; omega), Option.getD_some]
  intro h
  have := mark_byte bs
  rw [h] at this; simp at this

theorem openB_close (bs : List Bool) : openB (pack (bs ++ [true])) = bs := by
  obtain ⟨el, hl, h0⟩ := close_last bs
  have hs := mark_split _ (pack_lt _) h0 hl
  rw [bitsB_pack, List.append_assoc] at hs
  exact (mark_unique _ _ _ _ hs).symm

theorem pack_openB (xs : List Nat) (hb : ∀ x ∈ xs, x < 256) (h0 : xs ≠ []) (hl : xs.getD (xs.length - 1) 0 ≠ 0) : pack (openB xs ++ [true]) = xs := by
  have hn : 0 < xs.length := List.length_pos_iff.2 h0
  have hs := mark_split xs hb h0 hl
  have hm := markPos_lt xs hb h0 hl
  have hlen := openB_length xs hb h0 hl
  have e := pack_bitsB xs hb
  rw [hs, show openB xs ++ true :: List.replicate (8 * xs.length - markPos xs - 1) false = (openB xs ++ [true]) ++ List.replicate (8 * xs.length - markPos xs - 1) false from by simp, pack_zeros _ _ (by simp [hlen]; omega)] at e
  exact e

/-- what Take tells, and what it leaves -/
def takeV (bs : List Bool) (n : Nat) : Nat := val (bs.drop (bs.length - n))
def takeR (bs : List Bool) (n : Nat) : List Bool := bs.take (bs.length - n)

theorem takeV_lt (bs : List Bool) (n : Nat) : takeV bs n < 2 ^ n := by
  have h := val_lt (bs.drop (bs.length - n))
  have h2 : 2 ^ (bs.drop (bs.length - n)).length ≤ 2 ^ n := Nat.pow_le_pow_right (by omega) (by simp; omega)
  unfold takeV; omega

theorem takeR_length (bs : List Bool) (n : Nat) : (takeR bs n).length = bs.length - n := by simp [takeR]

theorem drop_split (l : List Bool) (a b : Nat) (h : a ≤ b) (hb : b ≤ l.length) : l.drop a = (l.take b).drop a ++ l.drop b := by
  conv => lhs; rw [← List.take_append_drop b l, List.drop_append]
  rw [List.length_take, Nat.min_eq_left hb, Nat.sub_eq_zero_of_le h, List.drop_zero]

theorem take_split (bs : List Bool) (k c : Nat) (hk : k ≤ bs.length) (hc : c ≤ k) : takeV bs k = takeV (takeR bs c) (k - c) + 2 ^ (k - c) * takeV bs c ∧ takeR bs k = takeR (takeR bs c) (k - c) := by
  unfold takeV takeR
  rw [List.length_take, Nat.min_eq_left (by omega), show bs.length - c - (k - c) = bs.length - k from by omega]
  refine ⟨?_, by rw [List.take_take, Nat.min_eq_left (by omega)]⟩
  have e := drop_split bs (bs.length - k) (bs.length - c) (by omega) (by omega)
  rw [e, val_append]
  congr 2
  simp; congr 1; omega

theorem take_put (bs : List Bool) (v n : Nat) : takeV (bs ++ bitsOf v n) n = v % 2 ^ n ∧ takeR (bs ++ bitsOf v n) n = bs := by
  unfold takeV takeR
  rw [List.length_append, bitsOf_length, Nat.add_sub_cancel]
  rw [List.drop_left, List.take_left]
  exact ⟨val_bitsOf v n, rfl⟩

end Go.Proofs.Ytllkfmnofklpmaa

/- A bitr.Reader in memory; what bitr's Len8, bitAt, markAt, Left do. -/
namespace Go.Proofs.Ytllkfmnofklpmaa
open Go.RowKit

theorem len8_le (x : Nat) (h : x < 256) : len8 x ≤ 8 := bitLen_le8 x h

theorem and_one (y : Nat) (hy : y < 4294967296) : bits BinOp.and IntKind.u32 (y : Int) 1 = ((y % 2 : Nat) : Int) := by
  have h := bits_mask .u32 32 (by decide) wraps_u32 1 (by decide) (y : Int) (by omega) (by omega)
  rw [show (1 : Int) = 2 ^ 1 - 1 from by decide, h]
  simp

theorem row_cells {w : World} {g : Nat} {t : TypeId} {xs : List Nat} (h : w.heap[g]? = some (.cells (bv xs).toArray t (0, 0))) (j : Nat) (hj : j < xs.length) : w.cell? ⟨g, j, none⟩ = some (.int .u8 ((xs.getD j 0 : Nat) : Int)) := by
  rw [cell_of_row w g j _ t _ h, List.getElem?_toArray, bv_get xs j hj]

theorem bits_or_nat (k : IntKind) (hk : ∀ n : Int, 0 ≤ n → n < 2 ^ k.bits → k.wrap n = n) (a b : Nat) (ha : a < 2 ^ k.bits) (hb : b < 2 ^ k.bits) : bits .or k a b = ((a ||| b : Nat) : Int) := by
  simp only [bits, BitVec.ofInt_natCast, BitVec.toNat_or, BitVec.toNat_ofNat, Nat.mod_eq_of_lt ha, Nat.mod_eq_of_lt hb]
  exact hk _ (Int.natCast_nonneg _) (by exact_mod_cast Nat.or_lt_two_pow ha hb)

theorem or_shift (v i y : Nat) (hv : v < 2 ^ i) (hi : i ≤ 24) (hy : y < 2) : bits .or .u32 (v : Int) ((y : Int) * 2 ^ i % 4294967296) = ((v + y * 2 ^ i : Nat) : Int) := by
  have hp : 2 ^ i ≤ 2 ^ 24 := Nat.pow_le_pow_right (by omega) hi
  have hlt : y * 2 ^ i ≤ 2 ^ 24 := by
    have : y * 2 ^ i ≤ 1 * 2 ^ i := Nat.mul_le_mul_right _ (by omega)
    omega
  have e : ((y : Int) * 2 ^ i % 4294967296) = ((y * 2 ^ i : Nat) : Int) := by
    have e1 : ((y : Int) * 2 ^ i) = ((y * 2 ^ i : Nat) : Int) := by simp
    rw [e1]
    generalize y * 2 ^ i = z at *
    omega
  rw [e, bits_or_nat .u32 wraps_u32 v _ (by simp only [IntKind.bits]; omega) (by simp only [IntKind.bits]; omega)]
  congr 1
  have := Nat.two_pow_add_eq_or_of_lt hv y
  rw [Nat.or_comm, Nat.mul_comm y, ← this, Nat.add_comm]

theorem val_take_succ (D : List Bool) (i : Nat) (h : i < D.length) : val (D.take (i + 1)) = val (D.take i) + (D[i]).toNat * 2 ^ i := by
  rw [List.take_succ_eq_append_getElem h, val_append]
  simp only [val, List.length_take, Nat.min_eq_left (Nat.le_of_lt h)]
  simp [Nat.mul_comm]

theorem val_take_lt (D : List Bool) (i : Nat) : val (D.take i) < 2 ^ i := by
  have h := val_lt (D.take i)
  have h2 : 2 ^ (D.take i).length ≤ 2 ^ i := Nat.pow_le_pow_right (by omega) (List.length_take_le _ _)
  omega

theorem toNat_bit (y : Nat) (b : Bool) (h : b = decide (y % 2 = 1)) : y % 2 = b.toNat := by
  subst h
  have := Nat.mod_two_eq_zero_or_one y
  rcases this with h | h <;> simp [h]

end Go.Proofs.Ytllkfmnofklpmaa

/- What bitr.New tells. -/
namespace Go.Proofs.Ytllkfmnofklpmaa
open Go.RowKit

/-- there is a mark -/
def Marked (xs : List Nat) : Prop := xs ≠ [] ∧ xs.getD (xs.length - 1) 0 ≠ 0

instance (xs : List Nat) : Decidable (Marked xs) := by unfold Marked; infer_instance

end Go.Proofs.Ytllkfmnofklpmaa

/- What puncheonlaw02.awake tells: the chapter's example holds. -/
namespace Go.Proofs.Ytllkfmnofklpmaa
open Go.RowKit

theorem ex_open : openB [45] = [true, false, true, true, false] := by decide +kernel
theorem ex_take : takeV [true, false, true, true, false] 2 = 1 ∧ takeR [true, false, true, true, false] 2 = [true, false, true] ∧ takeV [true, false, true] 3 = 5 ∧ takeR [true, false, true] 3 = [] := by decide +kernel

theorem one_rdb (w : World) (x : Nat) : RdB (w.alloc (.cells #[.int .u8 (x : Int)] 5)) (.slice (some ⟨w.heap.size, 0, none⟩) 1 1) [x] := by
  refine .inr ⟨w.heap.size, 0, 1, rfl, fun j hj => ?_⟩
  have : j = 0 := by simpa using hj
  subst this
  rw [cell_of_row _ _ 0 _ _ _ (heap_alloc_new w _)]; rfl

end Go.Proofs.Ytllkfmnofklpmaa

/- The walk of BitrSplits. -/
namespace Go.Proofs.Ytllkfmnofklpmaa
open Go.RowKit

theorem RdB.form {w : World} {v : Value} {xs : List Nat} (h : RdB w v xs) : ∃ ao cap, v = .slice ao xs.length cap := by
  rcases h with ⟨rfl, ao, c, rfl⟩ | ⟨g, off, cap, rfl, _⟩
  · exact ⟨ao, c, rfl⟩
  · exact ⟨_, cap, rfl⟩

theorem or_high (hi lo j : Nat) (hlo : lo < 2 ^ j) (hb : lo + 2 ^ j * hi < 4294967296) : bits .or .u32 ((hi : Int) * 2 ^ j % 4294967296) (lo : Int) = ((lo + 2 ^ j * hi : Nat) : Int) := by
  have e : ((hi : Int) * 2 ^ j % 4294967296) = ((2 ^ j * hi : Nat) : Int) := by
    have e1 : ((hi : Int) * 2 ^ j) = ((2 ^ j * hi : Nat) : Int) := by simp [Int.mul_comm]
    rw [e1]
    generalize 2 ^ j * hi = z at *
    omega
  rw [e, bits_or_nat .u32 wraps_u32 _ lo (by simp only [IntKind.bits]; omega) (by simp only [IntKind.bits]; omega)]
  congr 1
  have := Nat.two_pow_add_eq_or_of_lt hlo hi
  omega

end Go.Proofs.Ytllkfmnofklpmaa

/- A slice of parts that is read; all parts put; a Writer of the call's own. -/
namespace Go.Proofs.Ytllkfmnofklpmaa
open Go.RowKit

/-- The value is a slice of the parts ps (a number and how many bits), none of them beyond its kind. -/
structure RdP (w : World) (v : Value) (ps : List (Nat × Int)) : Prop where
  form : ∃ ao cap, v = .slice ao ps.length cap ∧ (0 < ps.length → ∃ g off, ao = some ⟨g, off, none⟩)
  cells : ∀ g off n cap, v = .slice (some ⟨g, off, none⟩) n cap → ∀ i (h : i < ps.length), w.cell? ⟨g, off + i * 2, none⟩ = some (.int .u32 (ps[i].1 : Int)) ∧ w.cell? ⟨g, off + i * 2 + 1, none⟩ = some (.int .i64 ps[i].2)
  wf : ∀ p ∈ ps, p.1 < 4294967296

theorem RdP.kept {S : Nat → Prop} {w w' : World} {v : Value} {ps : List (Nat × Int)} (h : RdP w v ps) (hc : Chg S w w') (hS : ∀ k, v.ownBlock = some k → ¬ S k) : RdP w' v ps := by
  refine ⟨h.form, fun g off n cap hv i hi => ?_, h.wf⟩
  have hh := h.cells g off n cap hv i hi
  have hlt : g < w.heap.size := block_lt_of_cell hh.1
  have hb := hc.block g hlt (hS g (by rw [hv]; rfl))
  rw [World.cell?_of_block (w := w) (a := ⟨g, off + i * 2, none⟩) hb, World.cell?_of_block (w := w) (a := ⟨g, off + i * 2 + 1, none⟩) hb]
  exact hh

theorem Wr.drew {w : World} {b : Nat} {o : Option Nat} {bs : List Bool} (h : Wr w b o bs) : Wr w.drew b o bs := h

/-- all parts put, one behind the other -/
def putAll (bs : List Bool) : List (Nat × Int) → List Bool
  | [] => bs
  | p :: r => putAll (putB bs p.1 p.2) r

theorem putAll_append (bs : List Bool) (a b : List (Nat × Int)) : putAll bs (a ++ b) = putAll (putAll bs a) b := by
  induction a generalizing bs with
  | nil => rfl
  | cons p r ih => exact ih _

theorem putAll_succ (bs : List Bool) (ps : List (Nat × Int)) (k : Nat) (h : k < ps.length) : putAll bs (ps.take (k + 1)) = putB (putAll bs (ps.take k)) ps[k].1 ps[k].2 := by
  rw [List.take_succ_eq_append_getElem h, putAll_append]; rfl

theorem putAll_length (bs : List Bool) (ps : List (Nat × Int)) : bs.length ≤ (putAll bs ps).length ∧ (putAll bs ps).length ≤ bs.length + 24 * ps.length := by
  induction ps generalizing bs with
  | nil => simp [putAll]
  | cons p r ih =>
    have h1 := putB_length bs p.1 p.2
    have h2 := ih (putB bs p.1 p.2)
    simp only [putAll, List.length_cons]; omega

/-- A Writer of the call's own: all of it lies from B on. -/
def Own (B : Nat) (w : World) (b : Nat) (bs : List Bool) : Prop := ∃ o, Wr w b o bs ∧ B ≤ b ∧ ∀ k, o = some k → B ≤ k

theorem put_int (b : Nat) (o : Option Nat) (bs : List Bool) (v n : Int) (w : World) (h : Wr w b o bs) (hlen : bs.length < 900000000) (hv0 : 0 ≤ v) (hv : v < 4294967296) :
    Calls Try.prog 56 #[.pointer (some ⟨b, 0, none⟩), .int .u32 v, .int .i64 n] w fun e w' => e = .returned (.bool (decide (0 ≤ n ∧ n ≤ 24))) ∧ WrTo w w' b o (putB bs v.toNat n) := by
  obtain ⟨u, rfl⟩ := Int.eq_ofNat_of_zero_le hv0
  rw [Int.toNat_natCast]
  exact put_any b o bs u n w h hlen (by omega)

theorem put_in (b : Nat) (o : Option Nat) (bs : List Bool) (v n : Int) (w : World) (h : Wr w b o bs) (hlen : bs.length < 900000000) (hv0 : 0 ≤ v) (hv : v < 4294967296) (hn0 : 0 ≤ n) (hn : n ≤ 24) :
    Calls Try.prog 56 #[.pointer (some ⟨b, 0, none⟩), .int .u32 v, .int .i64 n] w fun e w' => e = .returned (.bool true) ∧ ∃ o', Wr w' b o' (bs ++ bitsOf v.toNat n.toNat) ∧ Chg (fun k => k = b ∨ some k = o) w w' ∧ (o' = o ∨ ∃ k, o' = some k ∧ w.heap.size ≤ k) := by
  refine (put_int b o bs v n w h hlen hv0 hv).mono ?_
  rintro e w' ⟨rfl, ht⟩
  rw [show decide (0 ≤ n ∧ n ≤ 24) = true from decide_eq_true ⟨hn0, hn⟩]
  unfold putB at ht
  rw [if_pos ⟨hn0, hn⟩] at ht
  exact ⟨rfl, ht⟩

theorem Own.to {B : Nat} {w w' : World} {b : Nat} {o : Option Nat} {bs : List Bool} (h : WrTo w w' b o bs) (hB : B ≤ b) (ho : ∀ k, o = some k → B ≤ k) (hs : B ≤ w.heap.size) : Own B w' b bs ∧ Chg (fun k => B ≤ k) w w' := by
  obtain ⟨o', hw, hc, ho'⟩ := h
  refine ⟨⟨o', hw, hB, fun k hk => ?_⟩, hc.mono fun k _ hk => ?_⟩
  · rcases ho' with rfl | ⟨j, rfl, hj⟩
    · exact ho k hk
    · simp only [Option.some.injEq] at hk; omega
  · rcases hk with rfl | hk
    · exact hB
    · exact ho k hk.symm

theorem put_own (B b : Nat) (bs : List Bool) (v n : Int) (w : World) (h : Own B w b bs) (hs : B ≤ w.heap.size) (hlen : bs.length < 900000000) (hv0 : 0 ≤ v) (hv : v < 4294967296) :
    Calls Try.prog 56 #[.pointer (some ⟨b, 0, none⟩), .int .u32 v, .int .i64 n] w fun e w' => e = .returned (.bool (decide (0 ≤ n ∧ n ≤ 24))) ∧ Own B w' b (putB bs v.toNat n) ∧ Chg (fun k => B ≤ k) w w' := by
  obtain ⟨o, hw, hB, ho⟩ := h
  refine (put_int b o bs v n w hw hlen hv0 hv).mono ?_
  rintro e w' ⟨rfl, ht⟩
  exact ⟨rfl, Own.to ht hB ho hs⟩

end Go.Proofs.Ytllkfmnofklpmaa

/- Several Writers side by side: those that aren't put into stay as they were. -/
namespace Go.Proofs.Ytllkfmnofklpmaa
open Go.RowKit

/-- two Writers that share no block -/
def Dj (b : Nat) (o : Option Nat) (b' : Nat) (o' : Option Nat) : Prop := b ≠ b' ∧ o ≠ some b' ∧ o' ≠ some b ∧ (o = none ∨ o ≠ o')

theorem Dj.symm {b b' : Nat} {o o' : Option Nat} (h : Dj b o b' o') : Dj b' o' b o := by
  obtain ⟨h1, h2, h3, h4⟩ := h
  refine ⟨fun h => h1 h.symm, h3, h2, ?_⟩
  rcases h4 with h | h
  · cases o' with
    | none => exact .inl rfl
    | some k => exact .inr (by rw [h]; simp)
  · exact .inr fun e => h e.symm

theorem Dj.step {w : World} {b b' : Nat} {o o1 o' : Option Nat} {ys : List Bool} (h : Dj b o b' o') (hy : Wr w b' o' ys) (h1 : o1 = o ∨ ∃ k, o1 = some k ∧ w.heap.size ≤ k) : Dj b o1 b' o' := by
  rcases h1 with rfl | ⟨k, rfl, hk⟩
  · exact h
  · have hl := hy.lt
    refine ⟨h.1, fun e => ?_, h.2.2.1, .inr fun e => ?_⟩
    · simp only [Option.some.injEq] at e; omega
    · have := (hl.2 k e.symm).2; omega

theorem Dj.keep {w w' : World} {b b' : Nat} {o o' : Option Nat} {ys : List Bool} (h : Dj b o b' o') (hy : Wr w b' o' ys) (hc : Chg (fun k => k = b ∨ some k = o) w w') : Wr w' b' o' ys := by
  refine hy.kept hc ?_ ?_
  · rintro (h' | h')
    · exact h.1 h'.symm
    · exact h.2.1 h'.symm
  · rintro k hk (h' | h')
    · exact h.2.2.1 (by rw [hk, h'])
    · rcases h.2.2.2 with h4 | h4
      · rw [h4] at h'; cases h'
      · exact h4 (by rw [hk, h'])

/-- all of it lies from B on -/
def Above (B b : Nat) (o : Option Nat) : Prop := B ≤ b ∧ ∀ k, o = some k → B ≤ k

theorem Above.mono {B B' b : Nat} {o : Option Nat} (h : Above B b o) (hB : B' ≤ B) : Above B' b o := ⟨Nat.le_trans hB h.1, fun k hk => Nat.le_trans hB (h.2 k hk)⟩

theorem Above.step {w : World} {B b : Nat} {o o1 : Option Nat} (h : Above B b o) (hs : B ≤ w.heap.size) (h1 : o1 = o ∨ ∃ k, o1 = some k ∧ w.heap.size ≤ k) : Above B b o1 := by
  rcases h1 with rfl | ⟨k, rfl, hk⟩
  · exact h
  · exact ⟨h.1, fun j hj => by simp only [Option.some.injEq] at hj; omega⟩

theorem Dj.of_above {w : World} {b b' : Nat} {o o' : Option Nat} {xs : List Bool} (hx : Wr w b o xs) (h : Above w.heap.size b' o') : Dj b o b' o' := by
  have hl := hx.lt
  refine ⟨by have := h.1; omega, fun e => by have := (hl.2 _ e).2; have := h.1; omega, fun e => by have := h.2 _ e; omega, ?_⟩
  cases o with
  | none => exact .inl rfl
  | some k => exact .inr fun e => by have := (hl.2 k rfl).2; have := h.2 k e.symm; omega

theorem Chg.up {w w1 w2 : World} {b : Nat} {o : Option Nat} (h : Chg (fun _ => False) w w1) (h2 : Chg (fun k => k = b ∨ some k = o) w1 w2) (ha : Above w.heap.size b o) : Chg (fun _ => False) w w2 :=
  h.trans h2 fun k hk hx => by
    rcases hx with hx | hx
    · have := ha.1; omega
    · have := ha.2 k hx.symm; omega

theorem Chg.next {w w1 w2 : World} (h : Chg (fun _ => False) w w1) (h2 : Chg (fun _ => False) w1 w2) : Chg (fun _ => False) w w2 := h.trans h2 fun _ _ h => h

/-- append at an operation that stands under a guard which says yes -/
theorem wpList_append_want {P : Program} {ops : Array Oper} {rest : List Oper} {o : Oper} {a : Act} {w : World} {Q : Exit → Act → World → Prop} (s x : Operand) (t : TypeId)
    (ho : o.op = .call { callee := .builtin .append, args := #[s, x], argTypes := #[t, t] })
    (base : Nat) (e : TypeId) (i : TypeInfo) (z : Value) (size bytes : Nat) (ht : P.underlying t = some (.slice e)) (hi : P.info? e = some i) (hz : i.zero = some z)
    (hsize : i.size = size) (hby : i.bytes = bytes) (hzs : z.cells.size = size) (hsz : 0 < size)
    (v : Value) (n : Nat) (xs : List Value) (hs : a.eval s = v) (hown : w.ownsRow base e size v n xs)
    (ad : Addr) (m c : Nat) (news : List Value) (hx : a.eval x = .slice (some ad) m c) (hl : news.length = m * size) (hnews : ∀ j u, news[j]? = some u → w.cell? (ad.add j) = some u) (h1 : ∀ u ∈ news, u.oneCell' = true)
    (hm : 0 < m) (h63 : n + m ≤ maxLen) (hbytes : (n + m) * bytes ≤ 140737488355328) (hbase : base ≤ w.heap.size)
    (hw : Region.wanted o (yielded ops a.tmps) = true)
    (h : ∀ g cap w', w'.ownsRow base e size (.slice (some ⟨g, 0, none⟩) (n + m) cap) (n + m) (xs ++ news) → w.grownBy w' v.ownBlock → (v.ownBlock = some g ∨ g = w.heap.size) → wpList P ops Q rest (a.put o.dst (.slice (some ⟨g, 0, none⟩) (n + m) cap)) w') :
    wpList P ops Q (o :: rest) a w :=
  BigFrame.wpList_want hw fun _ hK => wp_append_lies w s x t ho base e i z size bytes ht hi hz hsize hby hzs hsz v n xs hs hown ad m c news hx hl hnews h1 hm h63 hbytes hbase _ rfl fun g cap w' h2 h3 h4 _ => hK _ _ (h g cap w' h2 h3 h4)

end Go.Proofs.Ytllkfmnofklpmaa

/- slices.Clone of bytes; a bitf.Reader in memory; what bitf's begun, bitAt, Left, New do. -/
namespace Go.Proofs.Ytllkfmnofklpmaa
open Go.RowKit

theorem RdB.news {w : World} {a : Addr} {n cap : Nat} {xs : List Nat} (h : RdB w (.slice (some a) n cap) xs) : ∀ j u, (bv xs)[j]? = some u → w.cell? (a.add j) = some u := by
  intro j u hu
  rcases h with ⟨rfl, _⟩ | ⟨g, off, cap', he, hc⟩
  · simp [bv] at hu
  · simp only [Value.slice.injEq, Option.some.injEq] at he
    obtain ⟨rfl, rfl, rfl⟩ := he
    have hj : j < xs.length := by rw [← bv_length]; exact (List.getElem?_eq_some_iff.1 hu).1
    rw [bv_get xs j hj] at hu
    rw [← Option.some.inj hu, show (⟨g, off, none⟩ : Addr).add j = ⟨g, off + j, none⟩ from by unfold Addr.add; split <;> simp_all]
    exact hc j hj

theorem eqlNil (W : World) (a : Addr) (n c : Nat) : (binOp .eql 31 (.slice (some a) n c) (.slice none 0 0)).run Try.prog W = .ok (.bool false) W := by kernel_rfl
theorem eqlNil0 (W : World) (n c : Nat) : (binOp .eql 31 (.slice none n c) (.slice none 0 0)).run Try.prog W = .ok (.bool true) W := by kernel_rfl

set_option maxHeartbeats 1000000 in
theorem clone_any (v : Value) (xs : List Nat) (w : World) (h : RdB w v xs) (hl : xs.length < 100000000000) :
    Calls Try.prog 42 #[v] w fun e w' => ∃ v', e = .returned v' ∧ w'.ownsRow w.heap.size 5 1 v' xs.length (bv xs) ∧ Chg (fun _ => False) w w' := by
  obtain ⟨i, hi, hz0, hz1, hz2⟩ := info_parts Try.infoU8
  obtain ⟨ao, cap, hv⟩ := h.form
  subst hv
  cases ao with
  | none =>
    have h0 : xs = [] := by
      rcases h with ⟨h0, _⟩ | ⟨g, off, cap', he, _⟩
      · exact h0
      · simp at he
    subst h0
    clear h
    have hnil := eqlNil0 w 0 cap
    rw [List.length_nil]
    go_enter Try.func42, Try.ntmps42
    go_wp2
    go_ret
    exact ⟨_, rfl, by simpa [bv] using World.ownsRow_nil w w.heap.size 5 1, Chg.refl _ _⟩
  | some a =>
    have HCE := Lib.hid (RdB.news (h.kept (Chg.alloc (fun _ => False) w (.cells #[] 5)) (by simp)))
    clear h
    have hnil := eqlNil w a xs.length cap
    go_enter Try.func42, Try.ntmps42
    go_wp2_with (at_builtin; refine wpList_append_own _ rfl (.tmp 5) (.tmp 6) 31 rfl w.heap.size 5 i (.int .u8 0) 1 1 Try.underlying31 hi hz0 hz1 hz2 rfl (by decide) _ 0 _ rfl (World.ownsRow_made w #[] 0 (Nat.le_refl _) (by unfold maxLen; omega) rfl) a xs.length cap (bv xs) rfl (by rw [bv_length, Nat.mul_one]) HCE.out (bv_one xs) (by unfold maxLen; omega) (by omega) (by simp) ?_)
    intro v7 w7 ho7 hg7 _
    have hc7 : Chg (fun _ => False) w w7 := (Chg.alloc (fun _ => False) w _).trans (Chg.of_grown hg7) (fun j hj hx => by simp [Value.ownBlock] at hx; omega)
    have HO := Lib.hid ho7; have HC := Lib.hid hc7
    clear hg7 ho7 hc7
    go_wp2
    go_ret
    exact ⟨_, rfl, by simpa using HO.out, HC.out⟩

/-- The bitf.Reader at block b, its bytes xs in the block o (none: there are none), of which p bits were taken. -/
def Rf (w : World) (b : Nat) (o : Option Nat) (xs : List Nat) (p : Nat) : Prop :=
  (∀ x ∈ xs, x < 256) ∧ xs.length < 100000000000 ∧ p ≤ 8 * xs.length ∧
    ∃ v, w.heap[b]? = some (.cells #[v, .int .i64 (p : Int)] 70 (0, 0)) ∧ v.ownBlock = o ∧ w.ownsRow 0 5 1 v xs.length (bv xs)

theorem Rf.lt {w : World} {b : Nat} {o : Option Nat} {xs : List Nat} {p : Nat} (h : Rf w b o xs p) : b < w.heap.size ∧ ∀ k, o = some k → k < w.heap.size ∧ k ≠ b := by
  obtain ⟨_, _, _, v, hb, ho, hown⟩ := h
  refine ⟨lt_of_block hb, fun k hk => ?_⟩
  have hk' := ho.trans hk
  refine ⟨(hown.lt k hk').2, ?_⟩
  rcases hown.2 with ⟨rfl, _⟩ | ⟨q, cap, cur, rfl, _, hq, _⟩
  · simp [Value.ownBlock] at hk'
  · simp only [Value.ownBlock, Option.some.injEq] at hk'
    subst hk'
    rintro rfl
    rw [hb] at hq
    simp at hq

theorem Rf.kept {S : Nat → Prop} {w w' : World} {b : Nat} {o : Option Nat} {xs : List Nat} {p : Nat} (h : Rf w b o xs p) (hc : Chg S w w') (h1 : ¬ S b) (h2 : ∀ k, o = some k → ¬ S k) : Rf w' b o xs p := by
  have hl := h.lt
  obtain ⟨e1, e2, e3, v, hb, ho, hown⟩ := h
  exact ⟨e1, e2, e3, v, (hc.block b hl.1 h1).trans hb, ho, hc.own hown (fun k hk => h2 k (ho.symm.trans hk))⟩

theorem Rf.drewN {w : World} {b : Nat} {o : Option Nat} {xs : List Nat} {p : Nat} (h : Rf w b o xs p) (m : Nat) : Rf (w.drewN m) b o xs p := h

theorem begun_any (b p : Nat) (v : Value) (w : World) (hp : p < 1000000000000) (hb : w.heap[b]? = some (.cells #[v, .int .i64 (p : Int)] 70 (0, 0))) :
    Calls Try.prog 51 #[.pointer (some ⟨b, 0, none⟩)] w fun e w' => e = .returned (.int .i64 (((p + 7) / 8 : Nat) : Int)) ∧ w' = w := by
  obtain ⟨c0, c1, f0, f1⟩ := cells2 hb
  clear hb
  go_enter Try.func51, Try.ntmps51
  go_wp2
  go_ret
  exact ⟨congrArg (fun z => Ending.returned (Value.int .i64 z)) (by omega), rfl⟩

/-- the value is a slice of bytes -/
theorem fbitAt_any (g off i cap n x : Nat) (w : World) (hc : w.cell? ⟨g, off + i / 8, none⟩ = some (.int .u8 (x : Int))) (hi : i / 8 < n) (hi2 : i < 1000000000000) (hx : x < 256) :
    Calls Try.prog 52 #[.slice (some ⟨g, off, none⟩) n cap, .int .i64 (i : Int)] w fun e w' => e = .returned (.int .u32 ((x / 2 ^ (i % 8) % 2 : Nat) : Int)) ∧ w' = w := by
  have H := Lib.hid (and_one (x / 2 ^ (i % 8)) (by have := Nat.div_le_self x (2 ^ (i % 8)); omega))
  go_enter Try.func52, Try.ntmps52
  go_wp2
  go_ret
  refine ⟨congrArg (fun z => Ending.returned (Value.int .u32 z)) ?_, rfl⟩
  have e : ((x : Int) / 2 ^ (i % 8) % 4294967296) = ((x / 2 ^ (i % 8) : Nat) : Int) := by
    have e1 : ((x : Int) / 2 ^ (i % 8)) = ((x / 2 ^ (i % 8) : Nat) : Int) := by simp
    have := Nat.div_le_self x (2 ^ (i % 8))
    rw [e1]
    generalize x / 2 ^ (i % 8) = y at *
    omega
  rw [e]; exact H.out

theorem fbitAt_y (g off i cap n x y : Nat) (w : World) (hc : w.cell? ⟨g, off + i / 8, none⟩ = some (.int .u8 (x : Int))) (hi : i / 8 < n) (hi2 : i < 1000000000000) (hx : x < 256) (hy : x / 2 ^ (i % 8) % 2 = y) :
    Calls Try.prog 52 #[.slice (some ⟨g, off, none⟩) n cap, .int .i64 (i : Int)] w fun e w' => e = .returned (.int .u32 (y : Int)) ∧ w' = w := by
  rw [← hy]; exact fbitAt_any g off i cap n x w hc hi hi2 hx

theorem fleft_q (b : Nat) (o : Option Nat) (xs : List Nat) (p : Nat) (w : World) (h : Rf w b o xs p) :
    Calls Try.prog 22 #[.pointer (some ⟨b, 0, none⟩)] w fun e w' => e = .returned (.int .i64 ((8 * xs.length - p : Nat) : Int)) ∧ ∃ m, w' = w.drewN m := by
  obtain ⟨-, hl, hp, v, hb, -, hown⟩ := h
  obtain ⟨ao, cap, rfl, -⟩ := own_src hown
  obtain ⟨c0, c1, f0, f1⟩ := cells2 hb
  clear hb hown
  have hz : IntKind.i64.wrap ((xs.length : Int) * 8) = (xs.length : Int) * 8 := by rw [IntKind.wrap_i64]; omega
  go_enter Try.func22, Try.ntmps22
  go_wp2
  go_quiet (fail)
  go_wp2
  go_ret
  exact ⟨congrArg (fun z => Ending.returned (Value.int .i64 z)) (by omega), _, rfl⟩

theorem fleft_any (b : Nat) (o : Option Nat) (xs : List Nat) (p : Nat) (w : World) (h : Rf w b o xs p) :
    Calls Try.prog 22 #[.pointer (some ⟨b, 0, none⟩)] w fun e w' => e = .returned (.int .i64 ((8 * xs.length - p : Nat) : Int)) ∧ Chg (fun _ => False) w w' :=
  (fleft_q b o xs p w h).mono fun e w' ⟨h1, m, h2⟩ => ⟨h1, by rw [h2]; exact (Chg.refl _ _).drewN m⟩

theorem fnew_any (v : Value) (xs : List Nat) (w : World) (h : RdB w v xs) (hl : xs.length < 100000000000) (hx : ∀ x ∈ xs, x < 256) :
    Calls Try.prog 17 #[v] w fun e w' => ∃ b o, e = .returned (.pointer (some ⟨b, 0, none⟩)) ∧ Rf w' b o xs 0 ∧ Above w.heap.size b o ∧ Chg (fun _ => False) w w' := by
  go_enter Try.func17, Try.ntmps17
  go_wp2_with fail
  refine (clone_any v xs w h hl).mono ?_
  rintro e w1 ⟨v1, rfl, ho, hc⟩
  have hlt := ho.lt
  obtain ⟨ao, cap, hv, -⟩ := own_src ho
  subst hv
  have HO := Lib.hid ho; have HC := Lib.hid hc; have HLT := Lib.hid hlt
  have HX := Lib.hid hx
  clear h hx ho hc hlt
  go_wp2
  go_ret
  have hsz := HC.out.size
  exact ⟨w1.heap.size, (Value.slice ao xs.length cap).ownBlock, rfl, ⟨HX.out, hl, Nat.zero_le _, _, heap_alloc_new w1 _, rfl, ownsRow_mono (HO.out.alloc _) (Nat.zero_le _)⟩, ⟨hsz, fun k hk => (HLT.out k hk).1⟩, HC.out.trans (Chg.alloc _ w1 _) (fun _ _ h => h)⟩

end Go.Proofs.Ytllkfmnofklpmaa

/- What bitf's Take, Pad and Rest do. -/
namespace Go.Proofs.Ytllkfmnofklpmaa
open Go.RowKit

/-- the bit at place i -/
def bt (xs : List Nat) (i : Nat) : Nat := xs.getD (i / 8) 0 / 2 ^ (i % 8) % 2
/-- the number in n bits from place p on -/
def fv (xs : List Nat) (p n : Nat) : Nat := val (((bitsB xs).drop p).take n)
/-- from place p to the byte's end there are bits 0 alone -/
def Clear (xs : List Nat) (p : Nat) : Prop := ∀ j, p ≤ j → j < 8 * ((p + 7) / 8) → bt xs j = 0

theorem bt_lt (xs : List Nat) (i : Nat) : bt xs i < 2 := Nat.mod_lt _ (by omega)

theorem fv_lt (xs : List Nat) (p n : Nat) : fv xs p n < 2 ^ n := val_take_lt _ _

theorem fv_succ (xs : List Nat) (p n : Nat) (h : p + n < 8 * xs.length) : fv xs p (n + 1) = fv xs p n + bt xs (p + n) * 2 ^ n := by
  have hl : n < ((bitsB xs).drop p).length := by rw [List.length_drop, bitsB_length]; omega
  unfold fv
  rw [val_take_succ _ n hl]
  congr 2
  have e1 := bitsB_get xs (p + n) h
  rw [List.getElem?_eq_getElem (by rw [bitsB_length]; exact h)] at e1
  rw [List.getElem_drop]
  exact (toNat_bit _ _ (Option.some.inj e1)).symm

theorem ftake_no (b : Nat) (o : Option Nat) (xs : List Nat) (p : Nat) (n : Int) (w : World) (h : Rf w b o xs p) (hn : n < 0 ∨ 24 < n ∨ ((8 * xs.length - p : Nat) : Int) < n) :
    Calls Try.prog 84 #[.pointer (some ⟨b, 0, none⟩), .int .i64 n] w fun e w' => e = .returned (.tuple #[.int .u32 0, .bool false]) ∧ Chg (fun _ => False) w w' := by
  by_cases h0 : n < 0
  · have h0' : decide (n < 0) = true := by simpa using h0
    clear h
    go_enter Try.func84, Try.ntmps84
    go_wp2
    go_ret2
    exact ⟨rfl, Chg.refl _ _⟩
  · have h0' : decide (n < 0) = false := by simpa using h0
    by_cases h1 : 24 < n
    · have h1' : decide (24 < n) = true := by simpa using h1
      clear h
      go_enter Try.func84, Try.ntmps84
      go_wp2
      go_ret2
      exact ⟨rfl, Chg.refl _ _⟩
    · have h1' : decide (24 < n) = false := by simpa using h1
      have h2' : ((8 * xs.length - p : Nat) : Int) < n := by omega
      have H := Lib.hid h
      clear h hn
      obtain ⟨L, hL⟩ : ∃ L, 8 * xs.length - p = L := ⟨_, rfl⟩
      rw [hL] at h2'
      have HL := Lib.hid hL
      clear hL
      go_enter Try.func84, Try.ntmps84
      go_wp2_with fail
      refine (fleft_any b o xs p w H.out).mono ?_
      rintro e w1 ⟨rfl, hc⟩
      rw [HL.out]
      go_wp2
      go_ret2
      exact ⟨rfl, hc⟩

set_option maxHeartbeats 1000000 in
theorem ftake_yes (b : Nat) (o : Option Nat) (xs : List Nat) (p n : Nat) (w : World) (h : Rf w b o xs p) (hn : n ≤ 24) (hnl : p + n ≤ 8 * xs.length) :
    Calls Try.prog 84 #[.pointer (some ⟨b, 0, none⟩), .int .i64 (n : Int)] w fun e w' => e = .returned (.tuple #[.int .u32 ((fv xs p n : Nat) : Int), .bool true]) ∧ Rf w' b o xs (p + n) ∧ Chg (fun k => k = b) w w' := by
  have h0' : decide ((n : Int) < 0) = false := by simp
  have h1' : decide (24 < (n : Int)) = false := by simp; omega
  have H := Lib.hid h
  obtain ⟨hx, hxl, -, -⟩ := h
  have HX := Lib.hid hx
  clear hx
  obtain ⟨L, hL⟩ : ∃ L, 8 * xs.length - p = L := ⟨_, rfl⟩
  have h2' : ¬ (L : Int) < (n : Int) := by omega
  have HL := Lib.hid hL; have HNL := Lib.hid hnl; have HXL := Lib.hid hxl
  clear hL hnl hxl
  go_enter Try.func84, Try.ntmps84
  go_wp2_with fail
  refine (fleft_any b o xs p w H.out).mono ?_
  rintro e w1 ⟨rfl, hc⟩
  rw [HL.out]
  have h1 := H.out.kept hc (by simp) (by simp)
  have H1 := Lib.hid h1; have HC := Lib.hid hc
  clear h1 hc H HL
  go_wp2
  go_loopw [6, 21] (fun o6 o21 wr => ∃ k : Nat, k ≤ n ∧ o21 = .int .i64 (k : Int) ∧ o6 = .int .u32 ((fv xs p k : Nat) : Int) ∧ Rf wr b o xs p ∧ Chg (fun _ => False) w wr) (fun _ o21 _ => n - (intOf o21).toNat)
  case atStart => exact ⟨0, Nat.zero_le _, rfl, by simp [fv, val], H1.out, HC.out⟩
  case round =>
    obtain ⟨k, hk, rfl, rfl, hr, hcr⟩ := hrel
    clear H1 HC
    by_cases hlt : k < n
    · have hnl := HNL.out; have hxl := HXL.out
      obtain ⟨-, -, -, v, hb, ho, hown⟩ := hr
      obtain ⟨g, cap, rfl, -⟩ := slice_of_own hown (by omega)
      obtain ⟨d0, d1, e0, e1⟩ := cells2 hb
      have hrow := hown.cellAt ((p + k) / 8) (by omega)
      rw [bv_get xs _ (by omega)] at hrow
      have hxx := getD_lt xs HX.out ((p + k) / 8)
      obtain ⟨y, hy⟩ : ∃ y, bt xs (p + k) = y := ⟨_, rfl⟩
      have HOR : Hid (bits BinOp.or IntKind.u32 ((fv xs p k : Nat) : Int) ((y : Int) * 2 ^ k % 4294967296) = ((fv xs p (k + 1) : Nat) : Int)) := by
        refine Lib.hid ?_
        rw [or_shift (fv xs p k) k y (fv_lt _ _ _) (by omega) (by have := bt_lt xs (p + k); omega), fv_succ xs p k (by omega), hy]
      have hr' : Hid (Rf wr b o xs p) := Lib.hid ⟨HX.out, hxl, by omega, _, hb, ho, hown⟩
      clear hb hown ho
      unfold bt at hy
      go_wp2
      go_quiet (first | (go_at_call 52; refine Calls.quiet_of_same (fbitAt_y g 0 (p + k) cap xs.length (xs.getD ((p + k) / 8) 0) y _ ?_ (by omega) (by omega) hxx hy); rw [Nat.zero_add]; exact hrow))
      go_wp2
      rw [HOR.out]
      go_roundw
      case rel => exact ⟨k + 1, by omega, by go_num, rfl, hr'.out.drewN nq, hcr.drewN nq⟩
      case measure => simp [intOf]; omega
    · obtain rfl : k = n := by omega
      have hnl := HNL.out; have hxl := HXL.out
      obtain ⟨-, -, -, v, hb, ho, hown⟩ := hr
      have hne : ∀ q, v.ownBlock = some q → q ≠ b := by
        have hR : Rf wr b o xs p := ⟨HX.out, hxl, by omega, v, hb, ho, hown⟩
        intro q hq
        exact (hR.lt.2 q (ho.symm.trans hq)).2
      obtain ⟨ao, cap, rfl, -⟩ := own_src hown
      obtain ⟨d0, d1, e0, e1⟩ := cells2 hb
      have hb1 := set2_1 (u := .int .i64 ((p : Int) + (k : Int))) hb
      have hc1 := Chg.setCell wr ⟨b, 1, none⟩ (.int .i64 ((p : Int) + (k : Int)))
      have ho1 := hc1.own hown (fun q hq hx => hne q hq hx)
      have HB1 := Lib.hid hb1; have HC1 := Lib.hid hc1; have HO1 := Lib.hid ho1; have HO := Lib.hid ho
      clear hb1 hc1 ho1 hb hown hne ho
      go_wp2
      go_ret2
      refine ⟨rfl, ⟨HX.out, hxl, by omega, _, HB1.out, HO.out, HO1.out⟩, (hcr.mono (fun _ _ h => h.elim)).trans HC1.out (fun _ _ h => h)⟩

/-- what Take answers for every n -/
theorem ftake_any (b : Nat) (o : Option Nat) (xs : List Nat) (p : Nat) (n : Int) (w : World) (h : Rf w b o xs p) :
    Calls Try.prog 84 #[.pointer (some ⟨b, 0, none⟩), .int .i64 n] w fun e w' =>
      (∃ m : Nat, n = (m : Int) ∧ m ≤ 24 ∧ p + m ≤ 8 * xs.length ∧ e = .returned (.tuple #[.int .u32 ((fv xs p m : Nat) : Int), .bool true]) ∧ Rf w' b o xs (p + m) ∧ Chg (fun k => k = b) w w') ∨
      ((n < 0 ∨ 24 < n ∨ ((8 * xs.length - p : Nat) : Int) < n) ∧ e = .returned (.tuple #[.int .u32 0, .bool false]) ∧ Rf w' b o xs p ∧ Chg (fun _ => False) w w') := by
  by_cases hn : n < 0 ∨ 24 < n ∨ ((8 * xs.length - p : Nat) : Int) < n
  · exact (ftake_no b o xs p n w h hn).mono fun e w' ⟨h1, h2⟩ => .inr ⟨hn, h1, h.kept h2 (by simp) (by simp), h2⟩
  · obtain ⟨m, rfl⟩ := Int.eq_ofNat_of_zero_le (show 0 ≤ n by omega)
    have hp := h.2.2.1
    exact (ftake_yes b o xs p m w h (by omega) (by omega)).mono fun e w' ⟨h1, h2, h3⟩ => .inl ⟨m, rfl, by omega, by omega, h1, h2, h3⟩

set_option maxHeartbeats 1000000 in
theorem fpad_any (b : Nat) (o : Option Nat) (xs : List Nat) (p : Nat) (w : World) (h : Rf w b o xs p) :
    Calls Try.prog 25 #[.pointer (some ⟨b, 0, none⟩)] w fun e w' =>
      (Clear xs p ∧ e = .returned (.bool true) ∧ Rf w' b o xs (8 * ((p + 7) / 8)) ∧ Chg (fun k => k = b) w w') ∨ (¬ Clear xs p ∧ e = .returned (.bool false) ∧ w = w') := by
  have hne := h.lt.2
  obtain ⟨hx, hxl, hp, v, hb, ho, hown⟩ := h
  obtain ⟨ao, cap, rfl, -⟩ := own_src hown
  obtain ⟨d0, d1, e0, e1⟩ := cells2 hb
  obtain ⟨E, hE⟩ : ∃ E, (p + 7) / 8 = E := ⟨_, rfl⟩
  have hE1 : p ≤ 8 * E ∧ 8 * E ≤ 8 * xs.length := by omega
  have HX := Lib.hid hx; have HB := Lib.hid hb; have HO := Lib.hid ho; have HOWN := Lib.hid hown; have HE := Lib.hid hE; have HNE := Lib.hid hne
  clear hx hb ho hown hE hne
  go_enter Try.func25, Try.ntmps25
  go_wp2_with fail
  refine (begun_any b p _ w (by omega) HB.out).mono ?_
  rintro e w1 ⟨rfl, hw⟩
  subst hw
  rw [HE.out]
  go_wp2
  go_loopw [4] (fun o4 wr => ∃ k : Nat, p ≤ k ∧ k ≤ 8 * E ∧ o4 = .int .i64 (k : Int) ∧ (∀ j, p ≤ j → j < k → bt xs j = 0) ∧ wr = w1) (fun o4 _ => 8 * E - (intOf o4).toNat)
  case atStart => exact ⟨p, Nat.le_refl _, by omega, rfl, fun j h1 h2 => by omega, rfl⟩
  case round =>
    obtain ⟨k, hk1, hk2, rfl, hz, rfl⟩ := hrel
    by_cases hlt : k < 8 * E
    · have hown := HOWN.out
      obtain ⟨g, cap', hv, -⟩ := slice_of_own hown (by omega)
      simp only [Value.slice.injEq, true_and] at hv
      obtain ⟨rfl, rfl⟩ := hv
      have hrow := hown.cellAt (k / 8) (by omega)
      rw [bv_get xs _ (by omega)] at hrow
      have hxx := getD_lt xs HX.out (k / 8)
      obtain ⟨y, hy⟩ : ∃ y, bt xs k = y := ⟨_, rfl⟩
      have hy2 := bt_lt xs k
      have HZ := Lib.hid hz; have HY := Lib.hid hy
      clear hz
      unfold bt at hy
      clear hown
      go_wp2_with fail
      refine (fbitAt_y g 0 k cap xs.length (xs.getD (k / 8) 0) y _ (by rw [Nat.zero_add]; exact hrow) (by omega) (by omega) hxx hy).mono ?_
      rintro e w2 ⟨rfl, hw⟩
      subst hw
      clear hrow hxx hy
      by_cases hy0 : y = 0
      · subst hy0
        go_wp2
        go_roundw
        case rel =>
          refine ⟨k + 1, by omega, by omega, by go_num, fun j h1 h2 => ?_, trivial⟩
          by_cases hjk : j = k
          · rw [hjk]; exact HY.out
          · exact HZ.out j h1 (by omega)
        case measure => simp [intOf]; omega
      · have hy1 : y = 1 := by have := HY.out; omega
        subst hy1
        go_wp2
        go_ret
        refine .inr ⟨fun hcl => ?_, rfl, rfl⟩
        have h1 := hcl k hk1 (by rw [HE.out]; omega)
        have h2 := HY.out
        omega
    · obtain rfl : k = 8 * E := by omega
      have hb1 := set2_1 (u := .int .i64 ((8 * E : Nat) : Int)) HB.out
      have hc1 := Chg.setCell wr ⟨b, 1, none⟩ (.int .i64 ((8 * E : Nat) : Int))
      have ho1 := hc1.own HOWN.out (fun q hq hx => (HNE.out q (HO.out.symm.trans hq)).2 hx)
      have HB1 := Lib.hid hb1; have HC1 := Lib.hid hc1; have HO1 := Lib.hid ho1
      have HZ := Lib.hid hz
      clear hb1 hc1 ho1 hz
      go_wp2
      go_ret
      rw [show ((E : Int) * 8) = ((8 * E : Nat) : Int) from by omega]
      refine .inl ⟨fun j h1 h2 => HZ.out j h1 (by have := HE.out; omega), rfl, ⟨HX.out, hxl, by have := HE.out; omega, _, ?_, HO.out, ?_⟩, ?_⟩
      · rw [HE.out]; exact HB1.out
      · exact HO1.out
      · exact HC1.out

end Go.Proofs.Ytllkfmnofklpmaa

/- Plain mathematics of chapter 13: numbers that are no more than what is left. -/
namespace Go.Proofs.Ytllkfmnofklpmaa
open Go

/-- may v be put, l being left? -/
def bCan (v l : Int) : Prop := 1 ≤ l ∧ l ≤ 4096 ∧ 0 ≤ v ∧ v ≤ l
instance (v l : Int) : Decidable (bCan v l) := by unfold bCan; infer_instance
def bgPutB (bs : List Bool) (v l : Int) : List Bool := if bCan v l then bs ++ bitsOf v.toNat (widthI l) else bs
def bgCostN (v l : Int) : Nat := if bCan v l then widthI l else 0
/-- what Take tells of the bits from p on: a number, an error, and where it stands then -/
def bgTk (xs : List Nat) (p : Nat) (l : Int) : Int × Int × Nat :=
  if 1 ≤ l ∧ l ≤ 4096 then (if p + widthI l ≤ 8 * xs.length then (if ((fv xs p (widthI l) : Nat) : Int) ≤ l then (((fv xs p (widthI l) : Nat) : Int), 0, p + widthI l) else (0, 13, p + widthI l)) else (0, 3, p)) else (0, 1, p)

theorem width_13 {l : Int} (h1 : 1 ≤ l) (h2 : l ≤ 4096) : 1 ≤ widthI l ∧ widthI l ≤ 13 ∧ l < ((2 ^ widthI l : Nat) : Int) ∧ ((2 ^ (widthI l - 1) : Nat) : Int) ≤ l := by
  have hs := floor_spec h1
  have hw := width_floor h1
  have hf := floor_mono (n := l) (m := ((2 ^ 12 : Nat) : Int)) (by simpa using h2)
  rw [floor_at] at hf
  rw [hw]
  exact ⟨by omega, by omega, hs.2, by rw [Nat.add_sub_cancel]; exact hs.1⟩
theorem bgPutB_length (bs : List Bool) (v l : Int) : (bgPutB bs v l).length = bs.length + bgCostN v l := by
  unfold bgPutB bgCostN
  split
  · rw [List.length_append, bitsOf_length]
  · rfl
theorem bgCost_le (v l : Int) : bgCostN v l ≤ 13 := by
  unfold bgCostN
  split
  · next h => exact (width_13 h.1 h.2.1).2.1
  · omega
theorem bgTk_le (xs : List Nat) (p : Nat) (l : Int) (h : p ≤ 8 * xs.length) : (bgTk xs p l).2.2 ≤ 8 * xs.length := by
  unfold bgTk
  split
  · split
    · split
      · assumption
      · assumption
    · exact h
  · exact h
theorem bgTk_num (xs : List Nat) (p : Nat) (l : Int) : 0 ≤ (bgTk xs p l).1 ∧ (bgTk xs p l).1 ≤ 4096 ∧ 0 ≤ (bgTk xs p l).2.1 ∧ (bgTk xs p l).2.1 ≤ 13 := by
  unfold bgTk
  split
  · split
    · split
      · simp only []; omega
      · simp only []; omega
    · simp only []; omega
  · simp only []; omega

end Go.Proofs.Ytllkfmnofklpmaa

/- What bitf's Rest tells: memory of its own. -/
namespace Go.Proofs.Ytllkfmnofklpmaa
open Go.RowKit

/-- bytes behind the first q -/
theorem RdB.dropOwn {w : World} {g cap q : Nat} {xs : List Nat} (h : w.ownsRow 0 5 1 (.slice (some ⟨g, 0, none⟩) xs.length cap) xs.length (bv xs)) (hq : q ≤ xs.length) (c' : Nat) : RdB w (.slice (some ⟨g, q, none⟩) (xs.length - q) c') (xs.drop q) := by
  refine .inr ⟨g, q, c', by simp, fun j hj => ?_⟩
  have hj' : q + j < xs.length := by rw [List.length_drop] at hj; omega
  rw [h.cellAt (q + j) (by omega), bv_get xs (q + j) hj']
  simp [List.getD_eq_getElem?_getD]

theorem drop_bytes {xs : List Nat} (h : ∀ x ∈ xs, x < 256) (q : Nat) : ∀ x ∈ xs.drop q, x < 256 := fun x hx => h x (List.mem_of_mem_drop hx)

set_option maxHeartbeats 1000000 in
set_option maxRecDepth 20000 in
theorem frest_any (b : Nat) (o : Option Nat) (xs : List Nat) (p : Nat) (w : World) (h : Rf w b o xs p) :
    Calls Try.prog 26 #[.pointer (some ⟨b, 0, none⟩)] w fun e w' => ∃ v', e = .returned v' ∧ w'.ownsRow w.heap.size 5 1 v' (xs.drop ((p + 7) / 8)).length (bv (xs.drop ((p + 7) / 8))) ∧ Chg (fun _ => False) w w' := by
  obtain ⟨hx, hxl, hp, v, hb, ho, hown⟩ := h
  obtain ⟨d0, d1, e0, e1⟩ := cells2 hb
  have HBG := Lib.hid (begun_any b p v w.drew (by omega) hb)
  have hcapo : ∃ ao cap, v = .slice ao xs.length cap ∧ xs.length ≤ cap ∧ cap ≤ maxLen ∧ (0 < xs.length → ∃ g, ao = some ⟨g, 0, none⟩) := by
    rcases hown.2 with ⟨rfl, h0⟩ | ⟨g, cap, cur, rfl, _, _, h1, h2, _⟩
    · exact ⟨none, 0, by rw [h0], by omega, by unfold maxLen; omega, fun h => by omega⟩
    · exact ⟨_, cap, rfl, h1, h2, fun _ => ⟨g, rfl⟩⟩
  obtain ⟨ao, cap, rfl, hcap, hmax, hao⟩ := hcapo
  obtain ⟨q, hq⟩ : ∃ q, (p + 7) / 8 = q := ⟨_, rfl⟩
  have hql : q ≤ xs.length := by omega
  rw [hq] at HBG ⊢
  have c0 : (0 : Int) ≤ (q : Int) := by omega
  have c1 : (q : Int) ≤ (xs.length : Int) := by omega
  have c2 : (xs.length : Int) ≤ (cap : Int) := by omega
  have c3 : (xs.length : Int) ≤ 9223372036854775807 := by unfold maxLen at hmax; omega
  have HB := Lib.hid hb; have HOWN := Lib.hid hown; have HX := Lib.hid hx
  clear hb hown hx ho hq
  by_cases hqe : q = xs.length
  · subst hqe
    go_enter Try.func26, Try.ntmps26
    go_wp2
    refine wp_region_still_tail 9 (by kernel_rfl) (by kernel_rfl) ?_
    simp only [List.take_succ_cons, List.take_zero, List.drop_succ_cons, List.drop_zero]
    repeat still_step
    still_call HBG.out
    repeat still_step
    refine wpStill_nil ?_
    change wpList _ _ _ _ _ w.drew
    go_wp2_with fail
    refine (clone_any _ [] w.drew (.inl ⟨rfl, _, _, rfl⟩) (by decide)).mono ?_
    rintro e w1 ⟨v1, rfl, ho1, hc1⟩
    have HO1 := Lib.hid ho1; have HC1 := Lib.hid hc1
    clear ho1 hc1
    go_wp2
    go_ret
    exact ⟨_, rfl, by simpa using HO1.out, (Chg.refl _ w).drew.trans HC1.out (fun _ _ h => h)⟩
  · have hql2 : q < xs.length := by omega
    obtain ⟨g, rfl⟩ := hao (by omega)
    have HRD := Lib.hid (RdB.dropOwn (w := w) (q := q) HOWN.out hql (xs.length - q))
    go_enter Try.func26, Try.ntmps26
    go_wp2
    refine wp_region_still_tail 9 (by kernel_rfl) (by kernel_rfl) ?_
    simp only [List.take_succ_cons, List.take_zero, List.drop_succ_cons, List.drop_zero]
    repeat still_step
    still_call HBG.out
    repeat still_step
    refine wpStill_nil ?_
    change wpList _ _ _ _ _ w.drew
    go_wp2_with fail
    refine (clone_any _ (xs.drop q) w.drew HRD.out (by rw [List.length_drop]; omega)).mono ?_
    rintro e w1 ⟨v1, rfl, ho1, hc1⟩
    have HO1 := Lib.hid ho1; have HC1 := Lib.hid hc1
    clear ho1 hc1
    go_wp2
    go_ret
    exact ⟨_, rfl, HO1.out, (Chg.refl _ w).drew.trans HC1.out (fun _ _ h => h)⟩

end Go.Proofs.Ytllkfmnofklpmaa

/- What puncheonlaw03.awake tells: the chapter's example holds. -/
namespace Go.Proofs.Ytllkfmnofklpmaa
open Go.RowKit

theorem same_eq (v1 v2 : Value) (xs : List Nat) (w : World) (h1 : RdB w v1 xs) (h2 : RdB w v2 xs) (hx : ∀ x ∈ xs, x < 256) :
    Calls Try.prog 13 #[v1, v2] w fun e w' => e = .returned (.bool true) ∧ w = w' := by
  refine (same_any v1 v2 xs xs w h1 h2 hx hx).mono ?_
  rintro e w' ⟨rfl, rfl⟩
  exact ⟨by simp, rfl⟩

theorem fleft_w (b : Nat) (o : Option Nat) (xs : List Nat) (q : Nat) (w : World) (h : Rf w b o xs (8 * q)) :
    Calls Try.prog 22 #[.pointer (some ⟨b, 0, none⟩)] w fun e w' => e = .returned (.int .i64 (8 * ((xs.length : Int) - (q : Int)))) ∧ Chg (fun _ => False) w w' := by
  have hp := h.2.2.1
  refine (fleft_any b o xs (8 * q) w h).mono ?_
  rintro e w' ⟨rfl, hc⟩
  exact ⟨congrArg (fun z => Ending.returned (Value.int .i64 z)) (by omega), hc⟩

theorem frest_q (b : Nat) (o : Option Nat) (xs : List Nat) (p q : Nat) (w : World) (h : Rf w b o xs p) (hq : (p + 7) / 8 = q) :
    Calls Try.prog 26 #[.pointer (some ⟨b, 0, none⟩)] w fun e w' => ∃ v', e = .returned v' ∧ RdB w' v' (xs.drop q) ∧ Chg (fun _ => False) w w' := by
  subst hq
  refine (frest_any b o xs p w h).mono ?_
  rintro e w' ⟨v', rfl, ho, hc⟩
  exact ⟨v', rfl, RdB.of_own ho, hc⟩

theorem ftake_in (b : Nat) (o : Option Nat) (xs : List Nat) (p : Nat) (n : Int) (w : World) (h : Rf w b o xs p) (hn0 : 0 ≤ n) (hn : n ≤ 24) (hl : (p : Int) + n ≤ 8 * xs.length) :
    Calls Try.prog 84 #[.pointer (some ⟨b, 0, none⟩), .int .i64 n] w fun e w' => e = .returned (.tuple #[.int .u32 ((fv xs p n.toNat : Nat) : Int), .bool true]) ∧ Rf w' b o xs (p + n.toNat) ∧ Chg (fun k => k = b) w w' := by
  obtain ⟨m, rfl⟩ := Int.eq_ofNat_of_zero_le hn0
  exact ftake_yes b o xs p m w h (by omega) (by omega)

theorem ex_fv : fv [13, 7] 0 (3 : Int).toNat = 5 ∧ fv [13, 7] 3 (2 : Int).toNat = 1 := by decide +kernel
theorem ex_clear : Clear [13, 7] 5 := by
  intro j h1 h2
  have : j = 5 ∨ j = 6 ∨ j = 7 := by omega
  rcases this with rfl | rfl | rfl <;> decide
theorem str7 : ((strB [7]).toList == [7]) = true := by decide +kernel

theorem two_rdb (w : World) (x y : Nat) : RdB (w.alloc (.cells #[.int .u8 (x : Int), .int .u8 (y : Int)] 5)) (.slice (some ⟨w.heap.size, 0, none⟩) 2 2) [x, y] := by
  refine .inr ⟨w.heap.size, 0, 2, rfl, fun j hj => ?_⟩
  have : j = 0 ∨ j = 1 := by simp at hj; omega
  rcases this with rfl | rfl <;> (rw [cell_of_row _ _ _ _ _ _ (heap_alloc_new w _)]; rfl)

/-- bytes of a slice that the call owns, whatever their address -/
theorem own_slice {w : World} {base : Nat} {v : Value} {n : Nat} {xs : List Value} (h : w.ownsRow base 5 1 v n xs) : ∃ ao cap, v = .slice ao n cap := by
  obtain ⟨ao, cap, hv, _⟩ := own_src h
  exact ⟨ao, cap, hv⟩

end Go.Proofs.Ytllkfmnofklpmaa

/- What bitw's Bytes tells: memory of its own. -/
namespace Go.Proofs.Ytllkfmnofklpmaa
open Go.RowKit

set_option maxHeartbeats 1000000 in
theorem bytes_any (b : Nat) (o : Option Nat) (bs : List Bool) (w : World) (h : Wr w b o bs) (hlen : bs.length < 1000000000) :
    Calls Try.prog 14 #[.pointer (some ⟨b, 0, none⟩)] w fun e w' => Fresh w (pack bs) e w' := by
  obtain ⟨i, hi, hz0, hz1, hz2⟩ := info_parts Try.infoU8
  obtain ⟨v, hb, ho, hown⟩ := h
  have hbl := lt_of_block hb
  have hlt := hown.lt
  obtain ⟨ao, cap, rfl, hsrc⟩ := own_src hown
  obtain ⟨c0, c1, f0, f1⟩ := cells2 hb
  have hby : i.bytes * ((bs.length + 7) / 8) ≤ 281474976710656 := by rw [hz2]; omega
  have HB := Lib.hid hb; have HS := Lib.hid hsrc; have HLt := Lib.hid hlt
  clear hb hsrc hlt ho
  go_enter Try.func14, Try.ntmps14
  go_wp2_with (at_make; refine wpList_make_full _ rfl (.tmp 8) (.tmp 8) 31 rfl w.heap.size 5 i (.int .u8 0) 1 Try.underlying31 hi hz0 hz1 .i64 .i64 _ _ ((bs.length + 7) / 8) rfl rfl (by omega) (by omega) hby (by unfold maxLen; omega) (Nat.le_refl _) ?_)
  intro w1 hown1 hgrow1
  have hc1 : Chg (fun _ => False) w w1 := (Chg.of_grown hgrow1).mono fun k _ hk => by simp at hk
  have hb1 := (hc1.block b hbl (by simp)).trans HB.out
  obtain ⟨d0, d1, e0, e1⟩ := cells2 hb1
  obtain ⟨Z, hZ, hrow⟩ : ∃ Z : List Value, Z.length = (bs.length + 7) / 8 ∧ w1.heap[w.heap.size]? = some (.cells Z.toArray 5 (0, 0)) := ⟨_, zeros_length _, own_heap hown1⟩
  have hsrc1 := own_src (hc1.own hown (fun k _ => by simp))
  obtain ⟨_, _, hv1, hsrc1⟩ := hsrc1
  simp only [Value.slice.injEq, true_and] at hv1
  obtain ⟨rfl, rfl⟩ := hv1
  clear hb1 hgrow1 hown1
  have HR := Lib.hid hrow; have HC := Lib.hid hc1; have HV := Lib.hid hsrc1; have HZ := Lib.hid hZ
  clear hrow hc1 hsrc1 hZ
  go_wp2_with (with_reducible refine wpList_copy_splice rfl (.tmp 10) (.tmp 14) 31 31 rfl 5 Try.underlying31 Try.sizeU8 _ _ _ _ _ _ rfl rfl w.heap.size 0 Z 5 HR.out (bv (pack bs)) ?c1 ?c2 ?c3 (bv_one _) w.heap.size w1 (Below.refl _ _) (Nat.le_refl _) ?_)
  case c1 => rw [bv_length, pack_length]; exact (Nat.min_self _).symm
  case c2 => intro hp; exact HV.out hp
  case c3 => rw [HZ.out, bv_length, pack_length]; omega
  intro w2 HG2 hB2
  go_wp2
  go_ret
  refine ⟨w.heap.size, (bs.length + 7) / 8, by rw [pack_length]; rfl, ?_, HC.out.then_below hB2⟩
  have := HG2.out
  rw [splice_all _ _ (by rw [HZ.out, bv_length, pack_length])] at this
  rw [pack_length]
  exact own_of_heap (Nat.le_refl _) (by rw [bv_length, pack_length]) (by unfold maxLen; omega) this

end Go.Proofs.Ytllkfmnofklpmaa

/- The walk of BitrBack. -/
namespace Go.Proofs.Ytllkfmnofklpmaa
open Go.RowKit

def pv : List (Nat × Int) → List Value
  | [] => []
  | p :: r => .int .u32 (p.1 : Int) :: .int .i64 p.2 :: pv r

theorem pv_length (ps : List (Nat × Int)) : (pv ps).length = ps.length * 2 := by
  induction ps with
  | nil => rfl
  | cons p r ih => simp [pv, ih]; omega

theorem pv_append (a b : List (Nat × Int)) : pv (a ++ b) = pv a ++ pv b := by
  induction a with
  | nil => rfl
  | cons p r ih => simp [pv, ih]

theorem pv_get (ps : List (Nat × Int)) (i : Nat) (h : i < ps.length) : (pv ps)[i * 2]? = some (.int .u32 (ps[i].1 : Int)) ∧ (pv ps)[i * 2 + 1]? = some (.int .i64 ps[i].2) := by
  induction ps generalizing i with
  | nil => simp at h
  | cons p r ih =>
    cases i with
    | zero => exact ⟨rfl, rfl⟩
    | succ i =>
      have := ih i (by simpa using h)
      rw [show (i + 1) * 2 = i * 2 + 2 from by omega]
      exact this

def okP (p : Nat × Int) : Bool := decide (0 ≤ p.2 ∧ p.2 ≤ 24)

theorem putAll_filter (bs : List Bool) (ps : List (Nat × Int)) : putAll bs (ps.filter okP) = putAll bs ps := by
  induction ps generalizing bs with
  | nil => rfl
  | cons p r ih =>
    by_cases hp : okP p = true
    · rw [List.filter_cons_of_pos hp]; exact ih _
    · rw [List.filter_cons_of_neg hp]
      have e : putB bs p.1 p.2 = bs := by
        unfold putB; rw [if_neg (by simpa [okP] using hp)]
      rw [ih]; show putAll bs r = putAll (putB bs p.1 p.2) r; rw [e]

theorem filter_succ (ps : List (Nat × Int)) (k : Nat) (h : k < ps.length) : (ps.take (k + 1)).filter okP = (ps.take k).filter okP ++ (if okP ps[k] then [ps[k]] else []) := by
  rw [List.take_succ_eq_append_getElem h, List.filter_append]
  congr 1
  by_cases hp : okP ps[k] <;> simp [hp]

theorem row_ne {w : World} {base size n b : Nat} {e t : TypeId} {v : Value} {xs : List Value} {cs : Array Value} {z : Nat × Nat} (h : w.ownsRow base e size v n xs) (hb : w.heap[b]? = some (.cells cs t z)) (hne : e ≠ t) : ∀ k, v.ownBlock = some k → k ≠ b := by
  intro k hk
  rcases h.2 with ⟨rfl, _⟩ | ⟨q, cap, cur, rfl, _, hq, _⟩
  · simp [Value.ownBlock] at hk
  · simp only [Value.ownBlock, Option.some.injEq] at hk
    subst hk
    rintro rfl
    rw [hb] at hq
    simp only [Option.some.injEq, Obj.cells.injEq] at hq
    exact hne hq.2.1.symm

theorem mask_eq (u n : Nat) (hu : u < 4294967296) (hn : n ≤ 24) : ((u : Int) % 2 ^ n != bits BinOp.and IntKind.u32 (u : Int) ((2 ^ n - 1) % 4294967296)) = false := by
  have hp : 2 ^ n ≤ 2 ^ 24 := Nat.pow_le_pow_right (by omega) hn
  have hp1 : 0 < 2 ^ n := Nat.pow_pos (by omega)
  have e : ((2 : Int) ^ n - 1) % 4294967296 = 2 ^ n - 1 := by
    have e1 : ((2 : Int) ^ n) = ((2 ^ n : Nat) : Int) := by simp
    rw [e1]
    generalize 2 ^ n = z at *
    omega
  have h := bits_mask .u32 32 (by decide) wraps_u32 n (by omega) (u : Int) (by omega) (by omega)
  rw [e, h]
  simp

theorem okP_false {p : Nat × Int} (h : okP p = false) : decide (0 ≤ p.2 ∧ p.2 ≤ 24) = false := h
theorem okP_true {p : Nat × Int} (h : okP p = true) : decide (0 ≤ p.2 ∧ p.2 ≤ 24) = true := h

end Go.Proofs.Ytllkfmnofklpmaa

/- The walk of BitfBack. -/
namespace Go.Proofs.Ytllkfmnofklpmaa
open Go.RowKit

theorem putAll_pre (bs : List Bool) (ps : List (Nat × Int)) : ∃ t, putAll bs ps = bs ++ t := by
  induction ps generalizing bs with
  | nil => exact ⟨[], by simp [putAll]⟩
  | cons p r ih =>
    obtain ⟨t, ht⟩ := ih (putB bs p.1 p.2)
    by_cases hp : 0 ≤ p.2 ∧ p.2 ≤ 24
    · refine ⟨bitsOf p.1 p.2.toNat ++ t, ?_⟩
      show putAll (putB bs p.1 p.2) r = _
      rw [ht]; unfold putB; rw [if_pos hp, List.append_assoc]
    · refine ⟨t, ?_⟩
      show putAll (putB bs p.1 p.2) r = _
      rw [ht]; unfold putB; rw [if_neg hp]

theorem bits_pack_more (bs : List Bool) (ms : List Nat) : bitsB (pack bs ++ ms) = bs ++ (List.replicate (8 * ((bs.length + 7) / 8) - bs.length) false ++ bitsB ms) := by
  rw [bitsB_append, bitsB_pack, List.append_assoc]

theorem clear_pack (bs : List Bool) (ms : List Nat) : Clear (pack bs ++ ms) bs.length := by
  intro j h1 h2
  have hj : j < 8 * (pack bs ++ ms).length := by rw [List.length_append, pack_length]; omega
  have e := bitsB_get (pack bs ++ ms) j hj
  rw [bits_pack_more, List.getElem?_append_right (by omega), List.getElem?_append_left (by rw [List.length_replicate]; omega), List.getElem?_replicate, if_pos (by omega)] at e
  have hb := bt_lt (pack bs ++ ms) j
  have : ¬ bt (pack bs ++ ms) j = 1 := by
    intro h1
    unfold bt at h1
    rw [h1] at e; simp at e
  omega

/-- the number that was put behind the bits A is taken there -/
theorem fv_put (ps : List (Nat × Int)) (ms : List Nat) (k : Nat) (h : k < ps.length) (n : Nat) (hn : n ≤ 24) (hk : ps[k].2 = (n : Int)) :
    fv (pack (putAll [] ps) ++ ms) (putAll [] (ps.take k)).length n = ps[k].1 % 2 ^ n ∧ (putAll [] (ps.take (k + 1))).length = (putAll [] (ps.take k)).length + n := by
  have hs := putAll_succ [] ps k h
  rw [hk] at hs
  unfold putB at hs
  rw [if_pos (by omega), Int.toNat_natCast] at hs
  refine ⟨?_, by rw [hs, List.length_append, bitsOf_length]⟩
  have e : putAll [] ps = putAll (putAll [] (ps.take (k + 1))) (ps.drop (k + 1)) := by
    conv => lhs; rw [← List.take_append_drop (k + 1) ps]
    rw [putAll_append]
  obtain ⟨t, ht⟩ := putAll_pre (putAll [] (ps.take (k + 1))) (ps.drop (k + 1))
  rw [ht, hs, List.append_assoc] at e
  unfold fv
  rw [bits_pack_more, e, List.append_assoc, List.drop_left, List.append_assoc]
  rw [List.take_append_of_le_length (by rw [bitsOf_length]; omega), List.take_of_length_le (by rw [bitsOf_length]; omega)]
  exact val_bitsOf _ _

theorem put_skip (ps : List (Nat × Int)) (k : Nat) (h : k < ps.length) (hn : ¬ (0 ≤ ps[k].2 ∧ ps[k].2 ≤ 24)) : putAll [] (ps.take (k + 1)) = putAll [] (ps.take k) := by
  rw [putAll_succ [] ps k h]; unfold putB; rw [if_neg hn]

theorem drop_pack (bs : List Bool) (ms : List Nat) : (pack bs ++ ms).drop ((bs.length + 7) / 8) = ms := by
  rw [← pack_length bs, List.drop_left]

theorem put_upto (ps : List (Nat × Int)) (k : Nat) : (putAll [] (ps.take k)).length ≤ (putAll [] ps).length := by
  have e : putAll [] ps = putAll (putAll [] (ps.take k)) (ps.drop k) := by
    conv => lhs; rw [← List.take_append_drop k ps]
    rw [putAll_append]
  rw [e]; exact (putAll_length _ _).1

theorem fleft_e (b : Nat) (o : Option Nat) (xs : List Nat) (p M : Nat) (w : World) (h : Rf w b o xs p) (hM : 8 * xs.length = p + 8 * M) :
    Calls Try.prog 22 #[.pointer (some ⟨b, 0, none⟩)] w fun e w' => e = .returned (.int .i64 (8 * (M : Int))) ∧ Chg (fun _ => False) w w' := by
  refine (fleft_any b o xs p w h).mono ?_
  rintro e w' ⟨rfl, hc⟩
  exact ⟨congrArg (fun z => Ending.returned (Value.int .i64 z)) (by omega), hc⟩

end Go.Proofs.Ytllkfmnofklpmaa

/- Plain mathematics of chapter 14: how many zeros. -/
namespace Go.Proofs.Ytllkfmnofklpmaa
open Go

/-- the bits of n: as often as 3 goes into it 3, and then what is left -/
def rnB : Nat → List Bool
  | 0 => bitsOf 0 2
  | 1 => bitsOf 1 2
  | 2 => bitsOf 2 2
  | n + 3 => bitsOf 3 2 ++ rnB n
theorem rnB_small {n : Nat} (h : n < 3) : rnB n = bitsOf n 2 := by
  obtain rfl | rfl | rfl : n = 0 ∨ n = 1 ∨ n = 2 := by omega
  · rfl
  · rfl
  · rfl
theorem rnB_length : ∀ n : Nat, (rnB n).length = 2 * (n / 3) + 2
  | 0 => rfl
  | 1 => rfl
  | 2 => rfl
  | n + 3 => by
    have := rnB_length n
    simp only [rnB, List.length_append, bitsOf_length, this]
    omega
def rnOk (n : Int) : Prop := 0 ≤ n ∧ n ≤ 255
instance (n : Int) : Decidable (rnOk n) := by unfold rnOk; infer_instance
def rnPutB (bs : List Bool) (n : Int) : List Bool := if rnOk n then bs ++ rnB n.toNat else bs
def rnCostN (n : Int) : Nat := if rnOk n then 2 * (n.toNat / 3) + 2 else 0
theorem rnPutB_length (bs : List Bool) (n : Int) : (rnPutB bs n).length = bs.length + rnCostN n := by
  unfold rnPutB rnCostN
  split
  · rw [List.length_append, rnB_length]
  · rfl
theorem rnCost_le (n : Int) : rnCostN n ≤ 172 := by
  unfold rnCostN
  by_cases h : rnOk n
  · rw [if_pos h]; have := h.2; omega
  · rw [if_neg h]; omega
/-- twos of bits are taken and added up -/
def rnGo (xs : List Nat) (most : Nat) : Nat → Nat → Nat → Int × Int × Nat
  | 0, p, _ => (0, 3, p)
  | f + 1, p, acc => if p + 2 ≤ 8 * xs.length then (if most < acc + fv xs p 2 then (0, 13, p + 2) else if fv xs p 2 < 3 then (((acc + fv xs p 2 : Nat) : Int), 0, p + 2) else rnGo xs most f (p + 2) (acc + fv xs p 2)) else (0, 3, p)
def rnTk (xs : List Nat) (p : Nat) (most : Int) : Int × Int × Nat := if rnOk most then rnGo xs most.toNat (4 * xs.length + 1) p 0 else (0, 1, p)

theorem rnGo_le (xs : List Nat) (most : Nat) : ∀ f p acc, p ≤ 8 * xs.length → (rnGo xs most f p acc).2.2 ≤ 8 * xs.length
  | 0, p, acc, h => h
  | f + 1, p, acc, h => by
    simp only [rnGo]
    split
    · split
      · assumption
      · split
        · assumption
        · exact rnGo_le xs most f _ _ (by omega)
    · exact h
theorem rnTk_le (xs : List Nat) (p : Nat) (most : Int) (h : p ≤ 8 * xs.length) : (rnTk xs p most).2.2 ≤ 8 * xs.length := by
  unfold rnTk
  split
  · exact rnGo_le _ _ _ _ _ h
  · exact h

/-- bits at p -/
def atBits (xs : List Nat) (p : Nat) (bs : List Bool) : Prop := ∃ t, (bitsB xs).drop p = bs ++ t
theorem atBits.fit {xs : List Nat} {p : Nat} {bs : List Bool} (h : atBits xs p bs) (h0 : 0 < bs.length) : p + bs.length ≤ 8 * xs.length := by
  obtain ⟨t, ht⟩ := h
  have hl : ((bitsB xs).drop p).length = bs.length + t.length := by rw [ht, List.length_append]
  rw [List.length_drop, bitsB_length] at hl
  omega
theorem atBits.fv {xs : List Nat} {p v n : Nat} {r : List Bool} (h : atBits xs p (bitsOf v n ++ r)) (hv : v < 2 ^ n) : fv xs p n = v := by
  obtain ⟨t, ht⟩ := h
  unfold Go.Proofs.Ytllkfmnofklpmaa.fv
  rw [ht, List.append_assoc, List.take_append_of_le_length (by rw [bitsOf_length]; exact Nat.le_refl _), List.take_of_length_le (by rw [bitsOf_length]; exact Nat.le_refl _), val_bitsOf, Nat.mod_eq_of_lt hv]
theorem atBits.next {xs : List Nat} {p v n : Nat} {r : List Bool} (h : atBits xs p (bitsOf v n ++ r)) : atBits xs (p + n) r := by
  obtain ⟨t, ht⟩ := h
  refine ⟨t, ?_⟩
  rw [← List.drop_drop, ht, List.append_assoc, List.drop_left' (bitsOf_length v n)]
/-- what is put is taken -/
theorem rnGo_put (xs : List Nat) (most : Nat) : ∀ (n f p acc : Nat), atBits xs p (rnB n) → acc + n ≤ most → 8 * xs.length < p + 2 * f → rnGo xs most f p acc = (((acc + n : Nat) : Int), 0, p + (rnB n).length) := by
  intro n
  induction n using Nat.strongRecOn with
  | ind n ih =>
    intro f p acc hb hm hf
    have hfit := hb.fit (by rw [rnB_length]; omega)
    rw [rnB_length] at hfit
    obtain ⟨f, rfl⟩ : ∃ f', f = f' + 1 := ⟨f - 1, by omega⟩
    by_cases h3 : n < 3
    · rw [rnB_small h3] at hb ⊢
      have hv := atBits.fv (r := []) (by rw [List.append_nil]; exact hb) (show n < 2 ^ 2 by omega)
      simp only [rnGo]
      rw [if_pos (by omega), hv, if_neg (by omega), if_pos h3, bitsOf_length]
    · obtain ⟨k, rfl⟩ : ∃ k, n = k + 3 := ⟨n - 3, by omega⟩
      have hb' : atBits xs p (bitsOf 3 2 ++ rnB k) := hb
      have hv := hb'.fv (by decide)
      have hn := hb'.next
      have := ih k (by omega) f (p + 2) (acc + 3) hn (by omega) (by omega)
      simp only [rnGo]
      rw [if_pos (by omega), hv, if_neg (by omega), if_neg (by omega), this]
      simp only [rnB, List.length_append, bitsOf_length, Prod.mk.injEq, true_and]
      omega
/-- with less at most it is refused -/
theorem rnGo_less (xs : List Nat) (most : Nat) : ∀ (n f p acc : Nat), atBits xs p (rnB n) → acc ≤ most → most < acc + n → 8 * xs.length < p + 2 * f → (rnGo xs most f p acc).1 = 0 ∧ (rnGo xs most f p acc).2.1 = 13 := by
  intro n
  induction n using Nat.strongRecOn with
  | ind n ih =>
    intro f p acc hb ha hm hf
    have hfit := hb.fit (by rw [rnB_length]; omega)
    rw [rnB_length] at hfit
    obtain ⟨f, rfl⟩ : ∃ f', f = f' + 1 := ⟨f - 1, by omega⟩
    by_cases h3 : n < 3
    · rw [rnB_small h3] at hb
      have hv := atBits.fv (r := []) (by rw [List.append_nil]; exact hb) (show n < 2 ^ 2 by omega)
      simp only [rnGo]
      rw [if_pos (by omega), hv, if_pos (by omega)]
      exact ⟨rfl, rfl⟩
    · obtain ⟨k, rfl⟩ : ∃ k, n = k + 3 := ⟨n - 3, by omega⟩
      have hb' : atBits xs p (bitsOf 3 2 ++ rnB k) := hb
      have hv := hb'.fv (by decide)
      have hn := hb'.next
      simp only [rnGo]
      rw [if_pos (by omega), hv]
      by_cases h4 : most < acc + 3
      · rw [if_pos h4]; exact ⟨rfl, rfl⟩
      · rw [if_neg h4, if_neg (by omega)]
        exact ih k (by omega) f (p + 2) (acc + 3) hn (by omega) (by omega) (by omega)
/-- what is taken, put again, has the same bits -/
theorem rnGo_again (xs : List Nat) (most : Nat) : ∀ (f p acc : Nat), acc ≤ most → (rnGo xs most f p acc).2.1 = 0 →
    ∃ v : Nat, (rnGo xs most f p acc).1 = ((acc + v : Nat) : Int) ∧ acc + v ≤ most ∧ (rnGo xs most f p acc).2.2 ≤ 8 * xs.length ∧ (bitsB xs).take p ++ rnB v = (bitsB xs).take (rnGo xs most f p acc).2.2 := by
  intro f
  induction f with
  | zero => intro p acc ha h; simp [rnGo] at h
  | succ f ih =>
    intro p acc ha h
    simp only [rnGo] at h ⊢
    by_cases h1 : p + 2 ≤ 8 * xs.length
    · rw [if_pos h1] at h ⊢
      by_cases h2 : most < acc + fv xs p 2
      · rw [if_pos h2] at h; simp at h
      · rw [if_neg h2] at h ⊢
        have hlt := fv_lt xs p 2
        have htake : ∀ m, p + m ≤ 8 * xs.length → (bitsB xs).take p ++ bitsOf (fv xs p m) m = (bitsB xs).take (p + m) := fun m hm => by
          have hl : (((bitsB xs).drop p).take m).length = m := by rw [List.length_take, List.length_drop, bitsB_length]; omega
          have hv := bitsOf_val (((bitsB xs).drop p).take m)
          rw [hl] at hv
          unfold fv
          rw [hv, List.take_add]
        by_cases h3 : fv xs p 2 < 3
        · rw [if_pos h3] at h ⊢
          exact ⟨fv xs p 2, rfl, by omega, h1, by rw [rnB_small h3]; exact htake 2 h1⟩
        · rw [if_neg h3] at h ⊢
          have h33 : fv xs p 2 = 3 := by omega
          rw [h33] at h ⊢
          obtain ⟨v, e1, e2, e3, e4⟩ := ih (p + 2) (acc + 3) (by omega) h
          refine ⟨v + 3, by rw [e1]; congr 1; omega, by omega, e3, ?_⟩
          have h2' := htake 2 h1
          rw [h33] at h2'
          rw [← e4, ← h2', List.append_assoc]
          rfl
    · rw [if_neg h1] at h; simp at h
theorem rnGo_err (xs : List Nat) (most : Nat) : ∀ (f p acc : Nat), (rnGo xs most f p acc).2.1 = 0 ∨ ((rnGo xs most f p acc).1 = 0 ∧ ((rnGo xs most f p acc).2.1 = 3 ∨ (rnGo xs most f p acc).2.1 = 13)) := by
  intro f
  induction f with
  | zero => intro p acc; exact .inr ⟨rfl, .inl rfl⟩
  | succ f ih =>
    intro p acc
    simp only [rnGo]
    split
    · split
      · exact .inr ⟨rfl, .inr rfl⟩
      · split
        · exact .inl rfl
        · exact ih _ _
    · exact .inr ⟨rfl, .inl rfl⟩

end Go.Proofs.Ytllkfmnofklpmaa

/- Counts as lists of 256 whole numbers: sums, how many are above 0, of bytes. Plain. -/
namespace Go.Proofs.Ytllkfmnofklpmaa
open Go

def tot : List Int → Int
  | [] => 0
  | x :: r => x + tot r

def pos : List Int → Nat
  | [] => 0
  | x :: r => (if 0 < x then 1 else 0) + pos r

theorem tot_append (a b : List Int) : tot (a ++ b) = tot a + tot b := by
  induction a with
  | nil => simp [tot]
  | cons x r ih => simp only [List.cons_append, tot, ih]; omega

theorem pos_append (a b : List Int) : pos (a ++ b) = pos a + pos b := by
  induction a with
  | nil => simp [pos]
  | cons x r ih => simp only [List.cons_append, pos, ih]; omega

theorem take_snoc (cs : List Int) (k : Nat) (h : k < cs.length) : cs.take (k + 1) = cs.take k ++ [cs.getD k 0] := by
  rw [List.take_succ_eq_append_getElem h, List.getD_eq_getElem?_getD, List.getElem?_eq_getElem h]; rfl

theorem tot_take_succ (cs : List Int) (k : Nat) (h : k < cs.length) : tot (cs.take (k + 1)) = tot (cs.take k) + cs.getD k 0 := by
  rw [take_snoc cs k h, tot_append]; simp [tot]

theorem pos_take_succ (cs : List Int) (k : Nat) (h : k < cs.length) : pos (cs.take (k + 1)) = pos (cs.take k) + if 0 < cs.getD k 0 then 1 else 0 := by
  rw [take_snoc cs k h, pos_append]; simp [pos]

theorem tot_nonneg (cs : List Int) (h : ∀ c ∈ cs, 0 ≤ c) : 0 ≤ tot cs := by
  induction cs with
  | nil => simp [tot]
  | cons x r ih =>
    have := h x (by simp)
    have := ih (fun c hc => h c (by simp [hc]))
    simp only [tot]; omega

theorem tot_take_le (cs : List Int) (k : Nat) (h : ∀ c ∈ cs, 0 ≤ c) : tot (cs.take k) ≤ tot cs := by
  have := tot_append (cs.take k) (cs.drop k)
  rw [List.take_append_drop] at this
  have := tot_nonneg (cs.drop k) (fun c hc => h c (List.mem_of_mem_drop hc))
  omega

theorem pos_le (cs : List Int) : pos cs ≤ cs.length := by
  induction cs with
  | nil => simp [pos]
  | cons x r ih => simp only [pos, List.length_cons]; split <;> omega

/-- counts that are right -/
def isRight (cs : List Int) : Prop := cs.length = 256 ∧ (∀ c ∈ cs, 0 ≤ c) ∧ tot cs ≤ 1073741824
instance isRight_dec (cs : List Int) : Decidable (isRight cs) := by unfold isRight; infer_instance

def manyI (cs : List Int) : Nat := if isRight cs then pos cs else 0
def totalI (cs : List Int) : Int := if isRight cs then tot cs else 0

theorem manyI_le (cs : List Int) : manyI cs ≤ 256 := by
  unfold manyI
  split
  · next h => have := pos_le cs; have := h.1; omega
  · omega

theorem totalI_le (cs : List Int) : 0 ≤ totalI cs ∧ totalI cs ≤ 1073741824 := by
  unfold totalI
  split
  · next h => exact ⟨tot_nonneg _ h.2.1, h.2.2⟩
  · omega

theorem getD_mem {cs : List Int} {k : Nat} (h : k < cs.length) : cs.getD k 0 ∈ cs := by
  rw [List.getD_eq_getElem?_getD, List.getElem?_eq_getElem h]; exact List.getElem_mem h

theorem isRight.at {cs : List Int} (h : isRight cs) (k : Nat) (hk : k < cs.length) : 0 ≤ cs.getD k 0 ∧ tot (cs.take k) + cs.getD k 0 ≤ 1073741824 := by
  refine ⟨h.2.1 _ (getD_mem hk), ?_⟩
  rw [← tot_take_succ cs k hk]
  exact Int.le_trans (tot_take_le cs (k + 1) h.2.1) h.2.2

theorem isRight.one {cs : List Int} (h : isRight cs) (k : Nat) (hk : k < cs.length) : 0 ≤ cs.getD k 0 ∧ cs.getD k 0 ≤ 1073741824 := by
  have h1 := h.at k hk
  have := tot_nonneg (cs.take k) (fun c hc => h.2.1 c (List.mem_of_mem_take hc))
  omega

/-- the first k are no less than 0 -/
def upTo (cs : List Int) (k : Nat) : Prop := ∀ j, j < k → 0 ≤ cs.getD j 0
theorem upTo_zero (cs : List Int) : upTo cs 0 := fun j hj => by omega
theorem upTo_succ {cs : List Int} {k : Nat} (h : upTo cs k) (h1 : 0 ≤ cs.getD k 0) : upTo cs (k + 1) := fun j hj => by
  by_cases he : j = k
  · rw [he]; exact h1
  · exact h j (by omega)
theorem upTo_all {cs : List Int} {n : Nat} (hn : cs.length = n) (h : upTo cs n) : ∀ c ∈ cs, 0 ≤ c := by
  intro c hc
  obtain ⟨j, hj, rfl⟩ := List.mem_iff_getElem.1 hc
  have := h j (by omega)
  rwa [List.getD_eq_getElem?_getD, List.getElem?_eq_getElem hj] at this
theorem upTo_take {cs : List Int} {k : Nat} (h : upTo cs k) : 0 ≤ tot (cs.take k) := by
  refine tot_nonneg _ fun c hc => ?_
  obtain ⟨j, hj, rfl⟩ := List.mem_iff_getElem.1 hc
  have hl : j < k ∧ j < cs.length := by rw [List.length_take] at hj; omega
  have := h j hl.1
  rw [List.getD_eq_getElem?_getD, List.getElem?_eq_getElem hl.2] at this
  rw [List.getElem_take]; exact this

/-- added one by one -/
def addL (a b : List Int) : List Int := List.zipWith (· + ·) a b

theorem addL_length (a b : List Int) (h : a.length = b.length) : (addL a b).length = a.length := by simp [addL, h]
theorem addL_getD (a b : List Int) (k : Nat) (ha : k < a.length) (hb : k < b.length) : (addL a b).getD k 0 = a.getD k 0 + b.getD k 0 := by
  simp [addL, List.getD_eq_getElem?_getD, List.getElem?_zipWith, List.getElem?_eq_getElem ha, List.getElem?_eq_getElem hb]

theorem tot_addL : ∀ (a b : List Int), a.length = b.length → tot (addL a b) = tot a + tot b
  | [], [], _ => by simp [addL, tot]
  | [], _ :: _, h => by simp at h
  | _ :: _, [], h => by simp at h
  | x :: a, y :: b, h => by
    have ih := tot_addL a b (by simpa using h)
    simp only [addL, List.zipWith_cons_cons, tot] at ih ⊢
    omega

theorem pos_addL : ∀ (a b : List Int), a.length = b.length → (∀ c ∈ a, 0 ≤ c) → (∀ c ∈ b, 0 ≤ c) → pos a ≤ pos (addL a b) ∧ pos b ≤ pos (addL a b) ∧ pos (addL a b) ≤ pos a + pos b
  | [], [], _, _, _ => by simp [addL, pos]
  | [], _ :: _, h, _, _ => by simp at h
  | _ :: _, [], h, _, _ => by simp at h
  | x :: a, y :: b, h, ha, hb => by
    have ih := pos_addL a b (by simpa using h) (fun c hc => ha c (by simp [hc])) (fun c hc => hb c (by simp [hc]))
    have hx := ha x (by simp); have hy := hb y (by simp)
    simp only [addL, List.zipWith_cons_cons, pos] at ih ⊢
    by_cases h1 : 0 < x <;> by_cases h2 : 0 < y <;> by_cases h3 : 0 < x + y <;> simp only [h1, h2, h3, if_true, if_false] <;> omega

theorem addL_nonneg : ∀ (a b : List Int), (∀ c ∈ a, 0 ≤ c) → (∀ c ∈ b, 0 ≤ c) → ∀ c ∈ addL a b, 0 ≤ c
  | [], _, _, _, c, hc => by simp [addL] at hc
  | _ :: _, [], _, _, c, hc => by simp [addL] at hc
  | x :: a, y :: b, ha, hb, c, hc => by
    simp only [addL, List.zipWith_cons_cons, List.mem_cons] at hc
    rcases hc with rfl | hc
    · have := ha x (by simp); have := hb y (by simp); omega
    · exact addL_nonneg a b (fun c hc => ha c (by simp [hc])) (fun c hc => hb c (by simp [hc])) c hc

theorem right_addL {a b : List Int} (ha : isRight a) (hb : isRight b) : isRight (addL a b) ↔ tot a + tot b ≤ 1073741824 := by
  have hl : a.length = b.length := ha.1.trans hb.1.symm
  unfold isRight
  rw [addL_length a b hl, tot_addL a b hl]
  exact ⟨fun h => h.2.2, fun h => ⟨ha.1, addL_nonneg a b ha.2.1 hb.2.1, h⟩⟩

/-- whether two can be added -/
def addOk (a b : List Int) : Prop := isRight a ∧ isRight b ∧ isRight (addL a b)
instance addOk_dec (a b : List Int) : Decidable (addOk a b) := by unfold addOk; infer_instance

theorem adds_not {a b : List Int} (h : ¬ addOk a b) : ¬ (isRight a ∧ isRight b ∧ totalI a ≤ 1073741824 - totalI b) := by
  rintro ⟨ha, hb, ht⟩
  apply h
  refine ⟨ha, hb, (right_addL ha hb).2 ?_⟩
  unfold totalI at ht
  rw [if_pos ha, if_pos hb] at ht
  omega

theorem adds_yes {a b : List Int} (h : addOk a b) : totalI (addL a b) = totalI a + totalI b ∧ manyI a ≤ manyI (addL a b) ∧ manyI b ≤ manyI (addL a b) ∧ manyI (addL a b) ≤ manyI a + manyI b := by
  obtain ⟨ha, hb, hs⟩ := h
  have hl : a.length = b.length := ha.1.trans hb.1.symm
  unfold totalI manyI
  rw [if_pos ha, if_pos hb, if_pos hs, if_pos ha, if_pos hb, if_pos hs]
  exact ⟨tot_addL a b hl, pos_addL a b hl ha.2.1 hb.2.1⟩

/-- how often each byte comes -/
def cnt (xs : List Nat) : List Int := (List.range 256).map fun v => ((xs.count v : Nat) : Int)

theorem cnt_length (xs : List Nat) : (cnt xs).length = 256 := by simp [cnt]
theorem cnt_getD (xs : List Nat) (v : Nat) (h : v < 256) : (cnt xs).getD v 0 = ((xs.count v : Nat) : Int) := by simp [cnt, List.getD_eq_getElem?_getD, h]
theorem cnt_nonneg (xs : List Nat) : ∀ c ∈ cnt xs, 0 ≤ c := by
  intro c hc
  simp only [cnt, List.mem_map] at hc
  obtain ⟨v, _, rfl⟩ := hc
  omega

theorem ext_getD {a b : List Int} (hl : a.length = b.length) (h : ∀ k, k < a.length → a.getD k 0 = b.getD k 0) : a = b := by
  apply List.ext_getElem hl
  intro i h1 h2
  have := h i h1
  rwa [List.getD_eq_getElem?_getD, List.getD_eq_getElem?_getD, List.getElem?_eq_getElem h1, List.getElem?_eq_getElem h2] at this

theorem cnt_append (xs ys : List Nat) : cnt (xs ++ ys) = addL (cnt xs) (cnt ys) := by
  apply ext_getD
  · rw [addL_length _ _ (by rw [cnt_length, cnt_length]), cnt_length, cnt_length]
  · intro k hk
    rw [cnt_length] at hk
    rw [addL_getD _ _ k (by rw [cnt_length]; exact hk) (by rw [cnt_length]; exact hk), cnt_getD _ k hk, cnt_getD _ k hk, cnt_getD _ k hk, List.count_append]
    omega

theorem addL_comm (a b : List Int) : addL a b = addL b a := by
  unfold addL
  rw [List.zipWith_comm]
  congr 1
  funext x y
  omega

theorem cnt_snoc (xs : List Nat) (v : Nat) (hv : v < 256) : cnt (xs ++ [v]) = (cnt xs).set v ((cnt xs).getD v 0 + 1) := by
  apply ext_getD
  · rw [List.length_set, cnt_length, cnt_length]
  · intro k hk
    rw [cnt_length] at hk
    rw [cnt_getD _ k hk, cnt_getD _ v hv, List.count_append]
    by_cases h : v = k
    · subst h
      simp [List.getD_eq_getElem?_getD, cnt_length, hk]
    · rw [List.getD_eq_getElem?_getD, List.getElem?_set_ne h, ← List.getD_eq_getElem?_getD, cnt_getD _ k hk]
      have : List.count k [v] = 0 := by rw [List.count_eq_zero]; simp; omega
      rw [this]; simp

theorem tot_set (l : List Int) (i : Nat) (y : Int) (h : i < l.length) : tot (l.set i y) + l.getD i 0 = tot l + y := by
  induction l generalizing i with
  | nil => simp at h
  | cons x r ih =>
    cases i with
    | zero => simp [tot]; omega
    | succ i =>
      have := ih i (by simpa using h)
      simp only [List.set_cons_succ, tot, List.getD_cons_succ] at this ⊢
      omega

theorem pos_set (l : List Int) (i : Nat) (y : Int) (h : i < l.length) : pos (l.set i y) + (if 0 < l.getD i 0 then 1 else 0) = pos l + if 0 < y then 1 else 0 := by
  induction l generalizing i with
  | nil => simp at h
  | cons x r ih =>
    cases i with
    | zero => simp [pos]; omega
    | succ i =>
      have := ih i (by simpa using h)
      simp only [List.set_cons_succ, pos, List.getD_cons_succ] at this ⊢
      omega

theorem tot_zeros (n : Nat) : tot (List.replicate n 0) = 0 := by
  induction n with
  | zero => rfl
  | succ n ih => simp only [List.replicate_succ, tot, ih]; rfl

theorem count_none (n : Nat) : ((List.range n).map fun v => ((([] : List Nat).count v : Nat) : Int)) = List.replicate n 0 := by
  apply List.ext_getElem (by simp)
  intro i h1 h2
  simp
theorem cnt_nil : cnt [] = List.replicate 256 0 := count_none 256

theorem snoc_ind {P : List Nat → Prop} (h0 : P []) (h1 : ∀ xs x, P xs → P (xs ++ [x])) (xs : List Nat) : P xs := by
  rw [← List.reverse_reverse xs]
  induction xs.reverse with
  | nil => simpa using h0
  | cons x r ih => rw [List.reverse_cons]; exact h1 _ _ ih

theorem tot_cnt (xs : List Nat) : (∀ x ∈ xs, x < 256) → tot (cnt xs) = (xs.length : Int) := by
  refine snoc_ind (P := fun xs => (∀ x ∈ xs, x < 256) → tot (cnt xs) = (xs.length : Int)) ?_ ?_ xs
  · intro _
    rw [cnt_nil, tot_zeros]; rfl
  · intro xs x ih hx
    have hx0 : x < 256 := hx x (by simp)
    have := ih (fun y hy => hx y (by simp [hy]))
    have hs := tot_set (cnt xs) x ((cnt xs).getD x 0 + 1) (by rw [cnt_length]; exact hx0)
    rw [cnt_snoc xs x hx0]
    simp only [List.length_append, List.length_cons, List.length_nil]
    omega

theorem cnt_right (xs : List Nat) (hx : ∀ x ∈ xs, x < 256) (hl : xs.length ≤ 1073741824) : isRight (cnt xs) :=
  ⟨cnt_length xs, cnt_nonneg xs, by rw [tot_cnt xs hx]; omega⟩

theorem total_cnt (xs : List Nat) (hx : ∀ x ∈ xs, x < 256) (hl : xs.length ≤ 1073741824) : totalI (cnt xs) = (xs.length : Int) := by
  unfold totalI; rw [if_pos (cnt_right xs hx hl), tot_cnt xs hx]

theorem addOk_cnt (xs ys : List Nat) (hx : ∀ x ∈ xs, x < 256) (hy : ∀ x ∈ ys, x < 256) (hl : xs.length + ys.length ≤ 1073741824) : addOk (cnt xs) (cnt ys) := by
  refine ⟨cnt_right xs hx (by omega), cnt_right ys hy (by omega), ?_⟩
  rw [← cnt_append]
  refine cnt_right _ (fun x h => ?_) (by rw [List.length_append]; omega)
  rcases List.mem_append.1 h with h | h
  · exact hx x h
  · exact hy x h

theorem many_snoc (xs : List Nat) (v : Nat) (hx : ∀ x ∈ xs, x < 256) (hv : v < 256) (hl : xs.length < 1073741824) :
    manyI (cnt (xs ++ [v])) = if (cnt xs).getD v 0 = 0 then manyI (cnt xs) + 1 else manyI (cnt xs) := by
  have h1 := cnt_right xs hx (by omega)
  have h2 := cnt_right (xs ++ [v]) (fun x h => by
    rcases List.mem_append.1 h with h | h
    · exact hx x h
    · simp at h; omega) (by simp; omega)
  unfold manyI
  rw [if_pos h1, if_pos h2, cnt_snoc xs v hv]
  have hs := pos_set (cnt xs) v ((cnt xs).getD v 0 + 1) (by rw [cnt_length]; exact hv)
  have hn := cnt_nonneg xs _ (getD_mem (cs := cnt xs) (k := v) (by rw [cnt_length]; exact hv))
  rw [if_pos (show 0 < (cnt xs).getD v 0 + 1 by omega)] at hs
  by_cases h0 : (cnt xs).getD v 0 = 0
  · rw [if_pos h0]
    rw [if_neg (show ¬ 0 < (cnt xs).getD v 0 by omega)] at hs
    omega
  · rw [if_neg h0]
    rw [if_pos (show 0 < (cnt xs).getD v 0 by omega)] at hs
    omega

end Go.Proofs.Ytllkfmnofklpmaa

/- Plain mathematics of chapter 10: keys in their order, and where each stands. -/
namespace Go.Proofs.Ytllkfmnofklpmaa
open Go

def sumTo (g : Nat → Nat) : Nat → Nat
  | 0 => 0
  | n + 1 => sumTo g n + g n
def countTo (p : Nat → Bool) : Nat → Nat
  | 0 => 0
  | n + 1 => countTo p n + if p n then 1 else 0

theorem sumTo_le {g h : Nat → Nat} : ∀ n, (∀ a, a < n → g a ≤ h a) → sumTo g n ≤ sumTo h n
  | 0, _ => Nat.le_refl _
  | n + 1, H => by
    have h1 := sumTo_le n fun a ha => H a (by omega)
    have h2 := H n (by omega)
    simp only [sumTo]; omega
theorem sumTo_lt {g h : Nat → Nat} : ∀ n, (∀ a, a < n → g a ≤ h a) → ∀ b, b < n → g b < h b → sumTo g n < sumTo h n
  | 0, _, b, hb, _ => by omega
  | n + 1, H, b, hb, hlt => by
    have h2 := H n (by omega)
    simp only [sumTo]
    by_cases e : b = n
    · subst e
      have h1 := sumTo_le b fun a ha => H a (by omega)
      omega
    · have h1 := sumTo_lt n (fun a ha => H a (by omega)) b (by omega) hlt
      omega
theorem sumTo_congr {g h : Nat → Nat} (n : Nat) (H : ∀ a, a < n → g a = h a) : sumTo g n = sumTo h n :=
  Nat.le_antisymm (sumTo_le n fun a ha => Nat.le_of_eq (H a ha)) (sumTo_le n fun a ha => Nat.le_of_eq (H a ha).symm)
theorem sumTo_zero (n : Nat) : sumTo (fun _ => 0) n = 0 := by
  induction n with
  | zero => rfl
  | succ n ih => simp only [sumTo, ih]
theorem sumTo_add (g h : Nat → Nat) (n : Nat) : sumTo (fun a => g a + h a) n = sumTo g n + sumTo h n := by
  induction n with
  | zero => rfl
  | succ n ih => simp only [sumTo, ih]; omega
theorem sumTo_mul (g : Nat → Nat) (c n : Nat) : sumTo (fun a => g a * c) n = sumTo g n * c := by
  induction n with
  | zero => simp [sumTo]
  | succ n ih => simp only [sumTo, ih, Nat.add_mul]
theorem sumTo_one {g : Nat → Nat} : ∀ n, (∀ a, a < n → g a ≤ 1) → (∀ a b, a < n → b < n → 0 < g a → 0 < g b → a = b) → sumTo g n ≤ 1
  | 0, _, _ => by simp [sumTo]
  | n + 1, h1, h2 => by
    have hn := h1 n (by omega)
    simp only [sumTo]
    by_cases e : g n = 0
    · have := sumTo_one n (fun a ha => h1 a (by omega)) (fun a b ha hb => h2 a b (by omega) (by omega))
      omega
    · have : sumTo g n = sumTo (fun _ => 0) n := sumTo_congr n fun a ha => by
        by_cases hz : g a = 0
        · exact hz
        · have := h2 a n (by omega) (by omega) (by omega) (by omega); omega
      rw [this, sumTo_zero]; omega
theorem sumTo_pos {g : Nat → Nat} : ∀ n, 0 < sumTo g n → ∃ a, a < n ∧ 0 < g a
  | 0, h => by simp [sumTo] at h
  | n + 1, h => by
    simp only [sumTo] at h
    by_cases e : 0 < g n
    · exact ⟨n, by omega, e⟩
    · obtain ⟨a, ha, hg⟩ := sumTo_pos (g := g) n (by omega)
      exact ⟨a, by omega, hg⟩
theorem sumTo_at (g : Nat → Nat) : ∀ n a, a < n → g a ≤ sumTo g n
  | 0, a, h => by omega
  | n + 1, a, h => by
    simp only [sumTo]
    by_cases e : a = n
    · subst e; omega
    · have := sumTo_at g n a (by omega); omega

theorem countTo_le (p : Nat → Bool) : ∀ n, countTo p n ≤ n
  | 0 => Nat.le_refl _
  | n + 1 => by
    have := countTo_le p n
    simp only [countTo]; split <;> omega
theorem countTo_mono {p r : Nat → Bool} : ∀ n, (∀ a, a < n → p a = true → r a = true) → countTo p n ≤ countTo r n
  | 0, _ => Nat.le_refl _
  | n + 1, H => by
    have h1 := countTo_mono n fun a ha => H a (by omega)
    have h2 := H n (by omega)
    simp only [countTo]
    by_cases e : p n = true
    · rw [if_pos e, if_pos (h2 e)]; omega
    · rw [if_neg e]; split <;> omega
theorem countTo_mono_lt {p r : Nat → Bool} : ∀ n, (∀ a, a < n → p a = true → r a = true) → ∀ b, b < n → p b = false → r b = true → countTo p n < countTo r n
  | 0, _, b, hb, _, _ => by omega
  | n + 1, H, b, hb, e1, e2 => by
    have h2 := H n (by omega)
    simp only [countTo]
    by_cases e : b = n
    · subst e
      have h1 := countTo_mono b fun a ha => H a (by omega)
      rw [if_neg (by simp [e1]), if_pos e2]; omega
    · have h1 := countTo_mono_lt n (fun a ha => H a (by omega)) b (by omega) e1 e2
      by_cases ee : p n = true
      · rw [if_pos ee, if_pos (h2 ee)]; omega
      · rw [if_neg ee]; split <;> omega
theorem countTo_congr {p r : Nat → Bool} (n : Nat) (H : ∀ a, a < n → p a = r a) : countTo p n = countTo r n :=
  Nat.le_antisymm (countTo_mono n fun a ha h => by rw [← H a ha]; exact h) (countTo_mono n fun a ha h => by rw [H a ha]; exact h)
theorem countTo_none (p : Nat → Bool) (n : Nat) (H : ∀ a, a < n → p a = false) : countTo p n = 0 := by
  induction n with
  | zero => rfl
  | succ n ih => simp only [countTo]; rw [ih fun a ha => H a (by omega), if_neg (by simp [H n (by omega)])]
theorem countTo_all (p : Nat → Bool) (n : Nat) (H : ∀ a, a < n → p a = true) : countTo p n = n := by
  induction n with
  | zero => rfl
  | succ n ih => simp only [countTo]; rw [ih fun a ha => H a (by omega), if_pos (H n (by omega))]
theorem countTo_one {p : Nat → Bool} : ∀ n, (∀ a b, a < n → b < n → p a = true → p b = true → a = b) → countTo p n ≤ 1
  | 0, _ => by simp [countTo]
  | n + 1, h2 => by
    simp only [countTo]
    by_cases e : p n = true
    · rw [countTo_none p n fun a ha => by
        by_cases hz : p a = true
        · have := h2 a n (by omega) (by omega) hz e; omega
        · simpa using hz]
      rw [if_pos e]; omega
    · have := countTo_one n (fun a b ha hb => h2 a b (by omega) (by omega))
      rw [if_neg e]; omega
theorem countTo_pos {p : Nat → Bool} : ∀ n, 0 < countTo p n → ∃ a, a < n ∧ p a = true
  | 0, h => by simp [countTo] at h
  | n + 1, h => by
    simp only [countTo] at h
    by_cases e : p n = true
    · exact ⟨n, by omega, e⟩
    · rw [if_neg e] at h
      obtain ⟨a, ha, hg⟩ := countTo_pos n (by omega)
      exact ⟨a, by omega, hg⟩
theorem countTo_some {p : Nat → Bool} {n a : Nat} (ha : a < n) (h : p a = true) : 0 < countTo p n := by
  have := countTo_mono_lt (p := fun _ => false) (r := p) n (fun _ _ h => by simp at h) a ha rfl h
  omega
/-- how far a property reaches that falls -/
theorem countTo_thresh {p : Nat → Bool} (hp : ∀ d, p (d + 1) = true → p d = true) : ∀ n, (∀ d, d < countTo p n → p d = true) ∧ (countTo p n < n → p (countTo p n) = false)
  | 0 => ⟨fun d hd => by simp [countTo] at hd, fun h => by simp [countTo] at h⟩
  | n + 1 => by
    obtain ⟨h1, h2⟩ := countTo_thresh hp n
    have hle := countTo_le p n
    by_cases e : p n = true
    · have hc : countTo p n = n := by
        by_cases hlt : countTo p n < n
        · have hf := h2 hlt
          have : ∀ k, p (countTo p n + k) = true → p (countTo p n) = true := by
            intro k
            induction k with
            | zero => exact fun h => h
            | succ k ih => exact fun h => ih (hp _ h)
          rw [this (n - countTo p n) (by rw [show countTo p n + (n - countTo p n) = n by omega]; exact e)] at hf
          cases hf
        · omega
      have hs : countTo p (n + 1) = n + 1 := by simp only [countTo]; rw [hc, if_pos e]
      rw [hs]
      refine ⟨fun d hd => ?_, fun h => by omega⟩
      by_cases hd2 : d = n
      · subst hd2; exact e
      · exact h1 d (by omega)
    · have hs : countTo p (n + 1) = countTo p n := by simp only [countTo]; rw [if_neg e]; rfl
      rw [hs]
      refine ⟨h1, fun _ => ?_⟩
      by_cases hlt : countTo p n < n
      · exact h2 hlt
      · rw [show countTo p n = n by omega]; simpa using e
/-- a property of the first c alone -/
theorem countTo_first {p : Nat → Bool} {n c : Nat} (hc : c ≤ n) (H : ∀ d, d < n → (p d = true ↔ d < c)) : countTo p n = c := by
  induction n generalizing c with
  | zero => simp [countTo]; omega
  | succ n ih =>
    simp only [countTo]
    by_cases e : n < c
    · rw [if_pos ((H n (by omega)).2 e), countTo_all p n fun a ha => (H a (by omega)).2 (by omega)]; omega
    · rw [if_neg (fun h => e ((H n (by omega)).1 h)), ih (by omega) fun d hd => H d (by omega)]; omega

/-- the key of t and j stands ahead of that of s and i -/
def kless (f : Nat → Nat) (t j s i : Nat) : Prop := j * f s < i * f t ∨ (j * f s = i * f t ∧ t < s)
instance (f : Nat → Nat) (t j s i : Nat) : Decidable (kless f t j s i) := by unfold kless; infer_instance
def lessF (f : Nat → Nat) (t s i : Nat) : Nat := countTo (fun d => decide (kless f t (f t + d) s i)) (f t)
def placeF (f : Nat → Nat) (N s i : Nat) : Nat := sumTo (fun t => lessF f t s i) N

theorem kless_trans {f : Nat → Nat} {a i b j c k : Nat} (ha : 0 < f a) (hb : 0 < f b) (hc : 0 < f c) (h1 : kless f a i b j) (h2 : kless f b j c k) : kless f a i c k := by
  unfold kless at *
  have e1 : i * f b * f c ≤ j * f a * f c ∧ (i * f b < j * f a → i * f b * f c < j * f a * f c) := ⟨Nat.mul_le_mul_right _ (by rcases h1 with h | h <;> omega), fun h => Nat.mul_lt_mul_of_pos_right h hc⟩
  have e2 : j * f c * f a ≤ k * f b * f a ∧ (j * f c < k * f b → j * f c * f a < k * f b * f a) := ⟨Nat.mul_le_mul_right _ (by rcases h2 with h | h <;> omega), fun h => Nat.mul_lt_mul_of_pos_right h ha⟩
  have r1 : i * f b * f c = i * f c * f b := Nat.mul_right_comm _ _ _
  have r2 : j * f a * f c = j * f c * f a := Nat.mul_right_comm _ _ _
  have r3 : k * f b * f a = k * f a * f b := Nat.mul_right_comm _ _ _
  have back : ∀ {x y : Nat}, x * f b < y * f b → x < y := fun h => Nat.lt_of_mul_lt_mul_right h
  have back2 : ∀ {x y : Nat}, x * f b ≤ y * f b → x ≤ y := fun h => Nat.le_of_mul_le_mul_right h hb
  have hle : i * f c ≤ k * f a := back2 (by omega)
  rcases h1 with h1 | ⟨h1, t1⟩
  · left; exact back (by have := e1.2 h1; omega)
  · rcases h2 with h2 | ⟨h2, t2⟩
    · left; exact back (by have := e2.2 h2; omega)
    · right
      refine ⟨?_, by omega⟩
      have : i * f c * f b = k * f a * f b := by rw [← r1, h1, r2, h2, r3]
      exact Nat.eq_of_mul_eq_mul_right hb this
theorem kless_irr {f : Nat → Nat} {a i : Nat} : ¬ kless f a i a i := by unfold kless; omega
theorem kless_total {f : Nat → Nat} {a i b j : Nat} (ha : 0 < f a) (h : ¬ (a = b ∧ i = j)) : kless f a i b j ∨ kless f b j a i := by
  unfold kless
  by_cases e : i * f b = j * f a
  · by_cases s : a = b
    · subst s
      exact absurd ⟨rfl, Nat.eq_of_mul_eq_mul_right ha e⟩ h
    · omega
  · omega
theorem kless_same {f : Nat → Nat} {a i j : Nat} (ha : 0 < f a) : kless f a i a j ↔ i < j := by
  unfold kless
  constructor
  · rintro (h | ⟨_, h⟩)
    · exact Nat.lt_of_mul_lt_mul_right h
    · omega
  · exact fun h => Or.inl (Nat.mul_lt_mul_of_pos_right h ha)

theorem lessF_le (f : Nat → Nat) (t s i : Nat) : lessF f t s i ≤ f t := countTo_le _ _
theorem lessF_self {f : Nat → Nat} {s d : Nat} (hd : d < f s) : lessF f s s (f s + d) = d := by
  unfold lessF
  refine countTo_first (by omega) fun a ha => ?_
  rw [decide_eq_true_eq, kless_same (by omega)]; omega

/-- who stands ahead has a lesser place -/
theorem place_lt {f : Nat → Nat} {N s d t e : Nat} (hs : s < N) (hd : d < f s) (he : e < f t) (h : kless f s (f s + d) t (f t + e)) : placeF f N s (f s + d) < placeF f N t (f t + e) := by
  unfold placeF
  refine sumTo_lt N (fun a _ => ?_) s hs ?_
  · unfold lessF
    refine countTo_mono _ fun b hb hk => ?_
    rw [decide_eq_true_eq] at hk ⊢
    exact kless_trans (by omega) (by omega) (by omega) hk h
  · unfold lessF
    refine countTo_mono_lt _ (fun b hb hk => ?_) d hd ?_ ?_
    · rw [decide_eq_true_eq] at hk ⊢
      exact kless_trans (by omega) (by omega) (by omega) hk h
    · exact decide_eq_false kless_irr
    · exact decide_eq_true h
theorem place_inj {f : Nat → Nat} {N s d t e : Nat} (hs : s < N) (ht : t < N) (hd : d < f s) (he : e < f t) (h : placeF f N s (f s + d) = placeF f N t (f t + e)) : s = t ∧ d = e := by
  by_cases hk : s = t ∧ f s + d = f t + e
  · obtain ⟨rfl, h2⟩ := hk; exact ⟨rfl, by omega⟩
  · rcases kless_total (f := f) (by omega) hk with h1 | h1
    · have := place_lt hs hd he h1; omega
    · have := place_lt ht he hd h1; omega
theorem place_rise {f : Nat → Nat} {N s d e : Nat} (hs : s < N) (he : e < f s) (h : d < e) : placeF f N s (f s + d) < placeF f N s (f s + e) :=
  place_lt hs (by omega) he ((kless_same (by omega)).2 (by omega))
theorem place_room {f : Nat → Nat} {N s d : Nat} (hs : s < N) (hd : d < f s) : placeF f N s (f s + d) < sumTo f N := by
  unfold placeF
  refine sumTo_lt N (fun a _ => lessF_le f a s _) s hs ?_
  rw [lessF_self hd]; exact hd

/-- how many keys have a place below p -/
def keysTo (f : Nat → Nat) (N p : Nat) : Nat := sumTo (fun s => countTo (fun d => decide (placeF f N s (f s + d) < p)) (f s)) N
theorem countTo_parts (g : Nat → Nat) (p : Nat) : ∀ n, countTo (fun d => decide (g d < p + 1)) n = countTo (fun d => decide (g d < p)) n + countTo (fun d => decide (g d = p)) n
  | 0 => rfl
  | n + 1 => by
    simp only [countTo]
    rw [countTo_parts g p n]
    by_cases h1 : g n < p
    · rw [if_pos (decide_eq_true (by omega)), if_pos (decide_eq_true h1), if_neg (by simp; omega)]; omega
    · by_cases h2 : g n = p
      · rw [if_pos (decide_eq_true (by omega)), if_neg (by simp; omega), if_pos (decide_eq_true h2)]; omega
      · rw [if_neg (by simp; omega), if_neg (by simp; omega), if_neg (by simp; omega)]; omega
theorem keysTo_succ (f : Nat → Nat) (N p : Nat) : keysTo f N (p + 1) = keysTo f N p + sumTo (fun s => countTo (fun d => decide (placeF f N s (f s + d) = p)) (f s)) N := by
  unfold keysTo
  rw [← sumTo_add]
  exact sumTo_congr N fun s _ => countTo_parts (fun d => placeF f N s (f s + d)) p (f s)
theorem at_one (f : Nat → Nat) (N p : Nat) : sumTo (fun s => countTo (fun d => decide (placeF f N s (f s + d) = p)) (f s)) N ≤ 1 := by
  refine sumTo_one N (fun s hs => countTo_one _ fun a b ha hb h1 h2 => ?_) fun s t hs ht h1 h2 => ?_
  · rw [decide_eq_true_eq] at h1 h2
    exact (place_inj hs hs ha hb (h1.trans h2.symm)).2
  · obtain ⟨a, ha, h1⟩ := countTo_pos _ h1
    obtain ⟨b, hb, h2⟩ := countTo_pos _ h2
    rw [decide_eq_true_eq] at h1 h2
    exact (place_inj hs ht ha hb (h1.trans h2.symm)).1
theorem keysTo_zero (f : Nat → Nat) (N : Nat) : keysTo f N 0 = 0 := by
  unfold keysTo
  rw [sumTo_congr N (h := fun _ => 0) fun s _ => countTo_none _ _ fun a _ => by simp, sumTo_zero]
theorem keysTo_all (f : Nat → Nat) (N : Nat) : keysTo f N (sumTo f N) = sumTo f N := by
  unfold keysTo
  exact sumTo_congr N fun s hs => countTo_all _ _ fun a ha => decide_eq_true (place_room hs ha)
theorem keysTo_le (f : Nat → Nat) (N p : Nat) : keysTo f N p ≤ p := by
  induction p with
  | zero => rw [keysTo_zero]; exact Nat.le_refl _
  | succ p ih => rw [keysTo_succ]; have := at_one f N p; omega
theorem keysTo_far (f : Nat → Nat) (N p k : Nat) : keysTo f N (p + k) ≤ keysTo f N p + k := by
  induction k with
  | zero => exact Nat.le_refl _
  | succ k ih => rw [show p + (k + 1) = p + k + 1 by omega, keysTo_succ]; have := at_one f N (p + k); omega
/-- each place is a key's -/
theorem place_onto {f : Nat → Nat} {N p : Nat} (hp : p < sumTo f N) : ∃ s d, s < N ∧ d < f s ∧ placeF f N s (f s + d) = p := by
  have h1 := keysTo_far f N (p + 1) (sumTo f N - (p + 1))
  rw [show p + 1 + (sumTo f N - (p + 1)) = sumTo f N by omega, keysTo_all] at h1
  have h2 := keysTo_le f N p
  have h3 := keysTo_succ f N p
  obtain ⟨s, hs, hc⟩ := sumTo_pos (g := fun s => countTo (fun d => decide (placeF f N s (f s + d) = p)) (f s)) N (by omega)
  obtain ⟨d, hd, he⟩ := countTo_pos _ hc
  exact ⟨s, d, hs, hd, of_decide_eq_true he⟩

/-- a list that has each key's symbol at its place -/
structure IsSpread (f : Nat → Nat) (N : Nat) (l : List Nat) : Prop where
  len : l.length = sumTo f N
  at' : ∀ s d, s < N → d < f s → l.getD (placeF f N s (f s + d)) 0 = s
theorem IsSpread.one {f : Nat → Nat} {N : Nat} {l m : List Nat} (h : IsSpread f N l) (g : IsSpread f N m) : l = m := by
  refine List.ext_getElem (by rw [h.len, g.len]) fun p h1 h2 => ?_
  obtain ⟨s, d, hs, hd, rfl⟩ := place_onto (f := f) (N := N) (p := p) (by rw [← h.len]; exact h1)
  have e1 := h.at' s d hs hd
  have e2 := g.at' s d hs hd
  rw [List.getD_eq_getElem?_getD, List.getElem?_eq_getElem h1] at e1
  rw [List.getD_eq_getElem?_getD, List.getElem?_eq_getElem h2] at e2
  simp only [Option.getD_some] at e1 e2
  rw [e1, e2]
theorem IsSpread.is {f : Nat → Nat} {N : Nat} {l : List Nat} (h : IsSpread f N l) {p s : Nat} (hp : p < l.length) (e : l.getD p 0 = s) : s < N ∧ ∃ d, d < f s ∧ placeF f N s (f s + d) = p := by
  obtain ⟨t, d, ht, hd, rfl⟩ := place_onto (f := f) (N := N) (p := p) (by rw [← h.len]; exact hp)
  rw [h.at' t d ht hd] at e
  subst e
  exact ⟨ht, d, hd, rfl⟩
/-- the d-th place of s has d of them ahead -/
theorem IsSpread.count {f : Nat → Nat} {N : Nat} {l : List Nat} (h : IsSpread f N l) {s : Nat} (hs : s < N) (p : Nat) (hp : p ≤ l.length) : countTo (fun a => decide (l.getD a 0 = s)) p = countTo (fun d => decide (placeF f N s (f s + d) < p)) (f s) := by
  induction p with
  | zero => rw [countTo_none (fun d => decide (placeF f N s (f s + d) < 0)) _ fun a _ => by simp]; rfl
  | succ p ih =>
    simp only [countTo]
    rw [ih (by omega)]
    by_cases e : l.getD p 0 = s
    · obtain ⟨_, d, hd, hpl⟩ := h.is (by omega) e
      rw [if_pos (decide_eq_true e), countTo_first (c := d) (by omega) fun a ha => ?_, countTo_first (c := d + 1) (by omega) fun a ha => ?_]
      · rw [decide_eq_true_eq, ← hpl]
        constructor
        · intro hlt
          by_cases hx : a ≤ d
          · omega
          · have := place_rise (f := f) (N := N) hs ha (show d < a by omega); omega
        · intro hlt
          by_cases hx : a = d
          · subst hx; omega
          · have := place_rise (f := f) (N := N) hs hd (show a < d by omega); omega
      · rw [decide_eq_true_eq, ← hpl]
        constructor
        · intro hlt
          by_cases hx : a < d
          · exact hx
          · by_cases hy : a = d
            · subst hy; omega
            · have := place_rise (f := f) (N := N) hs ha (show d < a by omega); omega
        · exact fun hlt => place_rise (f := f) (N := N) hs hd hlt
    · rw [if_neg (by simpa using e), Nat.add_zero]
      refine countTo_congr _ fun a ha => ?_
      have : placeF f N s (f s + a) ≠ p := fun hc => e (by rw [← hc]; exact h.at' s a hs ha)
      exact decide_eq_decide.2 (by omega)
theorem IsSpread.nth {f : Nat → Nat} {N : Nat} {l : List Nat} (h : IsSpread f N l) {s d : Nat} (hs : s < N) (hd : d < f s) : countTo (fun a => decide (l.getD a 0 = s)) (placeF f N s (f s + d)) = d := by
  rw [h.count hs _ (by rw [h.len]; exact Nat.le_of_lt (place_room hs hd))]
  refine countTo_first (by omega) fun a ha => ?_
  rw [decide_eq_true_eq]
  constructor
  · intro hlt
    by_cases hx : a < d
    · exact hx
    · by_cases hy : a = d
      · subst hy; omega
      · have := place_rise (f := f) (N := N) hs ha (show d < a by omega); omega
  · exact fun hlt => place_rise (f := f) (N := N) hs hd hlt
theorem IsSpread.all {f : Nat → Nat} {N : Nat} {l : List Nat} (h : IsSpread f N l) {s : Nat} (hs : s < N) : countTo (fun a => decide (l.getD a 0 = s)) l.length = f s := by
  rw [h.count hs _ (Nat.le_refl _), h.len]
  exact countTo_all _ _ fun a ha => decide_eq_true (place_room hs ha)

/-- the first places -/
theorem place_first {f : Nat → Nat} {N s : Nat} (hs : s < N) (h : 0 < f s) : placeF f N s (f s) = countTo (fun t => decide (0 < f t)) s := by
  have key : ∀ n, sumTo (fun t => lessF f t s (f s)) n = countTo (fun t => decide (0 < f t ∧ t < s)) n := by
    intro n
    induction n with
    | zero => rfl
    | succ n ih =>
      simp only [sumTo, countTo]
      rw [ih]
      congr 1
      unfold lessF
      by_cases e : 0 < f n ∧ n < s
      · rw [if_pos (decide_eq_true e), countTo_first (c := 1) (by omega) fun a ha => ?_]
        rw [decide_eq_true_eq]
        unfold kless
        constructor
        · rintro (hk | ⟨hk, _⟩)
          · rw [Nat.mul_comm (f s)] at hk; have := Nat.lt_of_mul_lt_mul_right hk; omega
          · rw [Nat.mul_comm (f s)] at hk; have := Nat.eq_of_mul_eq_mul_right h hk; omega
        · intro hk
          right
          rw [show a = 0 by omega, Nat.add_zero]; exact ⟨Nat.mul_comm _ _, e.2⟩
      · rw [if_neg (by simpa using e), countTo_none _ _ fun a ha => decide_eq_false fun hk => ?_]
        unfold kless at hk
        rcases hk with hk | ⟨_, hk⟩
        · rw [Nat.mul_comm (f s)] at hk; have := Nat.lt_of_mul_lt_mul_right hk; omega
        · exact e ⟨by omega, hk⟩
  unfold placeF
  rw [key N, show N = s + (N - s) by omega]
  generalize N - s = k
  induction k with
  | zero => exact countTo_congr s fun a ha => decide_eq_decide.2 (by omega)
  | succ k ih => rw [show s + (k + 1) = s + k + 1 by omega]; simp only [countTo]; rw [ih, if_neg (by simp)]; rfl

/-- how far a symbol's keys reach -/
theorem less_near {f : Nat → Nat} {s t d : Nat} (hd : d < f s) : (f s + d) * f t ≤ (lessF f t s (f s + d) + f t) * f s ∧ (lessF f t s (f s + d) + f t) * f s ≤ (f s + d) * f t + if 0 < f t ∧ t ≠ s then f s else 0 := by
  by_cases hz : f t = 0
  · have : lessF f t s (f s + d) = 0 := by have := lessF_le f t s (f s + d); omega
    rw [this, hz]; simp
  · by_cases hts : t = s
    · subst hts
      rw [lessF_self hd, Nat.add_comm d (f t)]
      exact ⟨Nat.le_refl _, Nat.le_add_right _ _⟩
    · rw [if_pos ⟨by omega, hts⟩]
      have ht := countTo_thresh (p := fun d' => decide (kless f t (f t + d') s (f s + d))) (fun a hk => by
        rw [decide_eq_true_eq] at hk ⊢
        exact kless_trans (by omega) (by omega) (by omega) ((kless_same (by omega)).2 (show f t + a < f t + (a + 1) by omega)) hk) (f t)
      have hle := lessF_le f t s (f s + d)
      have ht : (∀ d', d' < lessF f t s (f s + d) → decide (kless f t (f t + d') s (f s + d)) = true) ∧ (lessF f t s (f s + d) < f t → decide (kless f t (f t + lessF f t s (f s + d)) s (f s + d)) = false) := ht
      revert hle ht
      generalize lessF f t s (f s + d) = c
      rintro hle ⟨h1, h2⟩
      constructor
      · by_cases hc : c < f t
        · have := h2 hc
          rw [decide_eq_false_iff_not] at this
          unfold kless at this
          refine Nat.le_of_not_lt fun hh => this (Or.inl ?_)
          rw [Nat.add_comm c (f t)] at hh
          exact hh
        · have e : c = f t := by omega
          rw [e]
          calc (f s + d) * f t ≤ (f s + f s) * f t := Nat.mul_le_mul_right _ (by omega)
            _ = (f t + f t) * f s := by rw [Nat.add_mul, Nat.add_mul, Nat.mul_comm]
      · by_cases hc : c = 0
        · subst hc
          rw [Nat.zero_add, Nat.mul_comm (f t)]
          have : f s * f t ≤ (f s + d) * f t := Nat.mul_le_mul_right _ (by omega)
          omega
        · have := h1 (c - 1) (by omega)
          rw [decide_eq_true_eq] at this
          unfold kless at this
          have e : (c + f t) * f s = (f t + (c - 1)) * f s + f s := by
            rw [← Nat.succ_mul]; congr 1; omega
          rw [e]; omega
theorem sum_others (f : Nat → Nat) (s c : Nat) (h : 0 < f s) : ∀ n, sumTo (fun t => if 0 < f t ∧ t ≠ s then c else 0) n + (if s < n then c else 0) = countTo (fun t => decide (0 < f t)) n * c
  | 0 => by simp [sumTo, countTo]
  | n + 1 => by
    have ih := sum_others f s c h n
    simp only [sumTo, countTo]
    by_cases e : n = s
    · subst e
      rw [if_neg (by omega)] at ih
      rw [if_neg (by omega), if_pos (by omega), if_pos (decide_eq_true h), Nat.add_mul, ← ih]; omega
    · by_cases hp : 0 < f n
      · rw [if_pos ⟨hp, e⟩, if_pos (decide_eq_true hp), Nat.add_mul, ← ih]
        by_cases h2 : s < n
        · rw [if_pos (by omega), if_pos h2]; omega
        · rw [if_neg (by omega), if_neg h2]; omega
      · have hd : decide (0 < f n) = false := decide_eq_false hp
        rw [if_neg (fun hh => hp hh.1), Nat.add_zero, if_neg (c := (fun t => decide (0 < f t)) n = true) (by rw [show (fun t => decide (0 < f t)) n = false from hd]; exact Bool.false_ne_true), Nat.add_zero (countTo _ _), ← ih]
        by_cases h2 : s < n
        · rw [if_pos (by omega), if_pos h2]
        · rw [if_neg (by omega), if_neg h2]
/-- a key's place is near where its fraction is -/
theorem place_near {f : Nat → Nat} {N s d : Nat} (hs : s < N) (hd : d < f s) :
    (f s + d) * sumTo f N ≤ (sumTo f N + placeF f N s (f s + d)) * f s ∧ (sumTo f N + placeF f N s (f s + d)) * f s + f s ≤ (f s + d) * sumTo f N + countTo (fun t => decide (0 < f t)) N * f s := by
  have e1 : (sumTo f N + placeF f N s (f s + d)) * f s = sumTo (fun t => (lessF f t s (f s + d) + f t) * f s) N := by
    rw [sumTo_mul, sumTo_add, Nat.add_comm]; rfl
  have e2 : (f s + d) * sumTo f N = sumTo (fun t => (f s + d) * f t) N := by
    rw [Nat.mul_comm, ← sumTo_mul]; exact sumTo_congr N fun a _ => Nat.mul_comm _ _
  have e3 := sum_others f s (f s) (by omega) N
  rw [if_pos hs] at e3
  rw [e1, e2]
  refine ⟨sumTo_le N fun t _ => (less_near hd).1, ?_⟩
  have := sumTo_le N (g := fun t => (lessF f t s (f s + d) + f t) * f s) (h := fun t => (f s + d) * f t + if 0 < f t ∧ t ≠ s then f s else 0) fun t _ => (less_near hd).2
  rw [sumTo_add] at this
  omega

end Go.Proofs.Ytllkfmnofklpmaa

/- Plain mathematics of chapter 15: normalized counts as bits. -/
namespace Go.Proofs.Ytllkfmnofklpmaa
open Go

/-- how many zeros there are from s on -/
def zr (f : Nat → Nat) : Nat → Nat → Nat
  | 0, _ => 0
  | fu + 1, s => if f s = 0 then zr f fu (s + 1) + 1 else 0
theorem zr_zero (f : Nat → Nat) : ∀ fu s j, j < zr f fu s → f (s + j) = 0
  | 0, s, j, h => by simp [zr] at h
  | fu + 1, s, j, h => by
    simp only [zr] at h
    split at h
    · next h0 =>
      cases j with
      | zero => exact h0
      | succ j => rw [show s + (j + 1) = s + 1 + j by omega]; exact zr_zero f fu (s + 1) j (by omega)
    · omega
theorem zr_stop (f : Nat → Nat) : ∀ fu s t, s ≤ t → t < s + fu → 0 < f t → s + zr f fu s ≤ t ∧ 0 < f (s + zr f fu s)
  | 0, s, t, h1, h2, h3 => by omega
  | fu + 1, s, t, h1, h2, h3 => by
    simp only [zr]
    split
    · next h0 =>
      have hst : s ≠ t := fun hh => by rw [hh] at h0; omega
      have := zr_stop f fu (s + 1) t (by omega) (by omega) h3
      rw [show s + (zr f fu (s + 1) + 1) = s + 1 + zr f fu (s + 1) by omega]
      exact this
    · next h0 =>
      rw [Nat.add_zero]
      exact ⟨h1, by omega⟩

/-- the bits of the counts from s on, so much being left -/
def hdGo (f : Nat → Nat) : Nat → Nat → Nat → List Bool
  | 0, _, _ => []
  | fu + 1, left, s => if left = 0 then [] else bitsOf (f s) (widthI (left : Int)) ++ (if 0 < f s then hdGo f fu (left - f s) (s + 1) else rnB (zr f (256 - (s + 1)) (s + 1)) ++ hdGo f fu left (s + 1 + zr f (256 - (s + 1)) (s + 1)))
/-- what is taken: counts, an error, and where it stands then -/
def hdTk (xs : List Nat) : Nat → Nat → Nat → Nat → Bool → List Int → List Int × Int × Nat
  | 0, p, _, _, _, _ => ([], 13, p)
  | fu + 1, p, left, s, z, q =>
    if left = 0 then (q, 0, p)
    else if 255 < s then ([], 13, p)
    else if (bgTk xs p (left : Int)).2.1 ≠ 0 then ([], (bgTk xs p (left : Int)).2.1, (bgTk xs p (left : Int)).2.2)
    else if (bgTk xs p (left : Int)).1 = 0 then
      (if z = true then ([], 13, (bgTk xs p (left : Int)).2.2)
       else if 255 < s + 1 then ([], 13, (bgTk xs p (left : Int)).2.2)
       else if (rnTk xs (bgTk xs p (left : Int)).2.2 (255 - ((s + 1 : Nat) : Int))).2.1 ≠ 0 then ([], (rnTk xs (bgTk xs p (left : Int)).2.2 (255 - ((s + 1 : Nat) : Int))).2.1, (rnTk xs (bgTk xs p (left : Int)).2.2 (255 - ((s + 1 : Nat) : Int))).2.2)
       else hdTk xs fu (rnTk xs (bgTk xs p (left : Int)).2.2 (255 - ((s + 1 : Nat) : Int))).2.2 left (s + 1 + (rnTk xs (bgTk xs p (left : Int)).2.2 (255 - ((s + 1 : Nat) : Int))).1.toNat) true (q.set s 0))
    else hdTk xs fu (bgTk xs p (left : Int)).2.2 (left - (bgTk xs p (left : Int)).1.toNat) (s + 1) false (q.set s (bgTk xs p (left : Int)).1)

theorem atBits.left {xs : List Nat} {p : Nat} {a b : List Bool} (h : atBits xs p (a ++ b)) : atBits xs p a := by
  obtain ⟨t, ht⟩ := h
  exact ⟨b ++ t, by rw [ht, List.append_assoc]⟩
theorem atBits.right {xs : List Nat} {p : Nat} {a b : List Bool} (h : atBits xs p (a ++ b)) : atBits xs (p + a.length) b := by
  obtain ⟨t, ht⟩ := h
  exact ⟨t, by rw [← List.drop_drop, ht, List.append_assoc, List.drop_left]⟩
theorem bgTk_at {xs : List Nat} {p v l : Nat} (h : atBits xs p (bitsOf v (widthI (l : Int)))) (h1 : 1 ≤ l) (h2 : l ≤ 4096) (hv : v ≤ l) : bgTk xs p (l : Int) = ((v : Int), 0, p + widthI (l : Int)) := by
  have hw := width_13 (l := (l : Int)) (by omega) (by omega)
  have hfit := h.fit (by rw [bitsOf_length]; omega)
  rw [bitsOf_length] at hfit
  have hf := atBits.fv (r := []) (by rw [List.append_nil]; exact h) (show v < 2 ^ widthI (l : Int) by omega)
  unfold bgTk
  rw [if_pos ⟨by omega, by omega⟩, if_pos hfit, hf, if_pos (by omega)]

theorem rnTk_at {xs : List Nat} {p n : Nat} {most : Int} (h : atBits xs p (rnB n)) (h1 : (n : Int) ≤ most) (h2 : most ≤ 255) : rnTk xs p most = ((n : Int), 0, p + (rnB n).length) := by
  obtain ⟨m, rfl⟩ := Int.eq_ofNat_of_zero_le (show 0 ≤ most by omega)
  unfold rnTk
  rw [if_pos ⟨by omega, h2⟩, Int.toNat_natCast, rnGo_put xs m n _ p 0 h (by omega) (by omega), Nat.zero_add]

theorem sum_zero {f : Nat → Nat} {s : Nat} : ∀ n, (∀ j, j < n → f (s + j) = 0) → sumTo f (s + n) = sumTo f s
  | 0, _ => rfl
  | n + 1, h => by
    have ih := sum_zero n fun j hj => h j (by omega)
    have h0 := h n (by omega)
    rw [show s + (n + 1) = (s + n) + 1 by omega]
    simp only [sumTo]
    omega
theorem sum_mono {f : Nat → Nat} {a b : Nat} (h : a ≤ b) : sumTo f a ≤ sumTo f b := by
  obtain ⟨d, rfl⟩ : ∃ d, b = a + d := ⟨b - a, by omega⟩
  clear h
  induction d with
  | zero => exact Nat.le_refl _
  | succ d ih =>
    rw [show a + (d + 1) = (a + d) + 1 by omega]
    simp only [sumTo]
    omega
theorem sum_some {f : Nat → Nat} {s : Nat} : ∀ n, sumTo f s < sumTo f (s + n) → ∃ t, s ≤ t ∧ t < s + n ∧ 0 < f t
  | 0, h => by simp at h
  | n + 1, h => by
    by_cases h0 : 0 < f (s + n)
    · exact ⟨s + n, by omega, by omega, h0⟩
    · rw [show s + (n + 1) = (s + n) + 1 by omega] at h
      simp only [sumTo] at h
      obtain ⟨t, h1, h2, h3⟩ := sum_some (f := f) (s := s) n (by omega)
      exact ⟨t, h1, by omega, h3⟩
theorem iset_at (q : List Int) (s t : Nat) (x : Int) (hs : s < q.length) : (q.set s x).getD t 0 = if s = t then x else q.getD t 0 := by
  by_cases h : s = t
  · subst h; rw [if_pos rfl, List.getD_eq_getElem?_getD, List.getElem?_set_self hs]; rfl
  · rw [if_neg h, List.getD_eq_getElem?_getD, List.getElem?_set_ne h, ← List.getD_eq_getElem?_getD]

/-- what is put is taken -/
theorem hdTk_put (xs : List Nat) (f : Nat → Nat) : ∀ (fu p left s : Nat) (z : Bool) (q : List Int), 256 < s + fu → s ≤ 256 → atBits xs p (hdGo f fu left s) → sumTo f 256 = sumTo f s + left → left ≤ 4096 →
    (z = true → left ≠ 0 → 0 < f s) → q.length = 256 → (∀ t, t < s → q.getD t 0 = ((f t : Nat) : Int)) → (∀ t, s ≤ t → q.getD t 0 = 0) →
    ∃ q', hdTk xs fu p left s z q = (q', 0, p + (hdGo f fu left s).length) ∧ q'.length = 256 ∧ ∀ t, t < 256 → q'.getD t 0 = ((f t : Nat) : Int) := by
  intro fu
  induction fu with
  | zero => intro p left s z q h1 h2; omega
  | succ fu ih =>
    intro p left s z q hfu hs hb hsum hl hz hq hlo hhi
    by_cases h0 : left = 0
    · subst h0
      refine ⟨q, by simp [hdTk, hdGo], hq, fun t ht => ?_⟩
      by_cases hts : t < s
      · exact hlo t hts
      · rw [hhi t (by omega)]
        have h1 := sum_mono (f := f) (show s ≤ t by omega)
        have h2 := sum_mono (f := f) (show t + 1 ≤ 256 by omega)
        have h3 : sumTo f (t + 1) = sumTo f t + f t := rfl
        have : f t = 0 := by omega
        rw [this]; rfl
    · have hs256 : s < 256 := by
        by_cases hh : s < 256
        · exact hh
        · have : s = 256 := by omega
          rw [this] at hsum; omega
      have hfs : sumTo f (s + 1) = sumTo f s + f s := rfl
      have hm := sum_mono (f := f) (show s + 1 ≤ 256 by omega)
      have hgo : hdGo f (fu + 1) left s = bitsOf (f s) (widthI (left : Int)) ++ (if 0 < f s then hdGo f fu (left - f s) (s + 1) else rnB (zr f (256 - (s + 1)) (s + 1)) ++ hdGo f fu left (s + 1 + zr f (256 - (s + 1)) (s + 1))) := by
        simp only [hdGo]; rw [if_neg h0]
      rw [hgo] at hb ⊢
      have hbg := bgTk_at hb.left (by omega) hl (show f s ≤ left by omega)
      have hr := hb.right
      rw [bitsOf_length] at hr
      simp only [hdTk]
      rw [if_neg h0, if_neg (by omega), hbg]
      simp only []
      rw [if_neg (by simp)]
      by_cases hf0 : 0 < f s
      · rw [if_neg (by omega)]
        rw [if_pos hf0] at hr ⊢
        obtain ⟨q', e1, e2, e3⟩ := ih (p + widthI (left : Int)) (left - f s) (s + 1) false (q.set s ((f s : Nat) : Int)) (by omega) (by omega) hr (by omega) (by omega) (by simp) (by rw [List.length_set]; exact hq) (fun t ht => by
          rw [iset_at _ _ _ _ (by omega)]
          by_cases hst : s = t
          · rw [if_pos hst, hst]
          · rw [if_neg hst]; exact hlo t (by omega)) (fun t ht => by
          rw [iset_at _ _ _ _ (by omega), if_neg (by omega)]; exact hhi t (by omega))
        refine ⟨q', ?_, e2, e3⟩
        rw [Int.toNat_natCast, e1, List.length_append, bitsOf_length, Nat.add_assoc]
      · have hfz : f s = 0 := by omega
        rw [if_neg hf0] at hr ⊢
        rw [if_pos (by omega), if_neg (fun hh => hf0 (hz hh h0))]
        obtain ⟨t, ht1, ht2, ht3⟩ := sum_some (f := f) (s := s + 1) (256 - (s + 1)) (by rw [show s + 1 + (256 - (s + 1)) = 256 by omega]; omega)
        have hst := zr_stop f (256 - (s + 1)) (s + 1) t ht1 ht2 ht3
        have hzz := zr_zero f (256 - (s + 1)) (s + 1)
        obtain ⟨n, hn⟩ : ∃ n, zr f (256 - (s + 1)) (s + 1) = n := ⟨_, rfl⟩
        rw [hn] at hst hzz hr ⊢
        have hrn := rnTk_at hr.left (most := 255 - ((s + 1 : Nat) : Int)) (by omega) (by omega)
        rw [if_neg (by omega), hrn]
        simp only []
        rw [if_neg (by simp), Int.toNat_natCast]
        have hr2 := hr.right
        obtain ⟨q', e1, e2, e3⟩ := ih (p + widthI (left : Int) + (rnB n).length) left (s + 1 + n) true (q.set s 0) (by omega) (by omega) hr2 (by rw [sum_zero n hzz]; omega) hl (fun _ _ => hst.2) (by rw [List.length_set]; exact hq) (fun t ht => by
          rw [iset_at _ _ _ _ (by omega)]
          by_cases hst : s = t
          · rw [if_pos hst, ← hst, hfz]; rfl
          · rw [if_neg hst]
            by_cases hts : t < s
            · exact hlo t hts
            · have := hzz (t - (s + 1)) (by omega)
              rw [show s + 1 + (t - (s + 1)) = t by omega] at this
              rw [hhi t (by omega), this]; rfl) (fun t ht => by
          rw [iset_at _ _ _ _ (by omega), if_neg (by omega)]; exact hhi t (by omega))
        refine ⟨q', ?_, e2, e3⟩
        rw [e1]
        simp only [List.length_append, bitsOf_length, Prod.mk.injEq, true_and]
        omega

end Go.Proofs.Ytllkfmnofklpmaa

/- Plain mathematics of chapter 15: what is taken, put again, has the same bits; how many bits there are. -/
namespace Go.Proofs.Ytllkfmnofklpmaa
open Go

/-- counts as a function -/
def fqN (q : List Int) (s : Nat) : Nat := (q.getD s 0).toNat

theorem zr_eq {f : Nat → Nat} : ∀ (n fu s : Nat), n < fu → (∀ j, j < n → f (s + j) = 0) → 0 < f (s + n) → zr f fu s = n
  | 0, fu, s, h, _, h2 => by
    obtain ⟨fu, rfl⟩ : ∃ k, fu = k + 1 := ⟨fu - 1, by omega⟩
    simp only [zr]
    rw [if_neg (by rw [Nat.add_zero] at h2; omega)]
  | n + 1, fu, s, h, h1, h2 => by
    obtain ⟨fu, rfl⟩ : ∃ k, fu = k + 1 := ⟨fu - 1, by omega⟩
    have ih := zr_eq n fu (s + 1) (by omega) (fun j hj => by rw [show s + 1 + j = s + (j + 1) by omega]; exact h1 (j + 1) (by omega)) (by rw [show s + 1 + n = s + (n + 1) by omega]; exact h2)
    have h0 := h1 0 (by omega)
    rw [Nat.add_zero] at h0
    simp only [zr]
    rw [if_pos h0, ih]
theorem bgTk_ok {xs : List Nat} {p l : Nat} (h1 : 1 ≤ l) (h2 : l ≤ 4096) (h : (bgTk xs p (l : Int)).2.1 = 0) :
    p + widthI (l : Int) ≤ 8 * xs.length ∧ fv xs p (widthI (l : Int)) ≤ l ∧ bgTk xs p (l : Int) = (((fv xs p (widthI (l : Int)) : Nat) : Int), 0, p + widthI (l : Int)) := by
  unfold bgTk at h ⊢
  rw [if_pos ⟨by omega, by omega⟩] at h ⊢
  by_cases hf : p + widthI (l : Int) ≤ 8 * xs.length
  · rw [if_pos hf] at h ⊢
    by_cases hv : ((fv xs p (widthI (l : Int)) : Nat) : Int) ≤ (l : Int)
    · rw [if_pos hv]; exact ⟨hf, by omega, rfl⟩
    · rw [if_neg hv] at h; simp at h
  · rw [if_neg hf] at h; simp at h
theorem rnTk_ok {xs : List Nat} {p : Nat} {most : Int} (h0 : 0 ≤ most) (h2 : most ≤ 255) (h : (rnTk xs p most).2.1 = 0) :
    ∃ n : Nat, (rnTk xs p most).1 = (n : Int) ∧ (n : Int) ≤ most ∧ (rnTk xs p most).2.2 ≤ 8 * xs.length ∧ (bitsB xs).take p ++ rnB n = (bitsB xs).take (rnTk xs p most).2.2 := by
  obtain ⟨m, rfl⟩ := Int.eq_ofNat_of_zero_le h0
  unfold rnTk at h ⊢
  rw [if_pos ⟨by omega, h2⟩, Int.toNat_natCast] at h ⊢
  obtain ⟨v, e1, e2, e3, e4⟩ := rnGo_again xs m _ p 0 (Nat.zero_le _) h
  exact ⟨v, by rw [e1, Nat.zero_add], by omega, e3, e4⟩
theorem take_bits (xs : List Nat) (p m : Nat) (h : p + m ≤ 8 * xs.length) : (bitsB xs).take p ++ bitsOf (fv xs p m) m = (bitsB xs).take (p + m) := by
  have hl : (((bitsB xs).drop p).take m).length = m := by rw [List.length_take, List.length_drop, bitsB_length]; omega
  have hv := bitsOf_val (((bitsB xs).drop p).take m)
  rw [hl] at hv
  unfold fv
  rw [hv, List.take_add]

/-- what is taken is normalized, and put again it has the same bits -/
theorem hdTk_again (xs : List Nat) : ∀ (fu p left s : Nat) (z : Bool) (q : List Int), 256 < s + fu → s ≤ 256 → left ≤ 4096 → p ≤ 8 * xs.length → q.length = 256 → (∀ t, 0 ≤ q.getD t 0) → (∀ t, s ≤ t → q.getD t 0 = 0) → (hdTk xs fu p left s z q).2.1 = 0 →
    (hdTk xs fu p left s z q).1.length = 256 ∧ (∀ t, t < s → (hdTk xs fu p left s z q).1.getD t 0 = q.getD t 0) ∧ (∀ t, 0 ≤ (hdTk xs fu p left s z q).1.getD t 0) ∧
    sumTo (fqN (hdTk xs fu p left s z q).1) 256 = sumTo (fqN (hdTk xs fu p left s z q).1) s + left ∧ (hdTk xs fu p left s z q).2.2 ≤ 8 * xs.length ∧
    (bitsB xs).take p ++ hdGo (fqN (hdTk xs fu p left s z q).1) fu left s = (bitsB xs).take (hdTk xs fu p left s z q).2.2 ∧ (z = true → left ≠ 0 → 0 < fqN (hdTk xs fu p left s z q).1 s) := by
  intro fu
  induction fu with
  | zero => intro p left s z q h1 h2; omega
  | succ fu ih =>
    intro p left s z q hfu hs hl hp hq hpos hhi
    by_cases h0 : left = 0
    · subst h0
      have e : hdTk xs (fu + 1) p 0 s z q = (q, 0, p) := by simp [hdTk]
      rw [e]
      intro _
      refine ⟨hq, fun _ _ => rfl, hpos, ?_, hp, by simp [hdGo], fun _ h => absurd rfl h⟩
      have := sum_zero (f := fqN q) (s := s) (256 - s) fun j hj => by
        unfold fqN; rw [hhi (s + j) (by omega)]; rfl
      rw [show s + (256 - s) = 256 by omega] at this
      rw [this]; rfl
    · have e : hdTk xs (fu + 1) p left s z q = (if 255 < s then ([], 13, p)
          else if (bgTk xs p (left : Int)).2.1 ≠ 0 then ([], (bgTk xs p (left : Int)).2.1, (bgTk xs p (left : Int)).2.2)
          else if (bgTk xs p (left : Int)).1 = 0 then
            (if z = true then ([], 13, (bgTk xs p (left : Int)).2.2)
             else if 255 < s + 1 then ([], 13, (bgTk xs p (left : Int)).2.2)
             else if (rnTk xs (bgTk xs p (left : Int)).2.2 (255 - ((s + 1 : Nat) : Int))).2.1 ≠ 0 then ([], (rnTk xs (bgTk xs p (left : Int)).2.2 (255 - ((s + 1 : Nat) : Int))).2.1, (rnTk xs (bgTk xs p (left : Int)).2.2 (255 - ((s + 1 : Nat) : Int))).2.2)
             else hdTk xs fu (rnTk xs (bgTk xs p (left : Int)).2.2 (255 - ((s + 1 : Nat) : Int))).2.2 left (s + 1 + (rnTk xs (bgTk xs p (left : Int)).2.2 (255 - ((s + 1 : Nat) : Int))).1.toNat) true (q.set s 0))
          else hdTk xs fu (bgTk xs p (left : Int)).2.2 (left - (bgTk xs p (left : Int)).1.toNat) (s + 1) false (q.set s (bgTk xs p (left : Int)).1)) := by
        simp only [hdTk]; rw [if_neg h0]
      rw [e]
      clear e
      by_cases hs5 : 255 < s
      · rw [if_pos hs5]; intro h; simp at h
      rw [if_neg hs5]
      by_cases hb : (bgTk xs p (left : Int)).2.1 ≠ 0
      · rw [if_pos hb]; intro h; exact absurd h hb
      rw [if_neg hb]
      have hb' : (bgTk xs p (left : Int)).2.1 = 0 := by omega
      obtain ⟨b1, b2, b3⟩ := bgTk_ok (by omega) hl hb'
      have htb := take_bits xs p (widthI (left : Int)) b1
      rw [b3]
      simp only []
      have hgo : ∀ f : Nat → Nat, hdGo f (fu + 1) left s = bitsOf (f s) (widthI (left : Int)) ++ (if 0 < f s then hdGo f fu (left - f s) (s + 1) else rnB (zr f (256 - (s + 1)) (s + 1)) ++ hdGo f fu left (s + 1 + zr f (256 - (s + 1)) (s + 1))) := fun f => by
        simp only [hdGo]; rw [if_neg h0]
      obtain ⟨v, hv⟩ : ∃ v, fv xs p (widthI (left : Int)) = v := ⟨_, rfl⟩
      rw [hv] at b2 htb ⊢
      by_cases hv0 : (v : Int) = 0
      · have hvz : v = 0 := by omega
        subst hvz
        rw [if_pos hv0]
        by_cases hz : z = true
        · rw [if_pos hz]; intro h; simp at h
        rw [if_neg hz]
        by_cases hs1 : 255 < s + 1
        · rw [if_pos hs1]; intro h; simp at h
        rw [if_neg hs1]
        have hok := rnTk_ok (xs := xs) (p := p + widthI (left : Int)) (most := 255 - ((s + 1 : Nat) : Int)) (by omega) (by omega)
        obtain ⟨T, hT⟩ : ∃ T, rnTk xs (p + widthI (left : Int)) (255 - ((s + 1 : Nat) : Int)) = T := ⟨_, rfl⟩
        rw [hT] at hok ⊢
        obtain ⟨T1, T2, p2⟩ := T
        simp only [] at hok ⊢
        by_cases hr : T2 ≠ 0
        · rw [if_pos hr]; intro h; exact absurd h hr
        rw [if_neg hr]
        have hr' : T2 = 0 := by omega
        obtain ⟨n, r1, r2, r3, r4⟩ := hok hr'
        rw [r1, Int.toNat_natCast]
        intro h
        obtain ⟨i1, i2, i3, i4, i5, i6, i7⟩ := ih p2 left (s + 1 + n) true (q.set s 0) (by omega) (by omega) hl r3 (by rw [List.length_set]; exact hq) (fun t => by
          rw [iset_at _ _ _ _ (by omega)]
          split
          · omega
          · exact hpos t) (fun t ht => by rw [iset_at _ _ _ _ (by omega), if_neg (by omega)]; exact hhi t (by omega)) h
        obtain ⟨R, hR⟩ : ∃ R, hdTk xs fu p2 left (s + 1 + n) true (q.set s 0) = R := ⟨_, rfl⟩
        rw [hR] at i1 i2 i3 i4 i5 i6 i7 ⊢
        have hold : ∀ t, t < s + 1 + n → R.1.getD t 0 = if s = t then 0 else q.getD t 0 := fun t ht => by rw [i2 t ht, iset_at _ _ _ _ (by omega)]
        have hRs : fqN R.1 s = 0 := by unfold fqN; rw [hold s (by omega), if_pos rfl]; rfl
        have hzero : ∀ j, j < n → fqN R.1 (s + 1 + j) = 0 := fun j hj => by
          unfold fqN; rw [hold _ (by omega), if_neg (by omega), hhi _ (by omega)]; rfl
        have hzr := zr_eq (f := fqN R.1) n (256 - (s + 1)) (s + 1) (by omega) hzero (i7 rfl h0)
        refine ⟨i1, fun t ht => by rw [hold t (by omega), if_neg (by omega)], i3, ?_, i5, ?_, fun hh => absurd hh hz⟩
        · have e1 := sum_zero (f := fqN R.1) (s := s + 1) n hzero
          have e2 : sumTo (fqN R.1) (s + 1) = sumTo (fqN R.1) s + fqN R.1 s := rfl
          omega
        · rw [hgo, hRs, if_neg (by omega), hzr, ← i6, ← r4, ← htb]
          simp only [List.append_assoc]
      · rw [if_neg hv0]
        have hvp : 0 < v := by omega
        intro h
        rw [Int.toNat_natCast] at h ⊢
        obtain ⟨i1, i2, i3, i4, i5, i6, i7⟩ := ih (p + widthI (left : Int)) (left - v) (s + 1) false (q.set s (v : Int)) (by omega) (by omega) (by omega) b1 (by rw [List.length_set]; exact hq) (fun t => by
          rw [iset_at _ _ _ _ (by omega)]
          split
          · omega
          · exact hpos t) (fun t ht => by rw [iset_at _ _ _ _ (by omega), if_neg (by omega)]; exact hhi t (by omega)) h
        obtain ⟨R, hR⟩ : ∃ R, hdTk xs fu (p + widthI (left : Int)) (left - v) (s + 1) false (q.set s (v : Int)) = R := ⟨_, rfl⟩
        rw [hR] at i1 i2 i3 i4 i5 i6 i7 ⊢
        have hRs : fqN R.1 s = v := by unfold fqN; rw [i2 s (by omega), iset_at _ _ _ _ (by omega), if_pos rfl, Int.toNat_natCast]
        refine ⟨i1, fun t ht => by rw [i2 t (by omega), iset_at _ _ _ _ (by omega), if_neg (by omega)], i3, ?_, i5, ?_, fun _ _ => by rw [hRs]; exact hvp⟩
        · have e2 : sumTo (fqN R.1) (s + 1) = sumTo (fqN R.1) s + fqN R.1 s := rfl
          omega
        · rw [hgo, hRs, if_pos hvp, ← i6, ← htb]
          simp only [List.append_assoc]

/-- how many bits there are at most -/
theorem hdGo_length (f : Nat → Nat) (k : Nat) (hk : k ≤ 12) : ∀ (fu left s : Nat), left ≤ 2 ^ k → s ≤ 256 → sumTo f 256 = sumTo f s + left → (hdGo f fu left s).length ≤ (k + 3) * (256 - s) := by
  intro fu
  induction fu with
  | zero => intro left s _ _ _; simp [hdGo]
  | succ fu ih =>
    intro left s hl hs hsum
    by_cases h0 : left = 0
    · subst h0; simp [hdGo]
    · have hs256 : s < 256 := by
        by_cases hh : s < 256
        · exact hh
        · have : s = 256 := by omega
          rw [this] at hsum; omega
      have hfs : sumTo f (s + 1) = sumTo f s + f s := rfl
      have hm := sum_mono (f := f) (show s + 1 ≤ 256 by omega)
      have hw : widthI (left : Int) ≤ k + 1 := by
        rw [width_floor (by omega)]
        have := floor_mono (n := (left : Int)) (m := ((2 ^ k : Nat) : Int)) (by omega)
        rw [floor_at] at this
        omega
      simp only [hdGo]
      rw [if_neg h0, List.length_append, bitsOf_length]
      have hmul : ∀ d, d ≤ 256 - s → (k + 3) * (256 - s) = (k + 3) * (256 - s - d) + (k + 3) * d := fun d hd => by rw [← Nat.mul_add]; congr 1; omega
      by_cases hf0 : 0 < f s
      · rw [if_pos hf0]
        have i := ih (left - f s) (s + 1) (by omega) (by omega) (by omega)
        have := hmul 1 (by omega)
        rw [show 256 - (s + 1) = 256 - s - 1 by omega] at i
        omega
      · rw [if_neg hf0, List.length_append, rnB_length]
        obtain ⟨t, ht1, ht2, ht3⟩ := sum_some (f := f) (s := s + 1) (256 - (s + 1)) (by rw [show s + 1 + (256 - (s + 1)) = 256 by omega]; omega)
        have hst := zr_stop f (256 - (s + 1)) (s + 1) t ht1 ht2 ht3
        have hzz := zr_zero f (256 - (s + 1)) (s + 1)
        obtain ⟨n, hn⟩ : ∃ n, zr f (256 - (s + 1)) (s + 1) = n := ⟨_, rfl⟩
        rw [hn] at hst hzz ⊢
        have i := ih left (s + 1 + n) hl (by omega) (by rw [sum_zero n hzz]; omega)
        have := hmul (n + 1) (by omega)
        rw [show 256 - (s + 1 + n) = 256 - s - (n + 1) by omega] at i
        have e : (k + 3) * (n + 1) = (k + 3) * n + (k + 3) := by rw [Nat.mul_succ]
        have e2 : n ≤ (k + 3) * n := Nat.le_mul_of_pos_left n (by omega)
        omega

end Go.Proofs.Ytllkfmnofklpmaa

/- Plain mathematics of chapter 15: cut off anywhere there are too few bits. -/
namespace Go.Proofs.Ytllkfmnofklpmaa
open Go

/-- from p on there are some of the bits bs, and not all -/
def cutBits (xs : List Nat) (p : Nat) (bs : List Bool) : Prop := p ≤ 8 * xs.length ∧ 8 * xs.length - p < bs.length ∧ (bitsB xs).drop p = bs.take (8 * xs.length - p)
theorem cut_fits {xs : List Nat} {p : Nat} {a b : List Bool} (h : cutBits xs p (a ++ b)) (hf : p + a.length ≤ 8 * xs.length) : atBits xs p a ∧ cutBits xs (p + a.length) b := by
  obtain ⟨h1, h2, h3⟩ := h
  rw [List.length_append] at h2
  have e : (a ++ b).take (8 * xs.length - p) = a ++ b.take (8 * xs.length - p - a.length) := by
    rw [List.take_append, List.take_of_length_le (by omega)]
  rw [e] at h3
  refine ⟨⟨_, h3⟩, hf, by omega, ?_⟩
  rw [← List.drop_drop, h3, List.drop_left]
  congr 1
  omega
theorem cut_in {xs : List Nat} {p : Nat} {a b : List Bool} (h : cutBits xs p (a ++ b)) (hf : ¬ p + a.length ≤ 8 * xs.length) : cutBits xs p a := by
  obtain ⟨h1, h2, h3⟩ := h
  refine ⟨h1, by omega, ?_⟩
  rw [h3, List.take_append_of_le_length (by omega)]
theorem rnGo_short (xs : List Nat) (most : Nat) : ∀ (n f p acc : Nat), cutBits xs p (rnB n) → acc + n ≤ most → 8 * xs.length < p + 2 * f → (rnGo xs most f p acc).2.1 = 3 := by
  intro n
  induction n using Nat.strongRecOn with
  | ind n ih =>
    intro f p acc hb hm hf
    have h1 := hb.1
    obtain ⟨f, rfl⟩ : ∃ f', f = f' + 1 := ⟨f - 1, by omega⟩
    simp only [rnGo]
    by_cases h3 : n < 3
    · rw [rnB_small h3] at hb
      have := hb.2.1
      rw [bitsOf_length] at this
      rw [if_neg (by omega)]
    · obtain ⟨k, rfl⟩ : ∃ k, n = k + 3 := ⟨n - 3, by omega⟩
      have hb' : cutBits xs p (bitsOf 3 2 ++ rnB k) := hb
      by_cases h2 : p + 2 ≤ 8 * xs.length
      · obtain ⟨c1, c2⟩ := cut_fits hb' (by rw [bitsOf_length]; exact h2)
        rw [bitsOf_length] at c2
        have hv := atBits.fv (r := []) (by rw [List.append_nil]; exact c1) (show 3 < 2 ^ 2 by decide)
        rw [if_pos h2, hv, if_neg (by omega), if_neg (by omega)]
        exact ih k (by omega) f (p + 2) (acc + 3) c2 (by omega) (by omega)
      · rw [if_neg h2]
theorem rnTk_short {xs : List Nat} {p n : Nat} {most : Int} (h : cutBits xs p (rnB n)) (h1 : (n : Int) ≤ most) (h2 : most ≤ 255) : (rnTk xs p most).2.1 = 3 := by
  obtain ⟨m, rfl⟩ := Int.eq_ofNat_of_zero_le (show 0 ≤ most by omega)
  unfold rnTk
  rw [if_pos ⟨by omega, h2⟩, Int.toNat_natCast]
  exact rnGo_short xs m n _ p 0 h (by omega) (by omega)
theorem bgTk_short {xs : List Nat} {p l : Nat} (h1 : 1 ≤ l) (h2 : l ≤ 4096) (h : ¬ p + widthI (l : Int) ≤ 8 * xs.length) : bgTk xs p (l : Int) = (0, 3, p) := by
  unfold bgTk
  rw [if_pos ⟨by omega, by omega⟩, if_neg h]

/-- cut off anywhere there are too few -/
theorem hdTk_short (xs : List Nat) (f : Nat → Nat) : ∀ (fu p left s : Nat) (z : Bool) (q : List Int), 256 < s + fu → s ≤ 256 → cutBits xs p (hdGo f fu left s) → sumTo f 256 = sumTo f s + left → left ≤ 4096 →
    (z = true → left ≠ 0 → 0 < f s) → (hdTk xs fu p left s z q).1 = [] ∧ (hdTk xs fu p left s z q).2.1 = 3 := by
  intro fu
  induction fu with
  | zero => intro p left s z q h1 h2; omega
  | succ fu ih =>
    intro p left s z q hfu hs hb hsum hl hz
    by_cases h0 : left = 0
    · subst h0
      have := hb.2.1
      simp [hdGo] at this
    · have hs256 : s < 256 := by
        by_cases hh : s < 256
        · exact hh
        · have : s = 256 := by omega
          rw [this] at hsum; omega
      have hfs : sumTo f (s + 1) = sumTo f s + f s := rfl
      have hm := sum_mono (f := f) (show s + 1 ≤ 256 by omega)
      have hgo : hdGo f (fu + 1) left s = bitsOf (f s) (widthI (left : Int)) ++ (if 0 < f s then hdGo f fu (left - f s) (s + 1) else rnB (zr f (256 - (s + 1)) (s + 1)) ++ hdGo f fu left (s + 1 + zr f (256 - (s + 1)) (s + 1))) := by
        simp only [hdGo]; rw [if_neg h0]
      rw [hgo] at hb
      simp only [hdTk]
      rw [if_neg h0, if_neg (by omega)]
      by_cases hf : p + widthI (left : Int) ≤ 8 * xs.length
      · obtain ⟨c1, c2⟩ := cut_fits hb (by rw [bitsOf_length]; exact hf)
        rw [bitsOf_length] at c2
        have hbg := bgTk_at c1 (by omega) hl (show f s ≤ left by omega)
        rw [hbg]
        simp only []
        rw [if_neg (by simp)]
        by_cases hf0 : 0 < f s
        · rw [if_neg (by omega), Int.toNat_natCast]
          rw [if_pos hf0] at c2
          exact ih _ _ _ _ _ (by omega) (by omega) c2 (by omega) (by omega) (by simp)
        · rw [if_neg hf0] at c2
          rw [if_pos (by omega), if_neg (fun hh => hf0 (hz hh h0))]
          obtain ⟨t, ht1, ht2, ht3⟩ := sum_some (f := f) (s := s + 1) (256 - (s + 1)) (by rw [show s + 1 + (256 - (s + 1)) = 256 by omega]; omega)
          have hst := zr_stop f (256 - (s + 1)) (s + 1) t ht1 ht2 ht3
          have hzz := zr_zero f (256 - (s + 1)) (s + 1)
          obtain ⟨n, hn⟩ : ∃ n, zr f (256 - (s + 1)) (s + 1) = n := ⟨_, rfl⟩
          rw [hn] at hst hzz c2
          rw [if_neg (by omega)]
          by_cases hf2 : p + widthI (left : Int) + (rnB n).length ≤ 8 * xs.length
          · obtain ⟨d1, d2⟩ := cut_fits c2 hf2
            have hrn := rnTk_at d1 (most := 255 - ((s + 1 : Nat) : Int)) (by omega) (by omega)
            rw [hrn]
            simp only []
            rw [if_neg (by simp), Int.toNat_natCast]
            exact ih _ _ _ _ _ (by omega) (by omega) d2 (by rw [sum_zero n hzz]; omega) hl (fun _ _ => hst.2)
          · have hsh := rnTk_short (cut_in c2 hf2) (most := 255 - ((s + 1 : Nat) : Int)) (by omega) (by omega)
            obtain ⟨T, hT⟩ : ∃ T, rnTk xs (p + widthI (left : Int)) (255 - ((s + 1 : Nat) : Int)) = T := ⟨_, rfl⟩
            rw [hT] at hsh ⊢
            rw [hsh, if_pos (by simp)]
            exact ⟨rfl, rfl⟩
      · rw [bgTk_short (by omega) hl hf]
        exact ⟨rfl, rfl⟩

end Go.Proofs.Ytllkfmnofklpmaa

/- What puncheonlaw01.put does: a Writer with all parts. -/
namespace Go.Proofs.Ytllkfmnofklpmaa
open Go.RowKit

end Go.Proofs.Ytllkfmnofklpmaa

/- What puncheonlaw01.awake tells: the chapter's example holds. -/
namespace Go.Proofs.Ytllkfmnofklpmaa
open Go.RowKit

theorem ex_bits : putB (putB [] 5 3) 1 2 = [true, false, true, true, false] := by decide
theorem ex_pack : pack [true, false, true, true, false] = [13] := by decide
theorem ex_close : pack ([true, false, true, true, false] ++ [true]) = [45] := by decide
theorem str13 : ((strB [13]).toList == [13]) = true := by decide +kernel
theorem str45 : ((strB [45]).toList == [45]) = true := by decide +kernel

end Go.Proofs.Ytllkfmnofklpmaa

/- puncheonlaw01.put's end, with the footprint named. -/
namespace Go.Proofs.Ytllkfmnofklpmaa
open Go.RowKit

end Go.Proofs.Ytllkfmnofklpmaa

/- The walk of BitwMark: it answers true, and nothing that was there has turned. -/
namespace Go.Proofs.Ytllkfmnofklpmaa
open Go.RowKit

end Go.Proofs.Ytllkfmnofklpmaa

/- Bits as a row of bools in memory. -/
namespace Go.Proofs.Ytllkfmnofklpmaa
open Go.RowKit

def bl (bs : List Bool) : List Value := bs.map Value.bool
theorem bl_length (bs : List Bool) : (bl bs).length = bs.length := by simp [bl]
theorem bl_one (bs : List Bool) : ∀ u ∈ bl bs, u.oneCell' = true := by
  intro u hu
  simp only [bl, List.mem_map] at hu
  obtain ⟨x, _, rfl⟩ := hu
  rfl
theorem bl_get (bs : List Bool) (i : Nat) (h : i < bs.length) : (bl bs)[i]? = some (.bool bs[i]) := by simp [bl, List.getElem?_eq_getElem h]
theorem Try.infoBool : (Try.prog.info? 4).map (fun i => (i.zero, i.size, i.bytes)) = some (some (.bool false), 1, 1) := by kernel_rfl

end Go.Proofs.Ytllkfmnofklpmaa
