/- Texts that other texts of this claim rest on, one behind the other (BwMath LgMath BwBase BwPut BwPutB BwPutC BwTell BwSame BrMath BrRead BrNew BrAwake BrSplits BwParts BwMany BfRead BfTake BgMath OpGen HsMath HsBase LgLen LgProg BgProg BwLawPut BwBytes BwAwake BwFoot BwMark BoolRow BwRef BrRef BfRest BfAwake BfSplits BfRef LgRef BgRef BwPlays). -/
import Derived.WalkKit
import Derived.Test.YtgnenelfbmpfgaaRows
import Derived.WalkSpells
import Derived.WalkLawsBesides
import Derived.RegionTactic
import Derived.ChangeAlike
import Derived.Deep.QuietTactic
import Derived.BigQuiet
import Derived.StillTailTactics
import Derived.Laws.CopyOwn
import Derived.Lib.Hide
import Derived.Deep.AppendLies
import Derived.Laws.BytesArg
import Derived.Laws.MathBits
import Derived.ProofKit
import Derived.OpenShut
import Derived.ShutString
import Derived.ChangeOld
import Derived.Below
import Derived.Deep.SlicePairs
import Derived.Deep.RegionWith
/- Plain mathematics of bits in bytes (no program): a list of bits, the first one lowest, eight to a byte. -/
namespace Go.Proofs.Ytgnenelfbmpfgaa

def val : List Bool → Nat
  | [] => 0
  | b :: r => b.toNat + 2 * val r

theorem val_lt (l : List Bool) : val l < 2 ^ l.length := by
  induction l with
  | nil => simp [val]
  | cons b r ih =>
    simp only [val, List.length_cons, Nat.pow_succ]
    cases b <;> simp <;> omega

theorem val_append (a b : List Bool) : val (a ++ b) = val a + 2 ^ a.length * val b := by
  induction a with
  | nil => simp [val]
  | cons x r ih =>
    simp only [val, List.cons_append, List.length_cons, Nat.pow_succ, ih]
    rw [Nat.mul_add, Nat.mul_comm (2 ^ r.length) 2, ← Nat.mul_assoc]
    omega

def byteAt (l : List Bool) (j : Nat) : Nat := val ((l.drop (8 * j)).take 8)
def pack (l : List Bool) : List Nat := (List.range ((l.length + 7) / 8)).map (byteAt l)

theorem pack_length (l : List Bool) : (pack l).length = (l.length + 7) / 8 := by simp [pack]

theorem byteAt_lt (l : List Bool) (j : Nat) : byteAt l j < 256 := by
  have h := val_lt ((l.drop (8 * j)).take 8)
  have h2 : ((l.drop (8 * j)).take 8).length ≤ 8 := by simp; omega
  have h3 : 2 ^ ((l.drop (8 * j)).take 8).length ≤ 2 ^ 8 := Nat.pow_le_pow_right (by omega) h2
  unfold byteAt; omega

theorem byteAt_last_lt (l : List Bool) : byteAt l (l.length / 8) < 2 ^ (l.length % 8) := by
  have h := val_lt ((l.drop (8 * (l.length / 8))).take 8)
  have h2 : ((l.drop (8 * (l.length / 8))).take 8).length = l.length % 8 := by simp; omega
  unfold byteAt; rw [h2] at h; exact h

theorem pack_getElem (l : List Bool) (j : Nat) (h : j < (pack l).length) : (pack l)[j] = byteAt l j := by simp [pack]

theorem pack_getElem? (l : List Bool) (j : Nat) (h : j < (l.length + 7) / 8) : (pack l)[j]? = some (byteAt l j) := by
  rw [List.getElem?_eq_getElem (by rw [pack_length]; exact h), pack_getElem]

theorem pack_lt (l : List Bool) : ∀ x ∈ pack l, x < 256 := by
  intro x hx
  simp only [pack, List.mem_map] at hx
  obtain ⟨j, _, rfl⟩ := hx
  exact byteAt_lt l j

theorem byteAt_append_left (a b : List Bool) (j : Nat) (h : 8 * j + 8 ≤ a.length) : byteAt (a ++ b) j = byteAt a j := by
  unfold byteAt
  rw [List.drop_append_of_le_length (by omega), List.take_append_of_le_length (by simp; omega)]

theorem byteAt_append_right (a b : List Bool) (j k : Nat) (h : a.length = 8 * k) : byteAt (a ++ b) (k + j) = byteAt b j := by
  unfold byteAt
  rw [List.drop_append, List.drop_eq_nil_of_le (by omega), List.nil_append]
  congr 2
  rw [h]; congr 1; omega

theorem byteAt_snoc (l : List Bool) (b : Bool) : byteAt (l ++ [b]) (l.length / 8) = byteAt l (l.length / 8) + b.toNat * 2 ^ (l.length % 8) := by
  unfold byteAt
  have e1 : ((l ++ [b]).drop (8 * (l.length / 8))).take 8 = (l.drop (8 * (l.length / 8))) ++ [b] := by
    rw [List.drop_append_of_le_length (by omega), List.take_of_length_le (by simp; omega)]
  have e2 : (l.drop (8 * (l.length / 8))).take 8 = l.drop (8 * (l.length / 8)) := List.take_of_length_le (by simp; omega)
  rw [e1, e2, val_append]
  have e3 : (l.drop (8 * (l.length / 8))).length = l.length % 8 := by simp; omega
  rw [e3]; simp [val, Nat.mul_comm]

theorem pack_snoc_new (l : List Bool) (b : Bool) (h : l.length % 8 = 0) : pack (l ++ [b]) = pack l ++ [b.toNat] := by
  have hb := byteAt_snoc l b
  have h0 := byteAt_last_lt l
  rw [h] at hb h0
  have e : (pack (l ++ [b])).length = (pack l).length + 1 := by simp [pack_length]; omega
  apply List.ext_getElem (by simp [e])
  intro j h1 h2
  rw [pack_getElem]
  rw [pack_length] at h1
  simp only [List.length_append, List.length_singleton] at h1
  by_cases hj : j < l.length / 8
  · rw [List.getElem_append_left (by rw [pack_length]; omega), pack_getElem, byteAt_append_left _ _ _ (by omega)]
  · have : j = l.length / 8 := by omega
    subst this
    rw [List.getElem_append_right (by rw [pack_length]; omega)]
    simp only [List.getElem_singleton]; rw [hb]; simp at h0; simp [h0]

theorem pack_snoc_old (l : List Bool) (b : Bool) (h : l.length % 8 ≠ 0) :
    pack (l ++ [b]) = (pack l).set (l.length / 8) (byteAt l (l.length / 8) + b.toNat * 2 ^ (l.length % 8)) := by
  have hb := byteAt_snoc l b
  apply List.ext_getElem (by simp [pack_length]; omega)
  intro j h1 h2
  rw [pack_getElem]
  rw [pack_length] at h1
  simp only [List.length_append, List.length_singleton] at h1
  by_cases hj : j = l.length / 8
  · subst hj; rw [List.getElem_set_self, hb]
  · rw [List.getElem_set_ne (by omega), pack_getElem, byteAt_append_left _ _ _ (by omega)]

theorem pack_append (a b : List Bool) (h : a.length % 8 = 0) : pack (a ++ b) = pack a ++ pack b := by
  apply List.ext_getElem (by simp [pack_length]; omega)
  intro j h1 h2
  rw [pack_getElem]
  rw [pack_length] at h1
  simp only [List.length_append] at h1
  by_cases hj : j < a.length / 8
  · rw [List.getElem_append_left (by rw [pack_length]; omega), pack_getElem, byteAt_append_left _ _ _ (by omega)]
  · rw [List.getElem_append_right (by rw [pack_length]; omega), pack_getElem]
    have e := byteAt_append_right a b (j - a.length / 8) (a.length / 8) (by omega)
    rw [show a.length / 8 + (j - a.length / 8) = j from by omega] at e
    rw [e, pack_length]; congr 1; omega

/-- the n lowest bits of v, the lowest first -/
def bitsOf (v : Nat) : Nat → List Bool
  | 0 => []
  | n + 1 => bitsOf v n ++ [decide (v / 2 ^ n % 2 = 1)]

theorem bitsOf_length (v n : Nat) : (bitsOf v n).length = n := by induction n with
  | zero => rfl
  | succ n ih => simp [bitsOf, ih]

theorem bitsOf_getElem (v n i : Nat) (h : i < (bitsOf v n).length) : (bitsOf v n)[i] = decide (v / 2 ^ i % 2 = 1) := by
  induction n with
  | zero => simp [bitsOf] at h
  | succ n ih =>
    simp only [bitsOf]
    by_cases hi : i < n
    · rw [List.getElem_append_left (by rw [bitsOf_length]; exact hi)]; exact ih _
    · have : i = n := by simp [bitsOf_length] at h; omega
      subst this
      rw [List.getElem_append_right (by rw [bitsOf_length]; omega)]; simp [bitsOf_length]

theorem bitsOf_split (v k c : Nat) (h : c ≤ k) : bitsOf v k = bitsOf v c ++ bitsOf (v / 2 ^ c) (k - c) := by
  apply List.ext_getElem (by simp [bitsOf_length]; omega)
  intro i h1 h2
  rw [bitsOf_length] at h1
  rw [bitsOf_getElem]
  by_cases hi : i < c
  · rw [List.getElem_append_left (by rw [bitsOf_length]; exact hi), bitsOf_getElem]
  · rw [List.getElem_append_right (by rw [bitsOf_length]; omega), bitsOf_getElem, bitsOf_length, Nat.div_div_eq_div_mul, ← Nat.pow_add]
    rw [show c + (i - c) = i from by omega]

theorem bitsOf_congr (u v k : Nat) (h : ∀ i, i < k → u / 2 ^ i % 2 = v / 2 ^ i % 2) : bitsOf u k = bitsOf v k := by
  apply List.ext_getElem (by simp [bitsOf_length])
  intro i h1 h2
  rw [bitsOf_length] at h1
  rw [bitsOf_getElem, bitsOf_getElem, h i h1]

/-- what Put does to the bits -/
def putB (bs : List Bool) (v : Nat) (n : Int) : List Bool := if 0 ≤ n ∧ n ≤ 24 then bs ++ bitsOf v n.toNat else bs

theorem putB_length (bs : List Bool) (v : Nat) (n : Int) : bs.length ≤ (putB bs v n).length ∧ (putB bs v n).length ≤ bs.length + 24 := by
  unfold putB; split
  · simp [bitsOf_length]; omega
  · omega

/-- the mark: behind the bits there is a 1, and above it nothing -/
theorem mark_byte (l : List Bool) : byteAt (l ++ [true]) (l.length / 8) / 2 ^ (l.length % 8) = 1 := by
  rw [byteAt_snoc]
  have h := byteAt_last_lt l
  have hp : 0 < 2 ^ (l.length % 8) := Nat.pow_pos (by omega)
  simp only [Bool.toNat_true, Nat.one_mul]
  rw [Nat.add_div_right _ hp, Nat.div_eq_of_lt h]

end Go.Proofs.Ytgnenelfbmpfgaa

/- Plain mathematics of chapter 7: logs to the base of two. -/
namespace Go.Proofs.Ytgnenelfbmpfgaa
open Go

def floorI (n : Int) : Nat := Nat.log2 n.toNat
def ceilI (n : Int) : Nat := if n < 2 then 0 else Nat.log2 (n.toNat - 1) + 1
def widthI (n : Int) : Nat := if n < 1 then 0 else Nat.log2 n.toNat + 1
def pickI (n m most : Int) : Int := max (max (min ((floorI n : Int) - 2) most) 5) ((ceilI m : Nat) : Int)

theorem pow_le {a b : Nat} (h : a ≤ b) : 2 ^ a ≤ 2 ^ b := Nat.pow_le_pow_right (by omega) h
theorem lt_of_pow {a b : Nat} (h : 2 ^ a < 2 ^ b) : a < b := by
  rcases Nat.lt_or_ge a b with h1 | h1
  · exact h1
  · have := pow_le h1; omega
theorem two_pow_succ (k : Nat) : 2 ^ (k + 1) = 2 * 2 ^ k := by rw [Nat.pow_succ]; omega

theorem floor_spec {n : Int} (h : 1 ≤ n) : ((2 ^ floorI n : Nat) : Int) ≤ n ∧ n < ((2 ^ (floorI n + 1) : Nat) : Int) := by
  have h1 := Nat.log2_self_le (n := n.toNat) (by omega)
  have h2 := Nat.lt_log2_self (n := n.toNat)
  unfold floorI
  omega
theorem floor_unique {n : Int} {k : Nat} (h1 : ((2 ^ k : Nat) : Int) ≤ n) (h2 : n < ((2 ^ (k + 1) : Nat) : Int)) : floorI n = k := by
  have hp := Nat.two_pow_pos k
  have hs := floor_spec (n := n) (by omega)
  have a := lt_of_pow (a := floorI n) (b := k + 1) (by omega)
  have b := lt_of_pow (a := k) (b := floorI n + 1) (by omega)
  omega
theorem floor_small {n : Int} (h : n < 2) : floorI n = 0 := by
  by_cases h1 : n = 1
  · subst h1; decide
  · unfold floorI
    rw [show n.toNat = 0 by omega]; decide
theorem ceil_small {n : Int} (h : n < 2) : ceilI n = 0 := by unfold ceilI; rw [if_pos h]

theorem ceil_spec {n : Int} (h : 1 ≤ n) : n ≤ ((2 ^ ceilI n : Nat) : Int) ∧ (ceilI n = 0 ∨ ((2 ^ (ceilI n - 1) : Nat) : Int) < n) := by
  by_cases h1 : n < 2
  · rw [ceil_small h1]; exact ⟨by simp; omega, .inl rfl⟩
  · have a := Nat.log2_self_le (n := n.toNat - 1) (by omega)
    have b := Nat.lt_log2_self (n := n.toNat - 1)
    unfold ceilI
    rw [if_neg h1]
    refine ⟨by omega, .inr ?_⟩
    rw [Nat.add_sub_cancel]; omega
theorem ceil_unique {n : Int} {k : Nat} (h : 1 ≤ n) (h1 : n ≤ ((2 ^ k : Nat) : Int)) (h2 : k = 0 ∨ ((2 ^ (k - 1) : Nat) : Int) < n) : ceilI n = k := by
  obtain ⟨s1, s2⟩ := ceil_spec h
  have a : ceilI n ≤ k := by
    rcases s2 with s2 | s2
    · omega
    · have := lt_of_pow (a := ceilI n - 1) (b := k) (by omega); omega
  have b : k ≤ ceilI n := by
    rcases h2 with h2 | h2
    · omega
    · have := lt_of_pow (a := k - 1) (b := ceilI n) (by omega); omega
  omega

theorem floor_mono {n m : Int} (h : n ≤ m) : floorI n ≤ floorI m := by
  by_cases h1 : n < 2
  · rw [floor_small h1]; omega
  · have a := floor_spec (n := n) (by omega)
    have b := floor_spec (n := m) (by omega)
    have := lt_of_pow (a := floorI n) (b := floorI m + 1) (by omega)
    omega
theorem ceil_mono {n m : Int} (h : n ≤ m) : ceilI n ≤ ceilI m := by
  by_cases h1 : n < 2
  · rw [ceil_small h1]; omega
  · have a := ceil_spec (n := n) (by omega)
    have b := ceil_spec (n := m) (by omega)
    rcases a.2 with a2 | a2
    · omega
    · have := lt_of_pow (a := ceilI n - 1) (b := ceilI m) (by omega); omega

theorem floor_at (k : Nat) : floorI ((2 ^ k : Nat) : Int) = k := floor_unique (Int.le_refl _) (by have := Nat.two_pow_pos k; rw [two_pow_succ]; omega)
theorem ceil_at (k : Nat) : ceilI ((2 ^ k : Nat) : Int) = k := by
  have := Nat.two_pow_pos k
  refine ceil_unique (by omega) (Int.le_refl _) ?_
  cases k with
  | zero => exact .inl rfl
  | succ k => right; rw [Nat.add_sub_cancel, two_pow_succ]; have := Nat.two_pow_pos k; omega

theorem floor_le40 {n : Int} (h : n ≤ 1099511627776) : floorI n ≤ 40 := by
  have := floor_mono (n := n) (m := ((2 ^ 40 : Nat) : Int)) (by simpa using h)
  rwa [floor_at] at this
theorem ceil_le40 {n : Int} (h : n ≤ 1099511627776) : ceilI n ≤ 40 := by
  have := ceil_mono (n := n) (m := ((2 ^ 40 : Nat) : Int)) (by simpa using h)
  rwa [ceil_at] at this

theorem width_small {n : Int} (h : n < 1) : widthI n = 0 := by unfold widthI; rw [if_pos h]
theorem width_floor {n : Int} (h : 1 ≤ n) : widthI n = floorI n + 1 := by unfold widthI floorI; rw [if_neg (by omega)]
theorem width_le41 {n : Int} (h : n ≤ 1099511627776) : widthI n ≤ 41 := by
  by_cases h1 : n < 1
  · rw [width_small h1]; omega
  · rw [width_floor (by omega)]; have := floor_le40 h; omega

theorem floor_double {n : Int} (h : 1 ≤ n) : floorI (2 * n) = floorI n + 1 ∧ floorI (2 * n + 1) = floorI n + 1 := by
  have a := floor_spec h
  have e1 := two_pow_succ (floorI n)
  have e2 := two_pow_succ (floorI n + 1)
  exact ⟨floor_unique (by omega) (by omega), floor_unique (by omega) (by omega)⟩
theorem ceil_double {n : Int} (h : 1 ≤ n) : ceilI (2 * n) = ceilI n + 1 := by
  have a := ceil_spec h
  have e1 := two_pow_succ (ceilI n)
  refine ceil_unique (by omega) (by omega) (.inr ?_)
  rw [Nat.add_sub_cancel]
  rcases a.2 with a2 | a2
  · rw [a2]; simp; omega
  · by_cases h0 : ceilI n = 0
    · rw [h0]; simp; omega
    · have e2 := two_pow_succ (ceilI n - 1)
      rw [show ceilI n - 1 + 1 = ceilI n by omega] at e2
      omega
theorem width_double {n : Int} (h : 1 ≤ n) : widthI (2 * n) = widthI n + 1 ∧ widthI (2 * n + 1) = widthI n + 1 := by
  have := floor_double h
  rw [width_floor h, width_floor (by omega), width_floor (by omega)]; omega
theorem width_half {n : Int} (h : 1 ≤ n) : widthI n = widthI (n / 2) + 1 := by
  by_cases h1 : n = 1
  · subst h1; decide
  · have := width_double (n := n / 2) (by omega)
    by_cases h2 : n % 2 = 0
    · rw [show 2 * (n / 2) = n by omega] at this; exact this.1
    · rw [show 2 * (n / 2) + 1 = n by omega] at this; exact this.2

theorem both_at {n : Int} (h : 1 ≤ n) : ceilI n = floorI n ↔ n = ((2 ^ floorI n : Nat) : Int) := by
  have a := floor_spec h
  have b := ceil_spec h
  constructor
  · intro e; rw [e] at b; omega
  · intro e
    have := ceil_at (floorI n)
    rw [← e] at this; exact this

theorem pick_ge5 (n m most : Int) : 5 ≤ pickI n m most := by unfold pickI; omega
theorem pick_le40 {n m most : Int} (h : n ≤ 1099511627776) (h2 : m ≤ 1099511627776) : pickI n m most ≤ 40 := by
  have := floor_le40 h; have := ceil_le40 h2
  unfold pickI; omega
theorem pick_mono {n m most n' m' most' : Int} (h1 : n ≤ n') (h2 : m ≤ m') (h3 : most ≤ most') : pickI n m most ≤ pickI n' m' most' := by
  have := floor_mono h1; have := ceil_mono h2
  unfold pickI; omega

/-- a table has room -/
theorem pick_room {n m t : Int} (hm : 1 ≤ m) (ht : 5 ≤ t) (k : Nat) (hk : pickI n m t = (k : Int)) :
    m ≤ ((2 ^ k : Nat) : Int) ∧ ((k : Int) ≤ t ∨ ((2 ^ (k - 1) : Nat) : Int) < m) ∧ (k = 5 ∨ k ≤ floorI n ∨ ((2 ^ (k - 1) : Nat) : Int) < m) := by
  have c := ceil_spec hm
  unfold pickI at hk
  have hck : ceilI m ≤ k := by omega
  have hp := pow_le hck
  by_cases he : ceilI m = k
  · rw [he] at c
    refine ⟨c.1, ?_, ?_⟩
    · rcases c.2 with c2 | c2
      · left; omega
      · right; exact c2
    · rcases c.2 with c2 | c2
      · exfalso; omega
      · right; right; exact c2
  · refine ⟨by omega, by left; omega, ?_⟩
    by_cases h5 : k = 5
    · left; exact h5
    · right; left; omega

end Go.Proofs.Ytgnenelfbmpfgaa

/- The relation 'only the blocks of S may have turned', a Writer in memory, and what bitw.setBit does. -/
namespace Go.Proofs.Ytgnenelfbmpfgaa
open Go.RowKit

/-- Only blocks of S, and new ones, may have turned. -/
structure Chg (S : Nat → Prop) (w w' : World) : Prop where
  os : w'.os = w.os
  tape : w'.tape = w.tape
  output : w'.output = w.output
  size : w.heap.size ≤ w'.heap.size
  block : ∀ k, k < w.heap.size → ¬ S k → w'.heap[k]? = w.heap[k]?

theorem Chg.refl (S : Nat → Prop) (w : World) : Chg S w w := ⟨rfl, rfl, rfl, Nat.le_refl _, fun _ _ _ => rfl⟩
theorem Chg.trans {S T : Nat → Prop} {a b c : World} (h : Chg S a b) (k : Chg T b c) (hT : ∀ k, k < a.heap.size → T k → S k) : Chg S a c :=
  ⟨k.os.trans h.os, k.tape.trans h.tape, k.output.trans h.output, Nat.le_trans h.size k.size,
    fun i hi hs => (k.block i (Nat.lt_of_lt_of_le hi h.size) (fun ht => hs (hT i hi ht))).trans (h.block i hi hs)⟩
theorem Chg.mono {S T : Nat → Prop} {a b : World} (h : Chg S a b) (hT : ∀ k, k < a.heap.size → S k → T k) : Chg T a b :=
  ⟨h.os, h.tape, h.output, h.size, fun i hi hs => h.block i hi (fun hk => hs (hT i hi hk))⟩
theorem Chg.drew {S : Nat → Prop} {a b : World} (h : Chg S a b) : Chg S a b.drew := ⟨h.os, h.tape, h.output, h.size, h.block⟩
theorem Chg.drewN {S : Nat → Prop} {a b : World} (h : Chg S a b) (n : Nat) : Chg S a (b.drewN n) := ⟨h.os, h.tape, h.output, h.size, h.block⟩
theorem Chg.of_grown {w w' : World} {row : Option Nat} (h : w.grownBy w' row) : Chg (fun k => some k = row) w w' := ⟨h.os, h.tape, h.output, h.size, h.block⟩
theorem Chg.alloc (S : Nat → Prop) (w : World) (o : Obj) : Chg S w (w.alloc o) := ⟨rfl, rfl, rfl, by simp, fun k hk _ => Below.heap_alloc w o k hk⟩
theorem Chg.setCell (w : World) (a : Addr) (u : Value) : Chg (fun k => k = a.block) w (w.setCell a u) :=
  ⟨rfl, rfl, rfl, by simp [World.setCell], fun k _ hs => heap_setCell_other w a k u hs⟩
theorem Chg.of_below {w w' : World} (h : Below w.heap.size w w') : Chg (fun _ => False) w w' := ⟨h.os, h.tape, h.output, h.size, fun k hk _ => h.block k hk⟩
theorem Chg.below {S : Nat → Prop} {w w' : World} {B : Nat} (h : Chg S w w') (hB : B ≤ w.heap.size) (hS : ∀ k, k < B → ¬ S k) : Below B w w' :=
  ⟨h.os, h.tape, h.output, h.size, fun k hk => h.block k (by omega) (hS k hk)⟩
theorem Chg.own {S : Nat → Prop} {w w' : World} (h : Chg S w w') {base : Nat} {e : TypeId} {size : Nat} {v : Value} {n : Nat} {xs : List Value} (hown : w.ownsRow base e size v n xs)
    (hS : ∀ k, v.ownBlock = some k → ¬ S k) : w'.ownsRow base e size v n xs := by
  refine ⟨hown.1, ?_⟩
  rcases hown.2 with hn | ⟨g, cap, cur, rfl, hb, hgg, rest⟩
  · exact .inl hn
  · refine .inr ⟨g, cap, cur, rfl, hb, ?_, rest⟩
    rw [h.block g (Array.getElem?_eq_some_iff.1 hgg).1 (hS g rfl)]
    exact hgg

theorem ownsRow_mono {w : World} {base base' : Nat} {e : TypeId} {size : Nat} {v : Value} {n : Nat} {xs : List Value} (h : w.ownsRow base e size v n xs) (hb : base' ≤ base) : w.ownsRow base' e size v n xs := by
  refine ⟨h.1, ?_⟩
  rcases h.2 with hn | ⟨g, cap, cur, rfl, hb', rest⟩
  · exact .inl hn
  · exact .inr ⟨g, cap, cur, rfl, by omega, rest⟩

theorem ownsRow_base {w : World} {base base' : Nat} {e : TypeId} {size : Nat} {v : Value} {n : Nat} {xs : List Value} (h : w.ownsRow base e size v n xs) (hb : ∀ k, v.ownBlock = some k → base' ≤ k) : w.ownsRow base' e size v n xs := by
  refine ⟨h.1, ?_⟩
  rcases h.2 with hn | ⟨g, cap, cur, rfl, hb', rest⟩
  · exact .inl hn
  · exact .inr ⟨g, cap, cur, rfl, hb g rfl, rest⟩

/-- what each law's walk ends in -/
def Says (w : World) (e : Ending) (w' : World) : Prop := e = .returned (.bool true) ∧ Chg (fun _ => False) w w'

/-- bytes as values -/
def bv (xs : List Nat) : List Value := xs.map fun n : Nat => .int .u8 (n : Int)
theorem bv_length (xs : List Nat) : (bv xs).length = xs.length := by simp [bv]
theorem bv_set (xs : List Nat) (i n : Nat) : (bv xs).set i (.int .u8 (n : Int)) = bv (xs.set i n) := by simp [bv, List.map_set]
theorem bv_snoc (xs : List Nat) (n : Nat) : bv xs ++ [.int .u8 (n : Int)] = bv (xs ++ [n]) := by simp [bv]
theorem bv_get (xs : List Nat) (i : Nat) (h : i < xs.length) : (bv xs)[i]? = some (.int .u8 ((xs.getD i 0 : Nat) : Int)) := by
  simp [bv, List.getElem?_eq_getElem h]

theorem or_bit : ∀ k : Nat, k < 8 → ∀ x : Nat, x < 2 ^ k → bits .or .u8 (x : Int) ((2 : Int) ^ k % 256) = ((x + 2 ^ k : Nat) : Int) := by decide +kernel

theorem Try.infoU8 : (Try.prog.info? 5).map (fun i => (i.zero, i.size, i.bytes)) = some (some (.int .u8 0), 1, 1) := by kernel_rfl

set_option maxHeartbeats 400000 in
theorem setBit_any (g n cap i x : Nat) (w : World) (hc : w.cell? ⟨g, i / 8, none⟩ = some (.int .u8 (x : Int))) (hf : w.frozen? ⟨g, i / 8, none⟩ = false)
    (hi : i / 8 < n) (hi2 : i < 1000000000000) (hx : x < 2 ^ (i % 8)) :
    Calls Try.prog 44 #[.slice (some ⟨g, 0, none⟩) n cap, .int .i64 (i : Int)] w fun e w' => e = .returned (.tuple #[]) ∧ (w.setCell ⟨g, i / 8, none⟩ (.int .u8 ((x + 2 ^ (i % 8) : Nat) : Int))).drew = w' := by
  have H := Lib.hid (or_bit (i % 8) (by omega) x hx)
  have hx2 : 2 ^ (i % 8) ≤ 2 ^ 7 := Nat.pow_le_pow_right (by omega) (by omega)
  have hx0 : (0 : Int) ≤ x := by omega
  have hx1 : (x : Int) < 256 := by omega
  clear hx hx2
  go_enter Try.func44, Try.ntmps44
  go_wp2
  go_region
  all_goals (go_end0; exact ⟨rfl, by rw [H.out]⟩)

theorem setBit_row (base g n cap i : Nat) (xs : List Nat) (w : World) (hown : w.ownsRow base 5 1 (.slice (some ⟨g, 0, none⟩) n cap) n (bv xs))
    (hi : i / 8 < n) (hi2 : i < 1000000000000) (hx : xs.getD (i / 8) 0 < 2 ^ (i % 8)) :
    Calls Try.prog 44 #[.slice (some ⟨g, 0, none⟩) n cap, .int .i64 (i : Int)] w fun e w' => e = .returned (.tuple #[]) ∧
      w'.ownsRow base 5 1 (.slice (some ⟨g, 0, none⟩) n cap) n (bv (xs.set (i / 8) (xs.getD (i / 8) 0 + 2 ^ (i % 8)))) ∧ Chg (fun k => k = g) w w' := by
  have hlen : xs.length = n := by have := hown.1; simpa [bv] using this
  have hc := hown.cellAt (i / 8) (by omega)
  rw [bv_get xs (i / 8) (by omega)] at hc
  refine (setBit_any g n cap i (xs.getD (i / 8) 0) w hc (hown.frozenAt (i / 8)) hi hi2 hx).mono ?_
  rintro e w' ⟨rfl, rfl⟩
  have hs := hown.stored (i / 8) (.int .u8 ((xs.getD (i / 8) 0 + 2 ^ (i % 8) : Nat) : Int))
  rw [bv_set] at hs
  exact ⟨rfl, hs.1.drew, (Chg.setCell w ⟨g, i / 8, none⟩ _).drew⟩

end Go.Proofs.Ytgnenelfbmpfgaa

/- A Writer in memory; what bitw.putBit does to it. -/
namespace Go.Proofs.Ytgnenelfbmpfgaa
open Go.RowKit

/-- The Writer at block b holds the bits bs; its bytes lie in the block o (none: there are none yet). -/
def Wr (w : World) (b : Nat) (o : Option Nat) (bs : List Bool) : Prop :=
  ∃ v, w.heap[b]? = some (.cells #[v, .int .i64 (bs.length : Int)] 56 (0, 0)) ∧ v.ownBlock = o ∧ w.ownsRow (b + 1) 5 1 v ((bs.length + 7) / 8) (bv (pack bs))

/-- From w to w' only the Writer has turned; it holds bs now. -/
def WrTo (w w' : World) (b : Nat) (o : Option Nat) (bs : List Bool) : Prop :=
  ∃ o', Wr w' b o' bs ∧ Chg (fun k => k = b ∨ some k = o) w w' ∧ (o' = o ∨ ∃ k, o' = some k ∧ w.heap.size ≤ k)

theorem Wr.lt {w : World} {b : Nat} {o : Option Nat} {bs : List Bool} (h : Wr w b o bs) : b < w.heap.size ∧ ∀ k, o = some k → b < k ∧ k < w.heap.size := by
  obtain ⟨v, hb, ho, hown⟩ := h
  refine ⟨lt_of_block hb, fun k hk => ?_⟩
  have := hown.lt k (ho.trans hk)
  omega

theorem Wr.kept {S : Nat → Prop} {w w' : World} {b : Nat} {o : Option Nat} {bs : List Bool} (h : Wr w b o bs) (hc : Chg S w w') (h1 : ¬ S b) (h2 : ∀ k, o = some k → ¬ S k) : Wr w' b o bs := by
  have hl := h.lt
  obtain ⟨v, hb, ho, hown⟩ := h
  exact ⟨v, (hc.block b hl.1 h1).trans hb, ho, hc.own hown (fun k hk => h2 k (ho.symm.trans hk))⟩

theorem WrTo.trans {a w w' : World} {b : Nat} {o o1 : Option Nat} {bs : List Bool} (hc : Chg (fun k => k = b ∨ some k = o) a w) (h1 : o1 = o ∨ ∃ k, o1 = some k ∧ a.heap.size ≤ k) (h : WrTo w w' b o1 bs) : WrTo a w' b o bs := by
  obtain ⟨o', hw, hc', ho'⟩ := h
  refine ⟨o', hw, hc.trans hc' ?_, ?_⟩
  · intro k hk h'
    rcases h' with h' | h'
    · exact .inl h'
    · rcases h1 with rfl | ⟨k1, rfl, hk1⟩
      · exact .inr h'
      · simp only [Option.some.injEq] at h'; omega
  · rcases ho' with rfl | ⟨k, rfl, hk⟩
    · exact h1
    · exact .inr ⟨k, rfl, Nat.le_trans hc.size hk⟩

theorem cells2 {w : World} {b : Nat} {x y : Value} {t : TypeId} (h : w.heap[b]? = some (.cells #[x, y] t (0, 0))) :
    w.cell? ⟨b, 0, none⟩ = some x ∧ w.cell? ⟨b, 1, none⟩ = some y ∧ w.frozen? ⟨b, 0, none⟩ = false ∧ w.frozen? ⟨b, 1, none⟩ = false := by
  refine ⟨?_, ?_, frozen_of_row w b 0 _ t h, frozen_of_row w b 1 _ t h⟩
  · rw [cell_of_row w b 0 _ t _ h]; rfl
  · rw [cell_of_row w b 1 _ t _ h]; rfl

theorem set2_0 {w : World} {b : Nat} {x y u : Value} {t : TypeId} (h : w.heap[b]? = some (.cells #[x, y] t (0, 0))) : (w.setCell ⟨b, 0, none⟩ u).heap[b]? = some (.cells #[u, y] t (0, 0)) := by
  rw [heap_setCell_same w b 0 _ t u h]; rfl
theorem set2_1 {w : World} {b : Nat} {x y u : Value} {t : TypeId} (h : w.heap[b]? = some (.cells #[x, y] t (0, 0))) : (w.setCell ⟨b, 1, none⟩ u).heap[b]? = some (.cells #[x, u] t (0, 0)) := by
  rw [heap_setCell_same w b 1 _ t u h]; rfl

theorem slice_of_own {w : World} {base : Nat} {e : TypeId} {v : Value} {n : Nat} {xs : List Value} (h : w.ownsRow base e 1 v n xs) (hn : 0 < n) : ∃ g cap, v = .slice (some ⟨g, 0, none⟩) n cap ∧ base ≤ g := by
  rcases h.2 with ⟨_, h0⟩ | ⟨g, cap, cur, h, hb, _⟩
  · omega
  · exact ⟨g, cap, h, hb⟩

/-- the last line of putBit's walk: one bit more, in a world in which the row already holds it -/
theorem wr_close {w w2 : World} {b g cap : Nat} {o : Option Nat} {bs : List Bool} {one : Bool}
    (hb : w2.heap[b]? = some (.cells #[.slice (some ⟨g, 0, none⟩) ((bs.length + 1 + 7) / 8) cap, .int .i64 (bs.length : Int)] 56 (0, 0)))
    (hown : w2.ownsRow (b + 1) 5 1 (.slice (some ⟨g, 0, none⟩) ((bs.length + 1 + 7) / 8) cap) ((bs.length + 1 + 7) / 8) (bv (pack (bs ++ [one]))))
    (hc : Chg (fun k => k = b ∨ some k = o) w w2) (ho : some g = o ∨ w.heap.size ≤ g) :
    WrTo w (w2.setCell ⟨b, 1, none⟩ (.int .i64 ((bs.length : Int) + 1))) b o (bs ++ [one]) := by
  have hl := hown.lt g rfl
  refine ⟨some g, ⟨.slice (some ⟨g, 0, none⟩) ((bs.length + 1 + 7) / 8) cap, (by rw [set2_1 hb]; simp), rfl, ?_⟩, hc.trans (Chg.setCell w2 ⟨b, 1, none⟩ _) (fun k _ hk => .inl hk), ?_⟩
  · have := ownsRow_setCell_below hown (a := ⟨b, 1, none⟩) (by show b < b + 1; omega) (.int .i64 ((bs.length : Int) + 1))
    simpa using this
  · rcases ho with h | h
    · exact .inl h
    · exact .inr ⟨g, rfl, h⟩

end Go.Proofs.Ytgnenelfbmpfgaa

/- What bitw.putBit does to a Writer. -/
namespace Go.Proofs.Ytgnenelfbmpfgaa
open Go.RowKit

set_option maxHeartbeats 1000000 in
theorem putBit_old (b : Nat) (o : Option Nat) (bs : List Bool) (one : Bool) (w : World) (h : Wr w b o bs) (hlen : bs.length < 1000000000) (hm : bs.length % 8 ≠ 0) :
    Calls Try.prog 40 #[.pointer (some ⟨b, 0, none⟩), .bool one] w fun e w' => e = .returned (.tuple #[]) ∧ WrTo w w' b o (bs ++ [one]) := by
  obtain ⟨v, hb, ho, hown⟩ := h
  obtain ⟨g, cap, rfl, hbg⟩ := slice_of_own hown (by omega)
  obtain ⟨c0, c1, f0, f1⟩ := cells2 hb
  have hn : (bs.length + 1 + 7) / 8 = (bs.length + 7) / 8 := by omega
  have hlt := byteAt_last_lt bs
  have hget : (pack bs).getD (bs.length / 8) 0 = byteAt bs (bs.length / 8) := by
    rw [List.getD_eq_getElem?_getD, pack_getElem? bs _ (by omega)]; rfl
  have hold := pack_snoc_old bs one hm
  have ho' : some g = o := ho
  have ht : (((bs.length : Nat) : Int) % 8 == 0) = false := by rw [beq_eq_false_iff_ne]; omega
  have HO := Lib.hid ho; have HO' := Lib.hid ho'; have HN := Lib.hid hn; have HG := Lib.hid hget; have HP := Lib.hid hold; have HB := Lib.hid hb
  clear ho ho' hn hget hold hb
  cases one
  · go_enter Try.func40, Try.ntmps40
    go_wp2
    go_end0
    refine ⟨rfl, wr_close (g := g) (cap := cap) (w2 := w) (by rw [HN.out]; exact HB.out) ?_ (Chg.refl _ _) (.inl HO'.out)⟩
    rw [HN.out, HP.out]
    simp only [Bool.toNat_false, Nat.zero_mul, Nat.add_zero]
    rw [← HG.out, show (pack bs).set (bs.length / 8) ((pack bs).getD (bs.length / 8) 0) = pack bs from ?_]
    · exact hown
    · have hl : bs.length / 8 < (pack bs).length := by rw [pack_length]; omega
      rw [List.getD_eq_getElem?_getD, List.getElem?_eq_getElem hl]; simp
  · go_enter Try.func40, Try.ntmps40
    go_wp2
    go_still_tail 8, (by kernel_rfl)
    change wpList _ _ _ _ _ w.drew
    go_wp2_with fail
    refine (setBit_row (b + 1) g ((bs.length + 7) / 8) cap bs.length (pack bs) _ hown.drew (by omega) (by omega) (by rw [HG.out]; exact hlt)).mono ?_
    rintro e w2 ⟨rfl, hown2, hc2⟩
    have hc2' : Chg (fun k => k = g) w w2 := ⟨hc2.os, hc2.tape, hc2.output, hc2.size, hc2.block⟩
    have hb2 := (hc2'.block b (lt_of_block HB.out) (by omega)).trans HB.out
    obtain ⟨c0', c1', f0', f1'⟩ := cells2 hb2
    have HB2 := Lib.hid hb2
    clear hb2
    go_wp2
    go_end0
    refine ⟨rfl, wr_close (g := g) (cap := cap) (w2 := w2) (by rw [HN.out]; exact HB2.out) ?_ (hc2'.mono fun k _ hk => .inr (by rw [hk]; exact HO'.out)) (.inl HO'.out)⟩
    rw [HN.out, HP.out, ← HG.out]
    simpa using hown2

set_option maxHeartbeats 1000000 in
theorem putBit_new (b : Nat) (o : Option Nat) (bs : List Bool) (one : Bool) (w : World) (h : Wr w b o bs) (hlen : bs.length < 1000000000) (hm : bs.length % 8 = 0) :
    Calls Try.prog 40 #[.pointer (some ⟨b, 0, none⟩), .bool one] w fun e w' => e = .returned (.tuple #[]) ∧ WrTo w w' b o (bs ++ [one]) := by
  obtain ⟨i, hi, hz0, hz1, hz2⟩ := info_parts Try.infoU8
  obtain ⟨v, hb, ho, hown⟩ := h
  have hbl := lt_of_block hb
  obtain ⟨c0, c1, f0, f1⟩ := cells2 hb
  have hne : some b ≠ v.ownBlock := fun h => by have := hown.lt b h.symm; omega
  have hlo := hown.lt
  have ht : (((bs.length : Nat) : Int) % 8 == 0) = true := by rw [beq_iff_eq]; omega
  have HM := Lib.hid hm; have HO := Lib.hid ho; have HB := Lib.hid hb; have HL := Lib.hid hlo; have HNe := Lib.hid hne
  clear hm ho hb hlo hne
  have hnew := pack_snoc_new bs one HM.out
  have hn : (bs.length + 1 + 7) / 8 = (bs.length + 7) / 8 + 1 := by have := HM.out; omega
  have HW := Lib.hid hnew; have HN := Lib.hid hn
  clear hnew hn
  have key : ∀ (g cap : Nat) (w1 : World), (w.alloc (.cells #[.int .u8 0] 5)).grownBy w1 v.ownBlock → (v.ownBlock = some g ∨ g = w.heap.size + 1) →
      (some g = o ∨ w.heap.size ≤ g) ∧ w1.heap[b]? = some (.cells #[v, .int .i64 (bs.length : Int)] 56 (0, 0)) ∧ Chg (fun k => some k = o) w w1 := by
    intro g cap w1 h2 h3
    have hc : Chg (fun k => some k = o) w w1 := (Chg.alloc _ w _).trans (Chg.of_grown h2) (fun k _ hk => by rw [hk]; exact HO.out)
    refine ⟨?_, ?_, hc⟩
    · rcases h3 with h | h
      · exact .inl (by rw [← h]; exact HO.out)
      · exact .inr (by omega)
    · rw [hc.block b hbl (fun h => HNe.out (by rw [h]; exact HO.out.symm))]; exact HB.out
  cases one
  · go_enter Try.func40, Try.ntmps40
    go_wp2_with (at_builtin; refine wpList_append_lies _ rfl (.tmp 14) (.tmp 15) 35 rfl (b + 1) 5 i (.int .u8 0) 1 1 Try.underlying35 hi hz0 hz1 hz2 rfl (by decide) v ((bs.length + 7) / 8) _ rfl (hown.alloc _) ⟨w.heap.size, 0, none⟩ 1 1 [.int .u8 0] rfl rfl (cell_one_new _ _ _) ?c2 (by decide) (by unfold maxLen; omega) (by omega) (by simp; omega) (w.heap.size + 1) (by simp) ?_)
    case c2 => intro u hu; simp at hu; subst hu; rfl
    intro g cap w1 hown' hgrow hg _
    obtain ⟨hg, hb1, hc1⟩ := key g cap w1 hgrow hg
    have hbg := (hown'.lt g rfl).1
    obtain ⟨d0, d1, e0, e1⟩ := cells2 hb1
    have HB1 := Lib.hid hb1
    clear hb1 hgrow
    go_wp2
    go_end0
    refine ⟨rfl, wr_close (g := g) (cap := cap) (w2 := w1.setCell ⟨b, 0, none⟩ (.slice (some ⟨g, 0, none⟩) ((bs.length + 7) / 8 + 1) cap)) (by rw [HN.out]; exact set2_0 HB1.out) ?_ ((hc1.mono fun k _ hk => .inr hk).trans (Chg.setCell w1 ⟨b, 0, none⟩ _) (fun k _ hk => .inl hk)) hg⟩
    rw [HN.out, HW.out, ← bv_snoc]
    exact ownsRow_setCell_below hown' (a := ⟨b, 0, none⟩) (by show b < b + 1; omega) _
  · go_enter Try.func40, Try.ntmps40
    go_wp2_with (at_builtin; refine wpList_append_lies _ rfl (.tmp 14) (.tmp 15) 35 rfl (b + 1) 5 i (.int .u8 0) 1 1 Try.underlying35 hi hz0 hz1 hz2 rfl (by decide) v ((bs.length + 7) / 8) _ rfl (hown.alloc _) ⟨w.heap.size, 0, none⟩ 1 1 [.int .u8 0] rfl rfl (cell_one_new _ _ _) ?c2 (by decide) (by unfold maxLen; omega) (by omega) (by simp; omega) (w.heap.size + 1) (by simp) ?_)
    case c2 => intro u hu; simp at hu; subst hu; rfl
    intro g cap w1 hown' hgrow hg _
    obtain ⟨hg, hb1, hc1⟩ := key g cap w1 hgrow hg
    have hbg := (hown'.lt g rfl).1
    obtain ⟨d0, d1, e0, e1⟩ := cells2 hb1
    have HB1 := Lib.hid hb1
    clear hb1 hgrow
    have hb2 := set2_0 (u := .slice (some ⟨g, 0, none⟩) ((bs.length + 7) / 8 + 1) cap) HB1.out
    have hown2 := ownsRow_setCell_below hown' (a := ⟨b, 0, none⟩) (by show b < b + 1; omega) (.slice (some ⟨g, 0, none⟩) ((bs.length + 7) / 8 + 1) cap)
    have hc2 := (hc1.mono fun k _ hk => .inr hk).trans (Chg.setCell w1 ⟨b, 0, none⟩ (.slice (some ⟨g, 0, none⟩) ((bs.length + 7) / 8 + 1) cap)) (S := fun k => k = b ∨ some k = o) (fun k _ hk => .inl hk)
    have HB2 := Lib.hid hb2
    clear hb2
    go_wp2
    generalize w1.setCell ⟨b, 0, none⟩ (.slice (some ⟨g, 0, none⟩) ((bs.length + 7) / 8 + 1) cap) = w2 at *
    clear hown' hc1 d0 d1 e0 e1 HB1
    obtain ⟨d0, d1, e0, e1⟩ := cells2 HB2.out
    go_still_tail 8, (by kernel_rfl)
    change wpList _ _ _ _ _ w2.drew
    go_wp2_with fail
    refine (setBit_row (b + 1) g ((bs.length + 7) / 8 + 1) cap bs.length (pack bs ++ [0]) _ (by rw [← bv_snoc]; exact hown2.drew) (by have := HM.out; omega) (by omega) (by rw [HM.out, List.getD_eq_getElem?_getD, List.getElem?_append_right (by rw [pack_length]; have := HM.out; omega)]; rw [pack_length]; rw [show bs.length / 8 - (bs.length + 7) / 8 = 0 from by omega]; simp)).mono ?_
    rintro e w3 ⟨rfl, hown3, hc3⟩
    have hc3' : Chg (fun k => k = g) w2 w3 := ⟨hc3.os, hc3.tape, hc3.output, hc3.size, hc3.block⟩
    have hb3 := (hc3'.block b (lt_of_block HB2.out) (by omega)).trans HB2.out
    obtain ⟨c0', c1', f0', f1'⟩ := cells2 hb3
    have HB3 := Lib.hid hb3
    clear hb3
    go_wp2
    go_end0
    refine ⟨rfl, wr_close (g := g) (cap := cap) (w2 := w3) (by rw [HN.out]; exact HB3.out) ?_ (hc2.trans hc3' fun k hk hkg => ?_) hg⟩
    · rw [HN.out, HW.out]
      have e1 : (pack bs ++ [0]).getD (bs.length / 8) 0 = 0 := by
        rw [List.getD_eq_getElem?_getD, List.getElem?_append_right (by rw [pack_length]; have := HM.out; omega)]; rw [pack_length]; rw [show bs.length / 8 - (bs.length + 7) / 8 = 0 from by omega]; simp
      have e2 : (pack bs ++ [0]).set (bs.length / 8) 1 = pack bs ++ [1] := by
        rw [show bs.length / 8 = (pack bs).length from by rw [pack_length]; have := HM.out; omega]; simp
      rw [e1, HM.out] at hown3
      simpa [e2] using hown3
    · rcases hg with h | h
      · exact .inr (by rw [hkg]; exact h)
      · omega

theorem putBit_any (b : Nat) (o : Option Nat) (bs : List Bool) (one : Bool) (w : World) (h : Wr w b o bs) (hlen : bs.length < 1000000000) :
    Calls Try.prog 40 #[.pointer (some ⟨b, 0, none⟩), .bool one] w fun e w' => e = .returned (.tuple #[]) ∧ WrTo w w' b o (bs ++ [one]) := by
  by_cases hm : bs.length % 8 = 0
  · exact putBit_new b o bs one w h hlen hm
  · exact putBit_old b o bs one w h hlen hm

end Go.Proofs.Ytgnenelfbmpfgaa

/- What bitw.New, Put, Bits do. -/
namespace Go.Proofs.Ytgnenelfbmpfgaa
open Go.RowKit

theorem wraps_u32 (n : Int) (h0 : 0 ≤ n) (h1 : n < 2 ^ 32) : IntKind.u32.wrap n = n := by rw [IntKind.wrap_u32]; omega

theorem and_one_bit (v k : Nat) (hv : v < 4294967296) : (bits BinOp.and IntKind.u32 ((v : Int) / 2 ^ k) 1 == 1) = decide (v / 2 ^ k % 2 = 1) := by
  have e : ((v : Int) / 2 ^ k) = ((v / 2 ^ k : Nat) : Int) := by simp
  have hl : v / 2 ^ k ≤ v := Nat.div_le_self _ _
  rw [e]
  generalize v / 2 ^ k = y at *
  have h := bits_mask .u32 32 (by decide) wraps_u32 1 (by decide) (y : Int) (by omega) (by omega)
  rw [show (1 : Int) = 2 ^ 1 - 1 from by decide, h]
  rw [Bool.eq_iff_iff]; simp; omega

theorem new_any (w : World) : Calls Try.prog 9 #[] w fun e w' => e = .returned (.pointer (some ⟨w.heap.size, 0, none⟩)) ∧ w.alloc (.cells #[.slice none 0 0, .int .i64 0] 56) = w' := by
  go_enter Try.func9, Try.ntmps9
  go_wp2
  go_ret
  exact ⟨rfl, rfl⟩

theorem new_wr (w : World) : Calls Try.prog 9 #[] w fun e w' => e = .returned (.pointer (some ⟨w.heap.size, 0, none⟩)) ∧ Wr w' w.heap.size none [] ∧ Chg (fun _ => False) w w' := by
  refine (new_any w).mono ?_
  rintro e w' ⟨rfl, rfl⟩
  exact ⟨rfl, ⟨_, heap_alloc_new w _, rfl, World.ownsRow_nil _ _ _ _⟩, Chg.alloc _ w _⟩

theorem bits_any (b : Nat) (o : Option Nat) (bs : List Bool) (w : World) (h : Wr w b o bs) :
    Calls Try.prog 14 #[.pointer (some ⟨b, 0, none⟩)] w fun e w' => e = .returned (.int .i64 (bs.length : Int)) ∧ w = w' := by
  obtain ⟨v, hb, ho, hown⟩ := h
  obtain ⟨c0, c1, f0, f1⟩ := cells2 hb
  clear hb ho hown
  go_enter Try.func14, Try.ntmps14
  go_wp2
  go_ret
  exact ⟨rfl, rfl⟩

theorem put_no (b : Nat) (v n : Int) (w : World) (hn : n < 0 ∨ 24 < n) :
    Calls Try.prog 30 #[.pointer (some ⟨b, 0, none⟩), .int .u32 v, .int .i64 n] w fun e w' => e = .returned (.bool false) ∧ w = w' := by
  by_cases h0 : n < 0
  · have h0' : decide (n < 0) = true := by simpa using h0
    go_enter Try.func30, Try.ntmps30
    go_wp2
    go_ret
    exact ⟨rfl, rfl⟩
  · have h0' : decide (n < 0) = false := by simpa using h0
    have h1' : decide (24 < n) = true := by simp; omega
    go_enter Try.func30, Try.ntmps30
    go_wp2
    go_ret
    exact ⟨rfl, rfl⟩

set_option maxHeartbeats 400000 in
theorem put_yes (b : Nat) (o : Option Nat) (bs : List Bool) (v n : Nat) (w : World) (h : Wr w b o bs) (hlen : bs.length < 900000000) (hv : v < 4294967296) (hn : n ≤ 24) :
    Calls Try.prog 30 #[.pointer (some ⟨b, 0, none⟩), .int .u32 (v : Int), .int .i64 (n : Int)] w fun e w' => e = .returned (.bool true) ∧ WrTo w w' b o (bs ++ bitsOf v n) := by
  have h0' : decide ((n : Int) < 0) = false := by simp
  have h1' : decide (24 < (n : Int)) = false := by simp; omega
  have hst : WrTo w w b o (bs ++ bitsOf v 0) := ⟨o, by simpa [bitsOf] using h, Chg.refl _ _, .inl rfl⟩
  go_enter Try.func30, Try.ntmps30
  go_wp2
  go_loopw [15] (fun i wr => ∃ k : Nat, k ≤ n ∧ i = .int .i64 (k : Int) ∧ WrTo w wr b o (bs ++ bitsOf v k)) (fun i _ => n - (intOf i).toNat)
  case atStart => exact ⟨0, Nat.zero_le _, rfl, hst⟩
  case round =>
    obtain ⟨k, hk, rfl, hwr⟩ := hrel
    by_cases hlt : k < n
    · obtain ⟨o1, hw1, hc1, ho1⟩ := hwr
      go_wp2_with fail
      refine (putBit_any b o1 (bs ++ bitsOf v k) _ wr hw1 (by simp [bitsOf_length]; omega)).mono ?_
      rintro e w2 ⟨rfl, hw2⟩
      have hw2' := WrTo.trans hc1 ho1 hw2
      rw [and_one_bit v k hv, List.append_assoc, show bitsOf v k ++ [decide (v / 2 ^ k % 2 = 1)] = bitsOf v (k + 1) from rfl] at hw2'
      clear hw2 hw1 hc1 ho1
      go_wp2
      go_roundw
      case rel => exact ⟨k + 1, by omega, by go_num, hw2'⟩
      case measure => simp [intOf]; omega
    · obtain rfl : k = n := by omega
      go_wp2
      go_ret
      exact ⟨rfl, hwr⟩

theorem put_any (b : Nat) (o : Option Nat) (bs : List Bool) (v : Nat) (n : Int) (w : World) (h : Wr w b o bs) (hlen : bs.length < 900000000) (hv : v < 4294967296) :
    Calls Try.prog 30 #[.pointer (some ⟨b, 0, none⟩), .int .u32 (v : Int), .int .i64 n] w fun e w' => e = .returned (.bool (decide (0 ≤ n ∧ n ≤ 24))) ∧ WrTo w w' b o (putB bs v n) := by
  by_cases hn : 0 ≤ n ∧ n ≤ 24
  · obtain ⟨m, rfl⟩ := Int.eq_ofNat_of_zero_le hn.1
    refine (put_yes b o bs v m w h hlen hv (by omega)).mono ?_
    rintro e w' ⟨rfl, hw⟩
    rw [show decide (0 ≤ (m : Int) ∧ (m : Int) ≤ 24) = true from decide_eq_true hn, show putB bs v (m : Int) = bs ++ bitsOf v m from by unfold putB; rw [if_pos hn]; rfl]
    exact ⟨rfl, hw⟩
  · refine (put_no b v n w (by omega)).mono ?_
    rintro e w' ⟨rfl, rfl⟩
    rw [show decide (0 ≤ n ∧ n ≤ 24) = false from decide_eq_false hn, show putB bs v n = bs from by unfold putB; rw [if_neg hn]]
    exact ⟨rfl, o, h, Chg.refl _ _, .inl rfl⟩

end Go.Proofs.Ytgnenelfbmpfgaa

/- What bitw's Close tells: memory of its own. -/
namespace Go.Proofs.Ytgnenelfbmpfgaa
open Go.RowKit

/-- The call hands back bytes xs in memory of its own, and nothing that was there has turned. -/
def Fresh (w : World) (xs : List Nat) (e : Ending) (w' : World) : Prop :=
  ∃ g cap, e = .returned (.slice (some ⟨g, 0, none⟩) xs.length cap) ∧ w'.ownsRow w.heap.size 5 1 (.slice (some ⟨g, 0, none⟩) xs.length cap) xs.length (bv xs) ∧ Chg (fun _ => False) w w'

/-- a row that is known whole -/
theorem own_heap {w : World} {base g n : Nat} {e : TypeId} {xs : List Value} (h : w.ownsRow base e 1 (.slice (some ⟨g, 0, none⟩) n n) n xs) : w.heap[g]? = some (.cells xs.toArray e (0, 0)) := by
  rcases h.2 with ⟨h', _⟩ | ⟨g', cap', cur, h', _, hg, _, _, hcs, htake⟩
  · simp at h'
  · simp only [Value.slice.injEq, Option.some.injEq, Addr.mk.injEq, and_true, true_and] at h'
    obtain ⟨rfl, rfl⟩ := h'
    rw [hg, ← htake, List.take_of_length_le (by rw [Array.length_toList, hcs]; omega)]
theorem own_of_heap {w : World} {base g n : Nat} {e : TypeId} {xs : List Value} (hb : base ≤ g) (hn : xs.length = n) (hm : n ≤ maxLen) (h : w.heap[g]? = some (.cells xs.toArray e (0, 0))) : w.ownsRow base e 1 (.slice (some ⟨g, 0, none⟩) n n) n xs :=
  ⟨by omega, .inr ⟨g, n, xs.toArray, rfl, hb, h, Nat.le_refl _, hm, by simp [hn], List.take_of_length_le (by simp; omega)⟩⟩

theorem zeros_length (n : Nat) : (madeCells #[Value.int .u8 0] n).toList.length = n := by simp [madeCells]
theorem zeros_bv (n : Nat) : (madeCells #[Value.int .u8 0] n).toList = bv (List.replicate n 0) := by
  apply List.ext_getElem (by simp [madeCells, bv])
  intro j h1 h2
  simp [madeCells, bv, Nat.mod_one]
theorem Chg.then_below {w w1 w2 : World} (h : Chg (fun _ => False) w w1) (k : Below w.heap.size w1 w2) : Chg (fun _ => False) w w2 :=
  ⟨k.os.trans h.os, k.tape.trans h.tape, k.output.trans h.output, Nat.le_trans h.size k.size, fun i hi hs => (k.block i hi).trans (h.block i hi hs)⟩

theorem splice_all {α : Type} (L cs : List α) (h : L.length = cs.length) : splice L 0 cs = cs := by simp [splice, h]

theorem bv_one (xs : List Nat) : ∀ u ∈ bv xs, u.oneCell' = true := by
  intro u hu
  simp only [bv, List.mem_map] at hu
  obtain ⟨x, _, rfl⟩ := hu
  rfl

theorem own_src {w : World} {base : Nat} {e : TypeId} {v : Value} {n : Nat} {xs : List Value} (h : w.ownsRow base e 1 v n xs) : ∃ ao cap, v = .slice ao n cap ∧ (0 < xs.length → ∃ ad, ao = some ad ∧ ∀ j u, xs[j]? = some u → w.cell? (ad.add j) = some u) := by
  rcases h.2 with ⟨rfl, rfl⟩ | ⟨g, cap, cur, rfl, hb, _⟩
  · exact ⟨none, 0, rfl, fun hp => by have := h.1; omega⟩
  · exact ⟨some ⟨g, 0, none⟩, cap, rfl, fun _ => ⟨_, rfl, h.cells rfl⟩⟩

theorem Try.sizeU8 : (Try.prog.info? 5).map (·.size) = some 1 := by kernel_rfl

theorem close_math (bs : List Bool) (n : Nat) (hn : n = bs.length / 8 + 1) :
    ((pack bs ++ List.replicate (n - (pack bs).length) 0).getD (bs.length / 8) 0 < 2 ^ (bs.length % 8)) ∧
    (pack bs ++ List.replicate (n - (pack bs).length) 0).set (bs.length / 8) ((pack bs ++ List.replicate (n - (pack bs).length) 0).getD (bs.length / 8) 0 + 2 ^ (bs.length % 8)) = pack (bs ++ [true]) := by
  by_cases hm : bs.length % 8 = 0
  · have e1 : (pack bs).length = bs.length / 8 := by rw [pack_length]; omega
    have e2 : n - bs.length / 8 = 1 := by omega
    rw [pack_snoc_new bs true hm, e1, e2, hm]
    have e3 : (pack bs ++ List.replicate 1 0).getD (bs.length / 8) 0 = 0 := by
      rw [List.getD_eq_getElem?_getD, List.getElem?_append_right (by omega), e1]; simp
    rw [e3]
    refine ⟨by decide, ?_⟩
    rw [← e1]; simp
  · have e1 : (pack bs).length = bs.length / 8 + 1 := by rw [pack_length]; omega
    have e2 : n - (bs.length / 8 + 1) = 0 := by omega
    rw [pack_snoc_old bs true hm, e1, e2]
    have e3 : (pack bs ++ List.replicate 0 0).getD (bs.length / 8) 0 = byteAt bs (bs.length / 8) := by
      simp only [List.replicate_zero, List.append_nil]
      rw [List.getD_eq_getElem?_getD, pack_getElem? bs _ (by omega)]; rfl
    rw [e3]
    exact ⟨byteAt_last_lt bs, by simp⟩

theorem splice_front {α : Type} (L cs : List α) : splice L 0 cs = cs ++ L.drop cs.length := by simp [splice]

end Go.Proofs.Ytgnenelfbmpfgaa

/- Bytes that are read off memory; what puncheonref01.Same tells. -/
namespace Go.Proofs.Ytgnenelfbmpfgaa
open Go.RowKit

/-- The value v is a slice of the bytes xs. -/
def RdB (w : World) (v : Value) (xs : List Nat) : Prop :=
  (xs = [] ∧ ∃ ao c, v = .slice ao 0 c) ∨ ∃ g off cap, v = .slice (some ⟨g, off, none⟩) xs.length cap ∧ ∀ j, j < xs.length → w.cell? ⟨g, off + j, none⟩ = some (.int .u8 ((xs.getD j 0 : Nat) : Int))

def strB (xs : List Nat) : ByteArray := strOfNums (xs.map fun n : Nat => (n : Int))

theorem strB_toList (xs : List Nat) : (strB xs).data.toList = xs.map UInt8.ofNat := by
  rw [strB, strOfNums_data, List.map_map]; rfl

theorem map_ofNat_inj : ∀ (xs ys : List Nat), (∀ x ∈ xs, x < 256) → (∀ y ∈ ys, y < 256) → xs.map UInt8.ofNat = ys.map UInt8.ofNat → xs = ys
  | [], [], _, _, _ => rfl
  | [], _ :: _, _, _, h => by simp at h
  | _ :: _, [], _, _, h => by simp at h
  | x :: xs, y :: ys, hx, hy, h => by
    simp only [List.map_cons, List.cons.injEq] at h
    have h1 : x = y := by
      have := congrArg UInt8.toNat h.1
      have hx0 := hx x (by simp); have hy0 := hy y (by simp)
      simp at this; omega
    rw [h1, map_ofNat_inj xs ys (fun z hz => hx z (by simp [hz])) (fun z hz => hy z (by simp [hz])) h.2]

theorem str_beq (xs ys : List Nat) (hx : ∀ x ∈ xs, x < 256) (hy : ∀ y ∈ ys, y < 256) : ((strB xs).toList == (strB ys).toList) = decide (xs = ys) := by
  rw [ByteArray.toList_eq, ByteArray.toList_eq, strB_toList, strB_toList, Bool.eq_iff_iff, beq_iff_eq, decide_eq_true_iff]
  exact ⟨map_ofNat_inj xs ys hx hy, fun h => by rw [h]⟩

theorem run_conv {w : World} {v : Value} {xs : List Nat} (h : RdB w v xs) : (convert 35 9 v).run Try.prog w = .ok (.string (strB xs)) w := by
  rcases h with ⟨rfl, ao, c, rfl⟩ | ⟨g, off, cap, rfl, hc⟩
  · rw [run_convert_bytes_string w 35 9 5 ao 0 c Try.underlying35 Try.underlying5 Try.underlying9]
    cases ao with
    | none => simp [Conv.bytesToString]; rfl
    | some a =>
      have hl : (loadCells a 0).run Try.prog w = .ok #[] w := run_loadCells_list (P := Try.prog) w a [] (fun j v hj => by simp at hj)
      simp [Conv.bytesToString, hl]
      rfl
  · refine run_convert_bytes_arg (P := Try.prog) w 35 5 Try.underlying35 Try.underlying5 g off xs.length cap _ (by simp) (fun i hi => ?_) 9 Try.underlying9
    rw [hc i hi]; simp [List.getD_eq_getElem?_getD, List.getElem?_eq_getElem hi]

theorem RdB.of_own {w : World} {base : Nat} {v : Value} {n : Nat} {xs : List Nat} (h : w.ownsRow base 5 1 v n (bv xs)) : RdB w v xs := by
  have hl := h.1
  rw [bv_length] at hl
  rcases h.2 with ⟨rfl, rfl⟩ | ⟨g, cap, cur, rfl, _⟩
  · exact .inl ⟨List.eq_nil_of_length_eq_zero (by omega), none, 0, rfl⟩
  · refine .inr ⟨g, 0, cap, by simp [hl], fun j hj => ?_⟩
    rw [Nat.zero_add, h.cellAt j (by omega), bv_get xs j hj]

theorem RdB.kept {S : Nat → Prop} {w w' : World} {v : Value} {xs : List Nat} (h : RdB w v xs) (hc : Chg S w w') (hS : ∀ k, v.ownBlock = some k → ¬ S k) : RdB w' v xs := by
  rcases h with h | ⟨g, off, cap, rfl, hcell⟩
  · exact .inl h
  · refine .inr ⟨g, off, cap, rfl, fun j hj => ?_⟩
    have := hcell j hj
    have hlt : g < w.heap.size := block_lt_of_cell this
    rw [World.cell?_of_block (w := w) (hc.block g hlt (hS g rfl))]; exact this

set_option maxHeartbeats 400000 in
theorem same_any (v1 v2 : Value) (xs ys : List Nat) (w : World) (h1 : RdB w v1 xs) (h2 : RdB w v2 ys) (hx : ∀ x ∈ xs, x < 256) (hy : ∀ y ∈ ys, y < 256) :
    Calls Try.prog 15 #[v1, v2] w fun e w' => e = .returned (.bool (decide (xs = ys))) ∧ w = w' := by
  have r1 := run_conv h1
  have r2 := run_conv h2
  have HX := Lib.hid hx; have HY := Lib.hid hy
  clear h1 h2 hx hy
  go_enter Try.func15, Try.ntmps15
  go_wp2
  go_ret
  exact ⟨congrArg (fun b => Ending.returned (Value.bool b)) (str_beq xs ys HX.out HY.out), rfl⟩

end Go.Proofs.Ytgnenelfbmpfgaa

/- Plain mathematics (no program): the bits of bytes, the mark, numbers out of bits. -/
namespace Go.Proofs.Ytgnenelfbmpfgaa

theorem val_bitsOf (v n : Nat) : val (bitsOf v n) = v % 2 ^ n := by
  induction n with
  | zero => simp [bitsOf, val, Nat.mod_one]
  | succ n ih =>
    rw [bitsOf, val_append, ih, bitsOf_length, Nat.mod_pow_succ]
    congr 2
    have := Nat.mod_two_eq_zero_or_one (v / 2 ^ n)
    rcases this with h | h <;> simp [val, h]

theorem val_zeros (l : List Bool) (k : Nat) : val (l ++ List.replicate k false) = val l := by
  rw [val_append]
  have : val (List.replicate k false) = 0 := by
    induction k with
    | zero => rfl
    | succ k ih => simp [List.replicate_succ, val, ih]
  rw [this]; simp

theorem val_div (l : List Bool) (i : Nat) : val l / 2 ^ i = val (l.drop i) := by
  by_cases h : i ≤ l.length
  · have e : val l = val (l.take i) + 2 ^ i * val (l.drop i) := by
      conv => lhs; rw [← List.take_append_drop i l, val_append]
      rw [List.length_take, Nat.min_eq_left h]
    have h1 := val_lt (l.take i)
    rw [List.length_take, Nat.min_eq_left h] at h1
    rw [e, Nat.add_mul_div_left _ _ (Nat.pow_pos (by omega)), Nat.div_eq_of_lt h1, Nat.zero_add]
  · rw [List.drop_eq_nil_of_le (by omega)]
    have h1 := val_lt l
    have h2 : 2 ^ l.length ≤ 2 ^ i := Nat.pow_le_pow_right (by omega) (by omega)
    rw [Nat.div_eq_of_lt (by omega)]; rfl

theorem val_odd (l : List Bool) : decide (val l % 2 = 1) = l.getD 0 false := by
  cases l with
  | nil => rfl
  | cons b r =>
    have e : val (b :: r) % 2 = b.toNat := by
      simp only [val]
      cases b <;> simp <;> omega
    rw [e]; cases b <;> rfl

theorem val_bit (l : List Bool) (i : Nat) : decide (val l / 2 ^ i % 2 = 1) = l.getD i false := by
  rw [val_div, val_odd]
  simp [List.getD_eq_getElem?_getD]

theorem bitsOf_val (l : List Bool) : bitsOf (val l) l.length = l := by
  apply List.ext_getElem (by rw [bitsOf_length])
  intro i h1 h2
  rw [bitsOf_getElem, val_bit, List.getD_eq_getElem?_getD, List.getElem?_eq_getElem h2]; rfl

/-- the bits of bytes, each byte's lowest first -/
def bitsB : List Nat → List Bool
  | [] => []
  | x :: r => bitsOf x 8 ++ bitsB r

theorem bitsB_length (xs : List Nat) : (bitsB xs).length = 8 * xs.length := by
  induction xs with
  | nil => rfl
  | cons x r ih => simp [bitsB, bitsOf_length, ih]; omega

theorem bitsB_append (xs ys : List Nat) : bitsB (xs ++ ys) = bitsB xs ++ bitsB ys := by
  induction xs with
  | nil => rfl
  | cons x r ih => simp [bitsB, ih]

theorem bitsB_get (xs : List Nat) (i : Nat) (h : i < 8 * xs.length) : (bitsB xs)[i]? = some (decide (xs.getD (i / 8) 0 / 2 ^ (i % 8) % 2 = 1)) := by
  induction xs generalizing i with
  | nil => simp at h
  | cons x r ih =>
    simp only [bitsB]
    by_cases hi : i < 8
    · rw [List.getElem?_append_left (by rw [bitsOf_length]; exact hi), List.getElem?_eq_getElem (by rw [bitsOf_length]; exact hi), bitsOf_getElem]
      rw [show i / 8 = 0 from by omega, show i % 8 = i from by omega]; rfl
    · rw [List.getElem?_append_right (by rw [bitsOf_length]; omega), bitsOf_length, ih (i - 8) (by simp at h; omega)]
      rw [show i / 8 = (i - 8) / 8 + 1 from by omega, show (i - 8) % 8 = i % 8 from by omega]; rfl

theorem pack_bitsB (xs : List Nat) (h : ∀ x ∈ xs, x < 256) : pack (bitsB xs) = xs := by
  induction xs with
  | nil => rfl
  | cons x r ih =>
    simp only [bitsB]
    rw [pack_append _ _ (by rw [bitsOf_length]), ih (fun y hy => h y (by simp [hy]))]
    have e : pack (bitsOf x 8) = [x] := by
      have hx := h x (by simp)
      have hv : byteAt (bitsOf x 8) 0 = x := by
        unfold byteAt
        rw [Nat.mul_zero, List.drop_zero, List.take_of_length_le (by rw [bitsOf_length]; exact Nat.le_refl _), val_bitsOf, Nat.mod_eq_of_lt (by omega)]
      unfold pack
      rw [bitsOf_length]
      show List.map (byteAt (bitsOf x 8)) (List.range 1) = [x]
      simp [List.range_succ, hv]
    rw [e]; rfl

theorem bitsB_pack (bs : List Bool) : bitsB (pack bs) = bs ++ List.replicate (8 * ((bs.length + 7) / 8) - bs.length) false := by
  apply List.ext_getElem?
  intro i
  by_cases h : i < 8 * ((bs.length + 7) / 8)
  · rw [bitsB_get _ _ (by rw [pack_length]; exact h), List.getD_eq_getElem?_getD, pack_getElem? _ _ (by omega), Option.getD_some]
    unfold byteAt
    rw [val_bit]
    by_cases hi : i < bs.length
    · rw [List.getElem?_append_left hi, List.getElem?_eq_getElem hi, List.getD_eq_getElem?_getD, List.getElem?_take, if_pos (by omega), List.getElem?_drop, show 8 * (i / 8) + i % 8 = i from by omega, List.getElem?_eq_getElem hi]; rfl
    · rw [List.getElem?_append_right (by omega), List.getElem?_replicate, if_pos (by omega), List.getD_eq_getElem?_getD, List.getElem?_take, if_pos (by omega), List.getElem?_drop, show 8 * (i / 8) + i % 8 = i from by omega, List.getElem?_eq_none (by omega)]; rfl
  · rw [List.getElem?_eq_none (by rw [bitsB_length, pack_length]; omega), List.getElem?_eq_none (by simp; omega)]

theorem byteAt_zeros (l : List Bool) (k j : Nat) : byteAt (l ++ List.replicate k false) j = byteAt l j := by
  unfold byteAt
  rw [List.drop_append, List.take_append, List.drop_replicate, List.take_replicate, val_zeros]

theorem pack_zeros (l : List Bool) (k : Nat) (h : (l.length + k + 7) / 8 = (l.length + 7) / 8) : pack (l ++ List.replicate k false) = pack l := by
  apply List.ext_getElem (by simp [pack_length, h])
  intro j h1 h2
  rw [pack_getElem, pack_getElem, byteAt_zeros]

/-- how many bits a byte needs -/
def len8 (x : Nat) : Nat := if x = 0 then 0 else Nat.log2 x + 1

theorem len8_facts : ∀ x, x < 256 → x ≠ 0 → 1 ≤ len8 x ∧ len8 x ≤ 8 ∧ x / 2 ^ (len8 x - 1) % 2 = 1 ∧ ∀ j, j < 8 → len8 x ≤ j → x / 2 ^ j % 2 = 0 := by decide +kernel

/-- where the mark stands -/
def markPos (xs : List Nat) : Nat := 8 * (xs.length - 1) + len8 (xs.getD (xs.length - 1) 0) - 1
def openB (xs : List Nat) : List Bool := (bitsB xs).take (markPos xs)

theorem getD_lt (xs : List Nat) (h : ∀ x ∈ xs, x < 256) (i : Nat) : xs.getD i 0 < 256 := by
  rw [List.getD_eq_getElem?_getD]
  by_cases hi : i < xs.length
  · rw [List.getElem?_eq_getElem hi]; exact h _ (List.getElem_mem hi)
  · rw [List.getElem?_eq_none (by omega)]; decide

theorem markPos_lt (xs : List Nat) (hb : ∀ x ∈ xs, x < 256) (h0 : xs ≠ []) (hl : xs.getD (xs.length - 1) 0 ≠ 0) : 8 * (xs.length - 1) ≤ markPos xs ∧ markPos xs < 8 * xs.length := by
  have hn : 0 < xs.length := List.length_pos_iff.2 h0
  obtain ⟨f1, f2, _⟩ := len8_facts _ (getD_lt xs hb (xs.length - 1)) hl
  unfold markPos; omega

theorem openB_length (xs : List Nat) (hb : ∀ x ∈ xs, x < 256) (h0 : xs ≠ []) (hl : xs.getD (xs.length - 1) 0 ≠ 0) : (openB xs).length = markPos xs := by
  have := markPos_lt xs hb h0 hl
  unfold openB; rw [List.length_take, bitsB_length]; omega

theorem mark_split (xs : List Nat) (hb : ∀ x ∈ xs, x < 256) (h0 : xs ≠ []) (hl : xs.getD (xs.length - 1) 0 ≠ 0) :
    bitsB xs = openB xs ++ true :: List.replicate (8 * xs.length - markPos xs - 1) false := by
  have hn : 0 < xs.length := List.length_pos_iff.2 h0
  have hm := markPos_lt xs hb h0 hl
  have hlen := openB_length xs hb h0 hl
  obtain ⟨f1, f2, f3, f4⟩ := len8_facts _ (getD_lt xs hb (xs.length - 1)) hl
  have em : markPos xs = 8 * (xs.length - 1) + len8 (xs.getD (xs.length - 1) 0) - 1 := rfl
  generalize len8 (xs.getD (xs.length - 1) 0) = L at *
  apply List.ext_getElem?
  intro i
  by_cases hi : i < markPos xs
  · rw [List.getElem?_append_left (by omega)]
    unfold openB
    rw [List.getElem?_take, if_pos hi]
  · rw [List.getElem?_append_right (by omega), hlen]
    by_cases he : i = markPos xs
    · rw [he, Nat.sub_self, bitsB_get _ _ (by omega), show markPos xs / 8 = xs.length - 1 from by omega, show markPos xs % 8 = L - 1 from by omega, f3]; rfl
    · by_cases hb2 : i < 8 * xs.length
      · rw [bitsB_get _ _ hb2, show i / 8 = xs.length - 1 from by omega, f4 (i % 8) (by omega) (by omega)]
        rw [show i - markPos xs = (i - markPos xs - 1) + 1 from by omega, List.getElem?_cons_succ, List.getElem?_replicate, if_pos (by omega)]; rfl
      · rw [List.getElem?_eq_none (by rw [bitsB_length]; omega), List.getElem?_eq_none (by simp; omega)]

theorem mark_unique (a b : List Bool) (k m : Nat) (h : a ++ true :: List.replicate k false = b ++ true :: List.replicate m false) : a = b := by
  have key : ∀ (l : List Bool) (n : Nat), (l ++ true :: List.replicate n false).reverse.dropWhile (fun x => !x) = true :: l.reverse := by
    intro l n
    rw [List.reverse_append, List.reverse_cons, List.reverse_replicate, List.append_assoc]
    induction n with
    | zero => simp
    | succ n _ => simp [List.replicate_succ]
  have h1 := key a k
  rw [h, key b m] at h1
  simp at h1
  exact h1.symm

theorem close_last (bs : List Bool) : (pack (bs ++ [true])).length = bs.length / 8 + 1 ∧ (pack (bs ++ [true])).getD ((pack (bs ++ [true])).length - 1) 0 ≠ 0 ∧ pack (bs ++ [true]) ≠ [] := by
  have el : (pack (bs ++ [true])).length = bs.length / 8 + 1 := by rw [pack_length]; simp; omega
  refine ⟨el, ?_, fun h => by rw [h] at el; simp at el⟩
  rw [el, Nat.add_sub_cancel, List.getD_eq_getElem?_getD, pack_getElem? _ _ (by simp; omega), Option.getD_some]
  intro h
  have := mark_byte bs
  rw [h] at this; simp at this

theorem openB_close (bs : List Bool) : openB (pack (bs ++ [true])) = bs := by
  obtain ⟨el, hl, h0⟩ := close_last bs
  have hs := mark_split _ (pack_lt _) h0 hl
  rw [bitsB_pack, List.append_assoc] at hs
  exact (mark_unique _ _ _ _ hs).symm

theorem pack_openB (xs : List Nat) (hb : ∀ x ∈ xs, x < 256) (h0 : xs ≠ []) (hl : xs.getD (xs.length - 1) 0 ≠ 0) : pack (openB xs ++ [true]) = xs := by
  have hn : 0 < xs.length := List.length_pos_iff.2 h0
  have hs := mark_split xs hb h0 hl
  have hm := markPos_lt xs hb h0 hl
  have hlen := openB_length xs hb h0 hl
  have e := pack_bitsB xs hb
  rw [hs, show openB xs ++ true :: List.replicate (8 * xs.length - markPos xs - 1) false = (openB xs ++ [true]) ++ List.replicate (8 * xs.length - markPos xs - 1) false from by simp, pack_zeros _ _ (by simp [hlen]; omega)] at e
  exact e

/-- what Take tells, and what it leaves -/
def takeV (bs : List Bool) (n : Nat) : Nat := val (bs.drop (bs.length - n))
def takeR (bs : List Bool) (n : Nat) : List Bool := bs.take (bs.length - n)

theorem takeV_lt (bs : List Bool) (n : Nat) : takeV bs n < 2 ^ n := by
  have h := val_lt (bs.drop (bs.length - n))
  have h2 : 2 ^ (bs.drop (bs.length - n)).length ≤ 2 ^ n := Nat.pow_le_pow_right (by omega) (by simp; omega)
  unfold takeV; omega

theorem takeR_length (bs : List Bool) (n : Nat) : (takeR bs n).length = bs.length - n := by simp [takeR]

theorem drop_split (l : List Bool) (a b : Nat) (h : a ≤ b) (hb : b ≤ l.length) : l.drop a = (l.take b).drop a ++ l.drop b := by
  conv => lhs; rw [← List.take_append_drop b l, List.drop_append]
  rw [List.length_take, Nat.min_eq_left hb, Nat.sub_eq_zero_of_le h, List.drop_zero]

theorem take_split (bs : List Bool) (k c : Nat) (hk : k ≤ bs.length) (hc : c ≤ k) : takeV bs k = takeV (takeR bs c) (k - c) + 2 ^ (k - c) * takeV bs c ∧ takeR bs k = takeR (takeR bs c) (k - c) := by
  unfold takeV takeR
  rw [List.length_take, Nat.min_eq_left (by omega), show bs.length - c - (k - c) = bs.length - k from by omega]
  refine ⟨?_, by rw [List.take_take, Nat.min_eq_left (by omega)]⟩
  have e := drop_split bs (bs.length - k) (bs.length - c) (by omega) (by omega)
  rw [e, val_append]
  congr 2
  simp; congr 1; omega

theorem take_put (bs : List Bool) (v n : Nat) : takeV (bs ++ bitsOf v n) n = v % 2 ^ n ∧ takeR (bs ++ bitsOf v n) n = bs := by
  unfold takeV takeR
  rw [List.length_append, bitsOf_length, Nat.add_sub_cancel]
  rw [List.drop_left, List.take_left]
  exact ⟨val_bitsOf v n, rfl⟩

end Go.Proofs.Ytgnenelfbmpfgaa

/- A bitr.Reader in memory; what bitr's Len8, bitAt, markAt, Left do. -/
namespace Go.Proofs.Ytgnenelfbmpfgaa
open Go.RowKit

theorem len8_le (x : Nat) (h : x < 256) : len8 x ≤ 8 := bitLen_le8 x h

theorem and_one (y : Nat) (hy : y < 4294967296) : bits BinOp.and IntKind.u32 (y : Int) 1 = ((y % 2 : Nat) : Int) := by
  have h := bits_mask .u32 32 (by decide) wraps_u32 1 (by decide) (y : Int) (by omega) (by omega)
  rw [show (1 : Int) = 2 ^ 1 - 1 from by decide, h]
  simp

theorem row_cells {w : World} {g : Nat} {t : TypeId} {xs : List Nat} (h : w.heap[g]? = some (.cells (bv xs).toArray t (0, 0))) (j : Nat) (hj : j < xs.length) : w.cell? ⟨g, j, none⟩ = some (.int .u8 ((xs.getD j 0 : Nat) : Int)) := by
  rw [cell_of_row w g j _ t _ h, List.getElem?_toArray, bv_get xs j hj]

theorem bits_or_nat (k : IntKind) (hk : ∀ n : Int, 0 ≤ n → n < 2 ^ k.bits → k.wrap n = n) (a b : Nat) (ha : a < 2 ^ k.bits) (hb : b < 2 ^ k.bits) : bits .or k a b = ((a ||| b : Nat) : Int) := by
  simp only [bits, BitVec.ofInt_natCast, BitVec.toNat_or, BitVec.toNat_ofNat, Nat.mod_eq_of_lt ha, Nat.mod_eq_of_lt hb]
  exact hk _ (Int.natCast_nonneg _) (by exact_mod_cast Nat.or_lt_two_pow ha hb)

theorem or_shift (v i y : Nat) (hv : v < 2 ^ i) (hi : i ≤ 24) (hy : y < 2) : bits .or .u32 (v : Int) ((y : Int) * 2 ^ i % 4294967296) = ((v + y * 2 ^ i : Nat) : Int) := by
  have hp : 2 ^ i ≤ 2 ^ 24 := Nat.pow_le_pow_right (by omega) hi
  have hlt : y * 2 ^ i ≤ 2 ^ 24 := by
    have : y * 2 ^ i ≤ 1 * 2 ^ i := Nat.mul_le_mul_right _ (by omega)
    omega
  have e : ((y : Int) * 2 ^ i % 4294967296) = ((y * 2 ^ i : Nat) : Int) := by
    have e1 : ((y : Int) * 2 ^ i) = ((y * 2 ^ i : Nat) : Int) := by simp
    rw [e1]
    generalize y * 2 ^ i = z at *
    omega
  rw [e, bits_or_nat .u32 wraps_u32 v _ (by simp only [IntKind.bits]; omega) (by simp only [IntKind.bits]; omega)]
  congr 1
  have := Nat.two_pow_add_eq_or_of_lt hv y
  rw [Nat.or_comm, Nat.mul_comm y, ← this, Nat.add_comm]

theorem val_take_succ (D : List Bool) (i : Nat) (h : i < D.length) : val (D.take (i + 1)) = val (D.take i) + (D[i]).toNat * 2 ^ i := by
  rw [List.take_succ_eq_append_getElem h, val_append]
  simp only [val, List.length_take, Nat.min_eq_left (Nat.le_of_lt h)]
  simp [Nat.mul_comm]

theorem val_take_lt (D : List Bool) (i : Nat) : val (D.take i) < 2 ^ i := by
  have h := val_lt (D.take i)
  have h2 : 2 ^ (D.take i).length ≤ 2 ^ i := Nat.pow_le_pow_right (by omega) (List.length_take_le _ _)
  omega

theorem toNat_bit (y : Nat) (b : Bool) (h : b = decide (y % 2 = 1)) : y % 2 = b.toNat := by
  subst h
  have := Nat.mod_two_eq_zero_or_one y
  rcases this with h | h <;> simp [h]

end Go.Proofs.Ytgnenelfbmpfgaa

/- What bitr.New tells. -/
namespace Go.Proofs.Ytgnenelfbmpfgaa
open Go.RowKit

/-- there is a mark -/
def Marked (xs : List Nat) : Prop := xs ≠ [] ∧ xs.getD (xs.length - 1) 0 ≠ 0

instance (xs : List Nat) : Decidable (Marked xs) := by unfold Marked; infer_instance

end Go.Proofs.Ytgnenelfbmpfgaa

/- What puncheonlaw02.awake tells: the chapter's example holds. -/
namespace Go.Proofs.Ytgnenelfbmpfgaa
open Go.RowKit

theorem ex_open : openB [45] = [true, false, true, true, false] := by decide +kernel
theorem ex_take : takeV [true, false, true, true, false] 2 = 1 ∧ takeR [true, false, true, true, false] 2 = [true, false, true] ∧ takeV [true, false, true] 3 = 5 ∧ takeR [true, false, true] 3 = [] := by decide +kernel

theorem one_rdb (w : World) (x : Nat) : RdB (w.alloc (.cells #[.int .u8 (x : Int)] 5)) (.slice (some ⟨w.heap.size, 0, none⟩) 1 1) [x] := by
  refine .inr ⟨w.heap.size, 0, 1, rfl, fun j hj => ?_⟩
  have : j = 0 := by simpa using hj
  subst this
  rw [cell_of_row _ _ 0 _ _ _ (heap_alloc_new w _)]; rfl

end Go.Proofs.Ytgnenelfbmpfgaa

/- The walk of BitrSplits. -/
namespace Go.Proofs.Ytgnenelfbmpfgaa
open Go.RowKit

theorem RdB.form {w : World} {v : Value} {xs : List Nat} (h : RdB w v xs) : ∃ ao cap, v = .slice ao xs.length cap := by
  rcases h with ⟨rfl, ao, c, rfl⟩ | ⟨g, off, cap, rfl, _⟩
  · exact ⟨ao, c, rfl⟩
  · exact ⟨_, cap, rfl⟩

theorem or_high (hi lo j : Nat) (hlo : lo < 2 ^ j) (hb : lo + 2 ^ j * hi < 4294967296) : bits .or .u32 ((hi : Int) * 2 ^ j % 4294967296) (lo : Int) = ((lo + 2 ^ j * hi : Nat) : Int) := by
  have e : ((hi : Int) * 2 ^ j % 4294967296) = ((2 ^ j * hi : Nat) : Int) := by
    have e1 : ((hi : Int) * 2 ^ j) = ((2 ^ j * hi : Nat) : Int) := by simp [Int.mul_comm]
    rw [e1]
    generalize 2 ^ j * hi = z at *
    omega
  rw [e, bits_or_nat .u32 wraps_u32 _ lo (by simp only [IntKind.bits]; omega) (by simp only [IntKind.bits]; omega)]
  congr 1
  have := Nat.two_pow_add_eq_or_of_lt hlo hi
  omega

end Go.Proofs.Ytgnenelfbmpfgaa

/- A slice of parts that is read; all parts put; a Writer of the call's own. -/
namespace Go.Proofs.Ytgnenelfbmpfgaa
open Go.RowKit

/-- The value is a slice of the parts ps (a number and how many bits), none of them beyond its kind. -/
structure RdP (w : World) (v : Value) (ps : List (Nat × Int)) : Prop where
  form : ∃ ao cap, v = .slice ao ps.length cap ∧ (0 < ps.length → ∃ g off, ao = some ⟨g, off, none⟩)
  cells : ∀ g off n cap, v = .slice (some ⟨g, off, none⟩) n cap → ∀ i (h : i < ps.length), w.cell? ⟨g, off + i * 2, none⟩ = some (.int .u32 (ps[i].1 : Int)) ∧ w.cell? ⟨g, off + i * 2 + 1, none⟩ = some (.int .i64 ps[i].2)
  wf : ∀ p ∈ ps, p.1 < 4294967296

theorem RdP.kept {S : Nat → Prop} {w w' : World} {v : Value} {ps : List (Nat × Int)} (h : RdP w v ps) (hc : Chg S w w') (hS : ∀ k, v.ownBlock = some k → ¬ S k) : RdP w' v ps := by
  refine ⟨h.form, fun g off n cap hv i hi => ?_, h.wf⟩
  have hh := h.cells g off n cap hv i hi
  have hlt : g < w.heap.size := block_lt_of_cell hh.1
  have hb := hc.block g hlt (hS g (by rw [hv]; rfl))
  rw [World.cell?_of_block (w := w) (a := ⟨g, off + i * 2, none⟩) hb, World.cell?_of_block (w := w) (a := ⟨g, off + i * 2 + 1, none⟩) hb]
  exact hh

theorem Wr.drew {w : World} {b : Nat} {o : Option Nat} {bs : List Bool} (h : Wr w b o bs) : Wr w.drew b o bs := h

/-- all parts put, one behind the other -/
def putAll (bs : List Bool) : List (Nat × Int) → List Bool
  | [] => bs
  | p :: r => putAll (putB bs p.1 p.2) r

theorem putAll_append (bs : List Bool) (a b : List (Nat × Int)) : putAll bs (a ++ b) = putAll (putAll bs a) b := by
  induction a generalizing bs with
  | nil => rfl
  | cons p r ih => exact ih _

theorem putAll_succ (bs : List Bool) (ps : List (Nat × Int)) (k : Nat) (h : k < ps.length) : putAll bs (ps.take (k + 1)) = putB (putAll bs (ps.take k)) ps[k].1 ps[k].2 := by
  rw [List.take_succ_eq_append_getElem h, putAll_append]; rfl

theorem putAll_length (bs : List Bool) (ps : List (Nat × Int)) : bs.length ≤ (putAll bs ps).length ∧ (putAll bs ps).length ≤ bs.length + 24 * ps.length := by
  induction ps generalizing bs with
  | nil => simp [putAll]
  | cons p r ih =>
    have h1 := putB_length bs p.1 p.2
    have h2 := ih (putB bs p.1 p.2)
    simp only [putAll, List.length_cons]; omega

/-- A Writer of the call's own: all of it lies from B on. -/
def Own (B : Nat) (w : World) (b : Nat) (bs : List Bool) : Prop := ∃ o, Wr w b o bs ∧ B ≤ b ∧ ∀ k, o = some k → B ≤ k

theorem put_int (b : Nat) (o : Option Nat) (bs : List Bool) (v n : Int) (w : World) (h : Wr w b o bs) (hlen : bs.length < 900000000) (hv0 : 0 ≤ v) (hv : v < 4294967296) :
    Calls Try.prog 30 #[.pointer (some ⟨b, 0, none⟩), .int .u32 v, .int .i64 n] w fun e w' => e = .returned (.bool (decide (0 ≤ n ∧ n ≤ 24))) ∧ WrTo w w' b o (putB bs v.toNat n) := by
  obtain ⟨u, rfl⟩ := Int.eq_ofNat_of_zero_le hv0
  rw [Int.toNat_natCast]
  exact put_any b o bs u n w h hlen (by omega)

theorem put_in (b : Nat) (o : Option Nat) (bs : List Bool) (v n : Int) (w : World) (h : Wr w b o bs) (hlen : bs.length < 900000000) (hv0 : 0 ≤ v) (hv : v < 4294967296) (hn0 : 0 ≤ n) (hn : n ≤ 24) :
    Calls Try.prog 30 #[.pointer (some ⟨b, 0, none⟩), .int .u32 v, .int .i64 n] w fun e w' => e = .returned (.bool true) ∧ ∃ o', Wr w' b o' (bs ++ bitsOf v.toNat n.toNat) ∧ Chg (fun k => k = b ∨ some k = o) w w' ∧ (o' = o ∨ ∃ k, o' = some k ∧ w.heap.size ≤ k) := by
  refine (put_int b o bs v n w h hlen hv0 hv).mono ?_
  rintro e w' ⟨rfl, ht⟩
  rw [show decide (0 ≤ n ∧ n ≤ 24) = true from decide_eq_true ⟨hn0, hn⟩]
  unfold putB at ht
  rw [if_pos ⟨hn0, hn⟩] at ht
  exact ⟨rfl, ht⟩

theorem Own.to {B : Nat} {w w' : World} {b : Nat} {o : Option Nat} {bs : List Bool} (h : WrTo w w' b o bs) (hB : B ≤ b) (ho : ∀ k, o = some k → B ≤ k) (hs : B ≤ w.heap.size) : Own B w' b bs ∧ Chg (fun k => B ≤ k) w w' := by
  obtain ⟨o', hw, hc, ho'⟩ := h
  refine ⟨⟨o', hw, hB, fun k hk => ?_⟩, hc.mono fun k _ hk => ?_⟩
  · rcases ho' with rfl | ⟨j, rfl, hj⟩
    · exact ho k hk
    · simp only [Option.some.injEq] at hk; omega
  · rcases hk with rfl | hk
    · exact hB
    · exact ho k hk.symm

theorem put_own (B b : Nat) (bs : List Bool) (v n : Int) (w : World) (h : Own B w b bs) (hs : B ≤ w.heap.size) (hlen : bs.length < 900000000) (hv0 : 0 ≤ v) (hv : v < 4294967296) :
    Calls Try.prog 30 #[.pointer (some ⟨b, 0, none⟩), .int .u32 v, .int .i64 n] w fun e w' => e = .returned (.bool (decide (0 ≤ n ∧ n ≤ 24))) ∧ Own B w' b (putB bs v.toNat n) ∧ Chg (fun k => B ≤ k) w w' := by
  obtain ⟨o, hw, hB, ho⟩ := h
  refine (put_int b o bs v n w hw hlen hv0 hv).mono ?_
  rintro e w' ⟨rfl, ht⟩
  exact ⟨rfl, Own.to ht hB ho hs⟩

end Go.Proofs.Ytgnenelfbmpfgaa

/- Several Writers side by side: those that aren't put into stay as they were. -/
namespace Go.Proofs.Ytgnenelfbmpfgaa
open Go.RowKit

/-- two Writers that share no block -/
def Dj (b : Nat) (o : Option Nat) (b' : Nat) (o' : Option Nat) : Prop := b ≠ b' ∧ o ≠ some b' ∧ o' ≠ some b ∧ (o = none ∨ o ≠ o')

theorem Dj.symm {b b' : Nat} {o o' : Option Nat} (h : Dj b o b' o') : Dj b' o' b o := by
  obtain ⟨h1, h2, h3, h4⟩ := h
  refine ⟨fun h => h1 h.symm, h3, h2, ?_⟩
  rcases h4 with h | h
  · cases o' with
    | none => exact .inl rfl
    | some k => exact .inr (by rw [h]; simp)
  · exact .inr fun e => h e.symm

theorem Dj.step {w : World} {b b' : Nat} {o o1 o' : Option Nat} {ys : List Bool} (h : Dj b o b' o') (hy : Wr w b' o' ys) (h1 : o1 = o ∨ ∃ k, o1 = some k ∧ w.heap.size ≤ k) : Dj b o1 b' o' := by
  rcases h1 with rfl | ⟨k, rfl, hk⟩
  · exact h
  · have hl := hy.lt
    refine ⟨h.1, fun e => ?_, h.2.2.1, .inr fun e => ?_⟩
    · simp only [Option.some.injEq] at e; omega
    · have := (hl.2 k e.symm).2; omega

theorem Dj.keep {w w' : World} {b b' : Nat} {o o' : Option Nat} {ys : List Bool} (h : Dj b o b' o') (hy : Wr w b' o' ys) (hc : Chg (fun k => k = b ∨ some k = o) w w') : Wr w' b' o' ys := by
  refine hy.kept hc ?_ ?_
  · rintro (h' | h')
    · exact h.1 h'.symm
    · exact h.2.1 h'.symm
  · rintro k hk (h' | h')
    · exact h.2.2.1 (by rw [hk, h'])
    · rcases h.2.2.2 with h4 | h4
      · rw [h4] at h'; cases h'
      · exact h4 (by rw [hk, h'])

/-- all of it lies from B on -/
def Above (B b : Nat) (o : Option Nat) : Prop := B ≤ b ∧ ∀ k, o = some k → B ≤ k

theorem Above.mono {B B' b : Nat} {o : Option Nat} (h : Above B b o) (hB : B' ≤ B) : Above B' b o := ⟨Nat.le_trans hB h.1, fun k hk => Nat.le_trans hB (h.2 k hk)⟩

theorem Above.step {w : World} {B b : Nat} {o o1 : Option Nat} (h : Above B b o) (hs : B ≤ w.heap.size) (h1 : o1 = o ∨ ∃ k, o1 = some k ∧ w.heap.size ≤ k) : Above B b o1 := by
  rcases h1 with rfl | ⟨k, rfl, hk⟩
  · exact h
  · exact ⟨h.1, fun j hj => by simp only [Option.some.injEq] at hj; omega⟩

theorem Dj.of_above {w : World} {b b' : Nat} {o o' : Option Nat} {xs : List Bool} (hx : Wr w b o xs) (h : Above w.heap.size b' o') : Dj b o b' o' := by
  have hl := hx.lt
  refine ⟨by have := h.1; omega, fun e => by have := (hl.2 _ e).2; have := h.1; omega, fun e => by have := h.2 _ e; omega, ?_⟩
  cases o with
  | none => exact .inl rfl
  | some k => exact .inr fun e => by have := (hl.2 k rfl).2; have := h.2 k e.symm; omega

theorem Chg.up {w w1 w2 : World} {b : Nat} {o : Option Nat} (h : Chg (fun _ => False) w w1) (h2 : Chg (fun k => k = b ∨ some k = o) w1 w2) (ha : Above w.heap.size b o) : Chg (fun _ => False) w w2 :=
  h.trans h2 fun k hk hx => by
    rcases hx with hx | hx
    · have := ha.1; omega
    · have := ha.2 k hx.symm; omega

theorem Chg.next {w w1 w2 : World} (h : Chg (fun _ => False) w w1) (h2 : Chg (fun _ => False) w1 w2) : Chg (fun _ => False) w w2 := h.trans h2 fun _ _ h => h

/-- append at an operation that stands under a guard which says yes -/
theorem wpList_append_want {P : Program} {ops : Array Oper} {rest : List Oper} {o : Oper} {a : Act} {w : World} {Q : Exit → Act → World → Prop} (s x : Operand) (t : TypeId)
    (ho : o.op = .call { callee := .builtin .append, args := #[s, x], argTypes := #[t, t] })
    (base : Nat) (e : TypeId) (i : TypeInfo) (z : Value) (size bytes : Nat) (ht : P.underlying t = some (.slice e)) (hi : P.info? e = some i) (hz : i.zero = some z)
    (hsize : i.size = size) (hby : i.bytes = bytes) (hzs : z.cells.size = size) (hsz : 0 < size)
    (v : Value) (n : Nat) (xs : List Value) (hs : a.eval s = v) (hown : w.ownsRow base e size v n xs)
    (ad : Addr) (m c : Nat) (news : List Value) (hx : a.eval x = .slice (some ad) m c) (hl : news.length = m * size) (hnews : ∀ j u, news[j]? = some u → w.cell? (ad.add j) = some u) (h1 : ∀ u ∈ news, u.oneCell' = true)
    (hm : 0 < m) (h63 : n + m ≤ maxLen) (hbytes : (n + m) * bytes ≤ 140737488355328) (hbase : base ≤ w.heap.size)
    (hw : Region.wanted o (yielded ops a.tmps) = true)
    (h : ∀ g cap w', w'.ownsRow base e size (.slice (some ⟨g, 0, none⟩) (n + m) cap) (n + m) (xs ++ news) → w.grownBy w' v.ownBlock → (v.ownBlock = some g ∨ g = w.heap.size) → wpList P ops Q rest (a.put o.dst (.slice (some ⟨g, 0, none⟩) (n + m) cap)) w') :
    wpList P ops Q (o :: rest) a w :=
  BigFrame.wpList_want hw fun _ hK => wp_append_lies w s x t ho base e i z size bytes ht hi hz hsize hby hzs hsz v n xs hs hown ad m c news hx hl hnews h1 hm h63 hbytes hbase _ rfl fun g cap w' h2 h3 h4 _ => hK _ _ (h g cap w' h2 h3 h4)

end Go.Proofs.Ytgnenelfbmpfgaa

/- slices.Clone of bytes; a bitf.Reader in memory; what bitf's begun, bitAt, Left, New do. -/
namespace Go.Proofs.Ytgnenelfbmpfgaa
open Go.RowKit

theorem RdB.news {w : World} {a : Addr} {n cap : Nat} {xs : List Nat} (h : RdB w (.slice (some a) n cap) xs) : ∀ j u, (bv xs)[j]? = some u → w.cell? (a.add j) = some u := by
  intro j u hu
  rcases h with ⟨rfl, _⟩ | ⟨g, off, cap', he, hc⟩
  · simp [bv] at hu
  · simp only [Value.slice.injEq, Option.some.injEq] at he
    obtain ⟨rfl, rfl, rfl⟩ := he
    have hj : j < xs.length := by rw [← bv_length]; exact (List.getElem?_eq_some_iff.1 hu).1
    rw [bv_get xs j hj] at hu
    rw [← Option.some.inj hu, show (⟨g, off, none⟩ : Addr).add j = ⟨g, off + j, none⟩ from by unfold Addr.add; split <;> simp_all]
    exact hc j hj

theorem eqlNil (W : World) (a : Addr) (n c : Nat) : (binOp .eql 35 (.slice (some a) n c) (.slice none 0 0)).run Try.prog W = .ok (.bool false) W := by kernel_rfl
theorem eqlNil0 (W : World) (n c : Nat) : (binOp .eql 35 (.slice none n c) (.slice none 0 0)).run Try.prog W = .ok (.bool true) W := by kernel_rfl

set_option maxHeartbeats 1000000 in
theorem clone_any (v : Value) (xs : List Nat) (w : World) (h : RdB w v xs) (hl : xs.length < 100000000000) :
    Calls Try.prog 31 #[v] w fun e w' => ∃ v', e = .returned v' ∧ w'.ownsRow w.heap.size 5 1 v' xs.length (bv xs) ∧ Chg (fun _ => False) w w' := by
  obtain ⟨i, hi, hz0, hz1, hz2⟩ := info_parts Try.infoU8
  obtain ⟨ao, cap, hv⟩ := h.form
  subst hv
  cases ao with
  | none =>
    have h0 : xs = [] := by
      rcases h with ⟨h0, _⟩ | ⟨g, off, cap', he, _⟩
      · exact h0
      · simp at he
    subst h0
    clear h
    have hnil := eqlNil0 w 0 cap
    rw [List.length_nil]
    go_enter Try.func31, Try.ntmps31
    go_wp2
    go_ret
    exact ⟨_, rfl, by simpa [bv] using World.ownsRow_nil w w.heap.size 5 1, Chg.refl _ _⟩
  | some a =>
    have HCE := Lib.hid (RdB.news (h.kept (Chg.alloc (fun _ => False) w (.cells #[] 5)) (by simp)))
    clear h
    have hnil := eqlNil w a xs.length cap
    go_enter Try.func31, Try.ntmps31
    go_wp2_with (at_builtin; refine wpList_append_own _ rfl (.tmp 5) (.tmp 6) 35 rfl w.heap.size 5 i (.int .u8 0) 1 1 Try.underlying35 hi hz0 hz1 hz2 rfl (by decide) _ 0 _ rfl (World.ownsRow_made w #[] 0 (Nat.le_refl _) (by unfold maxLen; omega) rfl) a xs.length cap (bv xs) rfl (by rw [bv_length, Nat.mul_one]) HCE.out (bv_one xs) (by unfold maxLen; omega) (by omega) (by simp) ?_)
    intro v7 w7 ho7 hg7 _
    have hc7 : Chg (fun _ => False) w w7 := (Chg.alloc (fun _ => False) w _).trans (Chg.of_grown hg7) (fun j hj hx => by simp [Value.ownBlock] at hx; omega)
    have HO := Lib.hid ho7; have HC := Lib.hid hc7
    clear hg7 ho7 hc7
    go_wp2
    go_ret
    exact ⟨_, rfl, by simpa using HO.out, HC.out⟩

/-- The bitf.Reader at block b, its bytes xs in the block o (none: there are none), of which p bits were taken. -/
def Rf (w : World) (b : Nat) (o : Option Nat) (xs : List Nat) (p : Nat) : Prop :=
  (∀ x ∈ xs, x < 256) ∧ xs.length < 100000000000 ∧ p ≤ 8 * xs.length ∧
    ∃ v, w.heap[b]? = some (.cells #[v, .int .i64 (p : Int)] 62 (0, 0)) ∧ v.ownBlock = o ∧ w.ownsRow 0 5 1 v xs.length (bv xs)

theorem Rf.lt {w : World} {b : Nat} {o : Option Nat} {xs : List Nat} {p : Nat} (h : Rf w b o xs p) : b < w.heap.size ∧ ∀ k, o = some k → k < w.heap.size ∧ k ≠ b := by
  obtain ⟨_, _, _, v, hb, ho, hown⟩ := h
  refine ⟨lt_of_block hb, fun k hk => ?_⟩
  have hk' := ho.trans hk
  refine ⟨(hown.lt k hk').2, ?_⟩
  rcases hown.2 with ⟨rfl, _⟩ | ⟨q, cap, cur, rfl, _, hq, _⟩
  · simp [Value.ownBlock] at hk'
  · simp only [Value.ownBlock, Option.some.injEq] at hk'
    subst hk'
    rintro rfl
    rw [hb] at hq
    simp at hq

theorem Rf.kept {S : Nat → Prop} {w w' : World} {b : Nat} {o : Option Nat} {xs : List Nat} {p : Nat} (h : Rf w b o xs p) (hc : Chg S w w') (h1 : ¬ S b) (h2 : ∀ k, o = some k → ¬ S k) : Rf w' b o xs p := by
  have hl := h.lt
  obtain ⟨e1, e2, e3, v, hb, ho, hown⟩ := h
  exact ⟨e1, e2, e3, v, (hc.block b hl.1 h1).trans hb, ho, hc.own hown (fun k hk => h2 k (ho.symm.trans hk))⟩

theorem Rf.drewN {w : World} {b : Nat} {o : Option Nat} {xs : List Nat} {p : Nat} (h : Rf w b o xs p) (m : Nat) : Rf (w.drewN m) b o xs p := h

theorem begun_any (b p : Nat) (v : Value) (w : World) (hp : p < 1000000000000) (hb : w.heap[b]? = some (.cells #[v, .int .i64 (p : Int)] 62 (0, 0))) :
    Calls Try.prog 36 #[.pointer (some ⟨b, 0, none⟩)] w fun e w' => e = .returned (.int .i64 (((p + 7) / 8 : Nat) : Int)) ∧ w' = w := by
  obtain ⟨c0, c1, f0, f1⟩ := cells2 hb
  clear hb
  go_enter Try.func36, Try.ntmps36
  go_wp2
  go_ret
  exact ⟨congrArg (fun z => Ending.returned (Value.int .i64 z)) (by omega), rfl⟩

/-- the value is a slice of bytes -/
theorem fbitAt_any (g off i cap n x : Nat) (w : World) (hc : w.cell? ⟨g, off + i / 8, none⟩ = some (.int .u8 (x : Int))) (hi : i / 8 < n) (hi2 : i < 1000000000000) (hx : x < 256) :
    Calls Try.prog 37 #[.slice (some ⟨g, off, none⟩) n cap, .int .i64 (i : Int)] w fun e w' => e = .returned (.int .u32 ((x / 2 ^ (i % 8) % 2 : Nat) : Int)) ∧ w' = w := by
  have H := Lib.hid (and_one (x / 2 ^ (i % 8)) (by have := Nat.div_le_self x (2 ^ (i % 8)); omega))
  go_enter Try.func37, Try.ntmps37
  go_wp2
  go_ret
  refine ⟨congrArg (fun z => Ending.returned (Value.int .u32 z)) ?_, rfl⟩
  have e : ((x : Int) / 2 ^ (i % 8) % 4294967296) = ((x / 2 ^ (i % 8) : Nat) : Int) := by
    have e1 : ((x : Int) / 2 ^ (i % 8)) = ((x / 2 ^ (i % 8) : Nat) : Int) := by simp
    have := Nat.div_le_self x (2 ^ (i % 8))
    rw [e1]
    generalize x / 2 ^ (i % 8) = y at *
    omega
  rw [e]; exact H.out

theorem fbitAt_y (g off i cap n x y : Nat) (w : World) (hc : w.cell? ⟨g, off + i / 8, none⟩ = some (.int .u8 (x : Int))) (hi : i / 8 < n) (hi2 : i < 1000000000000) (hx : x < 256) (hy : x / 2 ^ (i % 8) % 2 = y) :
    Calls Try.prog 37 #[.slice (some ⟨g, off, none⟩) n cap, .int .i64 (i : Int)] w fun e w' => e = .returned (.int .u32 (y : Int)) ∧ w' = w := by
  rw [← hy]; exact fbitAt_any g off i cap n x w hc hi hi2 hx

theorem fleft_q (b : Nat) (o : Option Nat) (xs : List Nat) (p : Nat) (w : World) (h : Rf w b o xs p) :
    Calls Try.prog 22 #[.pointer (some ⟨b, 0, none⟩)] w fun e w' => e = .returned (.int .i64 ((8 * xs.length - p : Nat) : Int)) ∧ ∃ m, w' = w.drewN m := by
  obtain ⟨-, hl, hp, v, hb, -, hown⟩ := h
  obtain ⟨ao, cap, rfl, -⟩ := own_src hown
  obtain ⟨c0, c1, f0, f1⟩ := cells2 hb
  clear hb hown
  have hz : IntKind.i64.wrap ((xs.length : Int) * 8) = (xs.length : Int) * 8 := by rw [IntKind.wrap_i64]; omega
  go_enter Try.func22, Try.ntmps22
  go_wp2
  go_quiet (fail)
  go_wp2
  go_ret
  exact ⟨congrArg (fun z => Ending.returned (Value.int .i64 z)) (by omega), _, rfl⟩

theorem fleft_any (b : Nat) (o : Option Nat) (xs : List Nat) (p : Nat) (w : World) (h : Rf w b o xs p) :
    Calls Try.prog 22 #[.pointer (some ⟨b, 0, none⟩)] w fun e w' => e = .returned (.int .i64 ((8 * xs.length - p : Nat) : Int)) ∧ Chg (fun _ => False) w w' :=
  (fleft_q b o xs p w h).mono fun e w' ⟨h1, m, h2⟩ => ⟨h1, by rw [h2]; exact (Chg.refl _ _).drewN m⟩

theorem fnew_any (v : Value) (xs : List Nat) (w : World) (h : RdB w v xs) (hl : xs.length < 100000000000) (hx : ∀ x ∈ xs, x < 256) :
    Calls Try.prog 18 #[v] w fun e w' => ∃ b o, e = .returned (.pointer (some ⟨b, 0, none⟩)) ∧ Rf w' b o xs 0 ∧ Above w.heap.size b o ∧ Chg (fun _ => False) w w' := by
  go_enter Try.func18, Try.ntmps18
  go_wp2_with fail
  refine (clone_any v xs w h hl).mono ?_
  rintro e w1 ⟨v1, rfl, ho, hc⟩
  have hlt := ho.lt
  obtain ⟨ao, cap, hv, -⟩ := own_src ho
  subst hv
  have HO := Lib.hid ho; have HC := Lib.hid hc; have HLT := Lib.hid hlt
  have HX := Lib.hid hx
  clear h hx ho hc hlt
  go_wp2
  go_ret
  have hsz := HC.out.size
  exact ⟨w1.heap.size, (Value.slice ao xs.length cap).ownBlock, rfl, ⟨HX.out, hl, Nat.zero_le _, _, heap_alloc_new w1 _, rfl, ownsRow_mono (HO.out.alloc _) (Nat.zero_le _)⟩, ⟨hsz, fun k hk => (HLT.out k hk).1⟩, HC.out.trans (Chg.alloc _ w1 _) (fun _ _ h => h)⟩

end Go.Proofs.Ytgnenelfbmpfgaa

/- What bitf's Take, Pad and Rest do. -/
namespace Go.Proofs.Ytgnenelfbmpfgaa
open Go.RowKit

/-- the bit at place i -/
def bt (xs : List Nat) (i : Nat) : Nat := xs.getD (i / 8) 0 / 2 ^ (i % 8) % 2
/-- the number in n bits from place p on -/
def fv (xs : List Nat) (p n : Nat) : Nat := val (((bitsB xs).drop p).take n)
/-- from place p to the byte's end there are bits 0 alone -/
def Clear (xs : List Nat) (p : Nat) : Prop := ∀ j, p ≤ j → j < 8 * ((p + 7) / 8) → bt xs j = 0

theorem bt_lt (xs : List Nat) (i : Nat) : bt xs i < 2 := Nat.mod_lt _ (by omega)

theorem fv_lt (xs : List Nat) (p n : Nat) : fv xs p n < 2 ^ n := val_take_lt _ _

theorem fv_succ (xs : List Nat) (p n : Nat) (h : p + n < 8 * xs.length) : fv xs p (n + 1) = fv xs p n + bt xs (p + n) * 2 ^ n := by
  have hl : n < ((bitsB xs).drop p).length := by rw [List.length_drop, bitsB_length]; omega
  unfold fv
  rw [val_take_succ _ n hl]
  congr 2
  have e1 := bitsB_get xs (p + n) h
  rw [List.getElem?_eq_getElem (by rw [bitsB_length]; exact h)] at e1
  rw [List.getElem_drop]
  exact (toNat_bit _ _ (Option.some.inj e1)).symm

theorem ftake_no (b : Nat) (o : Option Nat) (xs : List Nat) (p : Nat) (n : Int) (w : World) (h : Rf w b o xs p) (hn : n < 0 ∨ 24 < n ∨ ((8 * xs.length - p : Nat) : Int) < n) :
    Calls Try.prog 33 #[.pointer (some ⟨b, 0, none⟩), .int .i64 n] w fun e w' => e = .returned (.tuple #[.int .u32 0, .bool false]) ∧ Chg (fun _ => False) w w' := by
  by_cases h0 : n < 0
  · have h0' : decide (n < 0) = true := by simpa using h0
    clear h
    go_enter Try.func33, Try.ntmps33
    go_wp2
    go_ret2
    exact ⟨rfl, Chg.refl _ _⟩
  · have h0' : decide (n < 0) = false := by simpa using h0
    by_cases h1 : 24 < n
    · have h1' : decide (24 < n) = true := by simpa using h1
      clear h
      go_enter Try.func33, Try.ntmps33
      go_wp2
      go_ret2
      exact ⟨rfl, Chg.refl _ _⟩
    · have h1' : decide (24 < n) = false := by simpa using h1
      have h2' : ((8 * xs.length - p : Nat) : Int) < n := by omega
      have H := Lib.hid h
      clear h hn
      obtain ⟨L, hL⟩ : ∃ L, 8 * xs.length - p = L := ⟨_, rfl⟩
      rw [hL] at h2'
      have HL := Lib.hid hL
      clear hL
      go_enter Try.func33, Try.ntmps33
      go_wp2_with fail
      refine (fleft_any b o xs p w H.out).mono ?_
      rintro e w1 ⟨rfl, hc⟩
      rw [HL.out]
      go_wp2
      go_ret2
      exact ⟨rfl, hc⟩

set_option maxHeartbeats 1000000 in
theorem ftake_yes (b : Nat) (o : Option Nat) (xs : List Nat) (p n : Nat) (w : World) (h : Rf w b o xs p) (hn : n ≤ 24) (hnl : p + n ≤ 8 * xs.length) :
    Calls Try.prog 33 #[.pointer (some ⟨b, 0, none⟩), .int .i64 (n : Int)] w fun e w' => e = .returned (.tuple #[.int .u32 ((fv xs p n : Nat) : Int), .bool true]) ∧ Rf w' b o xs (p + n) ∧ Chg (fun k => k = b) w w' := by
  have h0' : decide ((n : Int) < 0) = false := by simp
  have h1' : decide (24 < (n : Int)) = false := by simp; omega
  have H := Lib.hid h
  obtain ⟨hx, hxl, -, -⟩ := h
  have HX := Lib.hid hx
  clear hx
  obtain ⟨L, hL⟩ : ∃ L, 8 * xs.length - p = L := ⟨_, rfl⟩
  have h2' : ¬ (L : Int) < (n : Int) := by omega
  have HL := Lib.hid hL; have HNL := Lib.hid hnl; have HXL := Lib.hid hxl
  clear hL hnl hxl
  go_enter Try.func33, Try.ntmps33
  go_wp2_with fail
  refine (fleft_any b o xs p w H.out).mono ?_
  rintro e w1 ⟨rfl, hc⟩
  rw [HL.out]
  have h1 := H.out.kept hc (by simp) (by simp)
  have H1 := Lib.hid h1; have HC := Lib.hid hc
  clear h1 hc H HL
  go_wp2
  go_loopw [6, 21] (fun o6 o21 wr => ∃ k : Nat, k ≤ n ∧ o21 = .int .i64 (k : Int) ∧ o6 = .int .u32 ((fv xs p k : Nat) : Int) ∧ Rf wr b o xs p ∧ Chg (fun _ => False) w wr) (fun _ o21 _ => n - (intOf o21).toNat)
  case atStart => exact ⟨0, Nat.zero_le _, rfl, by simp [fv, val], H1.out, HC.out⟩
  case round =>
    obtain ⟨k, hk, rfl, rfl, hr, hcr⟩ := hrel
    clear H1 HC
    by_cases hlt : k < n
    · have hnl := HNL.out; have hxl := HXL.out
      obtain ⟨-, -, -, v, hb, ho, hown⟩ := hr
      obtain ⟨g, cap, rfl, -⟩ := slice_of_own hown (by omega)
      obtain ⟨d0, d1, e0, e1⟩ := cells2 hb
      have hrow := hown.cellAt ((p + k) / 8) (by omega)
      rw [bv_get xs _ (by omega)] at hrow
      have hxx := getD_lt xs HX.out ((p + k) / 8)
      obtain ⟨y, hy⟩ : ∃ y, bt xs (p + k) = y := ⟨_, rfl⟩
      have HOR : Hid (bits BinOp.or IntKind.u32 ((fv xs p k : Nat) : Int) ((y : Int) * 2 ^ k % 4294967296) = ((fv xs p (k + 1) : Nat) : Int)) := by
        refine Lib.hid ?_
        rw [or_shift (fv xs p k) k y (fv_lt _ _ _) (by omega) (by have := bt_lt xs (p + k); omega), fv_succ xs p k (by omega), hy]
      have hr' : Hid (Rf wr b o xs p) := Lib.hid ⟨HX.out, hxl, by omega, _, hb, ho, hown⟩
      clear hb hown ho
      unfold bt at hy
      go_wp2
      go_quiet (first | (go_at_call 37; refine Calls.quiet_of_same (fbitAt_y g 0 (p + k) cap xs.length (xs.getD ((p + k) / 8) 0) y _ ?_ (by omega) (by omega) hxx hy); rw [Nat.zero_add]; exact hrow))
      go_wp2
      rw [HOR.out]
      go_roundw
      case rel => exact ⟨k + 1, by omega, by go_num, rfl, hr'.out.drewN nq, hcr.drewN nq⟩
      case measure => simp [intOf]; omega
    · obtain rfl : k = n := by omega
      have hnl := HNL.out; have hxl := HXL.out
      obtain ⟨-, -, -, v, hb, ho, hown⟩ := hr
      have hne : ∀ q, v.ownBlock = some q → q ≠ b := by
        have hR : Rf wr b o xs p := ⟨HX.out, hxl, by omega, v, hb, ho, hown⟩
        intro q hq
        exact (hR.lt.2 q (ho.symm.trans hq)).2
      obtain ⟨ao, cap, rfl, -⟩ := own_src hown
      obtain ⟨d0, d1, e0, e1⟩ := cells2 hb
      have hb1 := set2_1 (u := .int .i64 ((p : Int) + (k : Int))) hb
      have hc1 := Chg.setCell wr ⟨b, 1, none⟩ (.int .i64 ((p : Int) + (k : Int)))
      have ho1 := hc1.own hown (fun q hq hx => hne q hq hx)
      have HB1 := Lib.hid hb1; have HC1 := Lib.hid hc1; have HO1 := Lib.hid ho1; have HO := Lib.hid ho
      clear hb1 hc1 ho1 hb hown hne ho
      go_wp2
      go_ret2
      refine ⟨rfl, ⟨HX.out, hxl, by omega, _, HB1.out, HO.out, HO1.out⟩, (hcr.mono (fun _ _ h => h.elim)).trans HC1.out (fun _ _ h => h)⟩

/-- what Take answers for every n -/
theorem ftake_any (b : Nat) (o : Option Nat) (xs : List Nat) (p : Nat) (n : Int) (w : World) (h : Rf w b o xs p) :
    Calls Try.prog 33 #[.pointer (some ⟨b, 0, none⟩), .int .i64 n] w fun e w' =>
      (∃ m : Nat, n = (m : Int) ∧ m ≤ 24 ∧ p + m ≤ 8 * xs.length ∧ e = .returned (.tuple #[.int .u32 ((fv xs p m : Nat) : Int), .bool true]) ∧ Rf w' b o xs (p + m) ∧ Chg (fun k => k = b) w w') ∨
      ((n < 0 ∨ 24 < n ∨ ((8 * xs.length - p : Nat) : Int) < n) ∧ e = .returned (.tuple #[.int .u32 0, .bool false]) ∧ Rf w' b o xs p ∧ Chg (fun _ => False) w w') := by
  by_cases hn : n < 0 ∨ 24 < n ∨ ((8 * xs.length - p : Nat) : Int) < n
  · exact (ftake_no b o xs p n w h hn).mono fun e w' ⟨h1, h2⟩ => .inr ⟨hn, h1, h.kept h2 (by simp) (by simp), h2⟩
  · obtain ⟨m, rfl⟩ := Int.eq_ofNat_of_zero_le (show 0 ≤ n by omega)
    have hp := h.2.2.1
    exact (ftake_yes b o xs p m w h (by omega) (by omega)).mono fun e w' ⟨h1, h2, h3⟩ => .inl ⟨m, rfl, by omega, by omega, h1, h2, h3⟩

set_option maxHeartbeats 1000000 in
theorem fpad_any (b : Nat) (o : Option Nat) (xs : List Nat) (p : Nat) (w : World) (h : Rf w b o xs p) :
    Calls Try.prog 24 #[.pointer (some ⟨b, 0, none⟩)] w fun e w' =>
      (Clear xs p ∧ e = .returned (.bool true) ∧ Rf w' b o xs (8 * ((p + 7) / 8)) ∧ Chg (fun k => k = b) w w') ∨ (¬ Clear xs p ∧ e = .returned (.bool false) ∧ w = w') := by
  have hne := h.lt.2
  obtain ⟨hx, hxl, hp, v, hb, ho, hown⟩ := h
  obtain ⟨ao, cap, rfl, -⟩ := own_src hown
  obtain ⟨d0, d1, e0, e1⟩ := cells2 hb
  obtain ⟨E, hE⟩ : ∃ E, (p + 7) / 8 = E := ⟨_, rfl⟩
  have hE1 : p ≤ 8 * E ∧ 8 * E ≤ 8 * xs.length := by omega
  have HX := Lib.hid hx; have HB := Lib.hid hb; have HO := Lib.hid ho; have HOWN := Lib.hid hown; have HE := Lib.hid hE; have HNE := Lib.hid hne
  clear hx hb ho hown hE hne
  go_enter Try.func24, Try.ntmps24
  go_wp2_with fail
  refine (begun_any b p _ w (by omega) HB.out).mono ?_
  rintro e w1 ⟨rfl, hw⟩
  subst hw
  rw [HE.out]
  go_wp2
  go_loopw [4] (fun o4 wr => ∃ k : Nat, p ≤ k ∧ k ≤ 8 * E ∧ o4 = .int .i64 (k : Int) ∧ (∀ j, p ≤ j → j < k → bt xs j = 0) ∧ wr = w1) (fun o4 _ => 8 * E - (intOf o4).toNat)
  case atStart => exact ⟨p, Nat.le_refl _, by omega, rfl, fun j h1 h2 => by omega, rfl⟩
  case round =>
    obtain ⟨k, hk1, hk2, rfl, hz, rfl⟩ := hrel
    by_cases hlt : k < 8 * E
    · have hown := HOWN.out
      obtain ⟨g, cap', hv, -⟩ := slice_of_own hown (by omega)
      simp only [Value.slice.injEq, true_and] at hv
      obtain ⟨rfl, rfl⟩ := hv
      have hrow := hown.cellAt (k / 8) (by omega)
      rw [bv_get xs _ (by omega)] at hrow
      have hxx := getD_lt xs HX.out (k / 8)
      obtain ⟨y, hy⟩ : ∃ y, bt xs k = y := ⟨_, rfl⟩
      have hy2 := bt_lt xs k
      have HZ := Lib.hid hz; have HY := Lib.hid hy
      clear hz
      unfold bt at hy
      clear hown
      go_wp2_with fail
      refine (fbitAt_y g 0 k cap xs.length (xs.getD (k / 8) 0) y _ (by rw [Nat.zero_add]; exact hrow) (by omega) (by omega) hxx hy).mono ?_
      rintro e w2 ⟨rfl, hw⟩
      subst hw
      clear hrow hxx hy
      by_cases hy0 : y = 0
      · subst hy0
        go_wp2
        go_roundw
        case rel =>
          refine ⟨k + 1, by omega, by omega, by go_num, fun j h1 h2 => ?_, trivial⟩
          by_cases hjk : j = k
          · rw [hjk]; exact HY.out
          · exact HZ.out j h1 (by omega)
        case measure => simp [intOf]; omega
      · have hy1 : y = 1 := by have := HY.out; omega
        subst hy1
        go_wp2
        go_ret
        refine .inr ⟨fun hcl => ?_, rfl, rfl⟩
        have h1 := hcl k hk1 (by rw [HE.out]; omega)
        have h2 := HY.out
        omega
    · obtain rfl : k = 8 * E := by omega
      have hb1 := set2_1 (u := .int .i64 ((8 * E : Nat) : Int)) HB.out
      have hc1 := Chg.setCell wr ⟨b, 1, none⟩ (.int .i64 ((8 * E : Nat) : Int))
      have ho1 := hc1.own HOWN.out (fun q hq hx => (HNE.out q (HO.out.symm.trans hq)).2 hx)
      have HB1 := Lib.hid hb1; have HC1 := Lib.hid hc1; have HO1 := Lib.hid ho1
      have HZ := Lib.hid hz
      clear hb1 hc1 ho1 hz
      go_wp2
      go_ret
      rw [show ((E : Int) * 8) = ((8 * E : Nat) : Int) from by omega]
      refine .inl ⟨fun j h1 h2 => HZ.out j h1 (by have := HE.out; omega), rfl, ⟨HX.out, hxl, by have := HE.out; omega, _, ?_, HO.out, ?_⟩, ?_⟩
      · rw [HE.out]; exact HB1.out
      · exact HO1.out
      · exact HC1.out

end Go.Proofs.Ytgnenelfbmpfgaa

/- Plain mathematics of chapter 13: numbers that are no more than what is left. -/
namespace Go.Proofs.Ytgnenelfbmpfgaa
open Go

/-- may v be put, l being left? -/
def bCan (v l : Int) : Prop := 1 ≤ l ∧ l ≤ 4096 ∧ 0 ≤ v ∧ v ≤ l
instance (v l : Int) : Decidable (bCan v l) := by unfold bCan; infer_instance
def bgPutB (bs : List Bool) (v l : Int) : List Bool := if bCan v l then bs ++ bitsOf v.toNat (widthI l) else bs
def bgCostN (v l : Int) : Nat := if bCan v l then widthI l else 0
/-- what Take tells of the bits from p on: a number, an error, and where it stands then -/
def bgTk (xs : List Nat) (p : Nat) (l : Int) : Int × Int × Nat :=
  if 1 ≤ l ∧ l ≤ 4096 then (if p + widthI l ≤ 8 * xs.length then (if ((fv xs p (widthI l) : Nat) : Int) ≤ l then (((fv xs p (widthI l) : Nat) : Int), 0, p + widthI l) else (0, 13, p + widthI l)) else (0, 3, p)) else (0, 1, p)

theorem width_13 {l : Int} (h1 : 1 ≤ l) (h2 : l ≤ 4096) : 1 ≤ widthI l ∧ widthI l ≤ 13 ∧ l < ((2 ^ widthI l : Nat) : Int) ∧ ((2 ^ (widthI l - 1) : Nat) : Int) ≤ l := by
  have hs := floor_spec h1
  have hw := width_floor h1
  have hf := floor_mono (n := l) (m := ((2 ^ 12 : Nat) : Int)) (by simpa using h2)
  rw [floor_at] at hf
  rw [hw]
  exact ⟨by omega, by omega, hs.2, by rw [Nat.add_sub_cancel]; exact hs.1⟩
theorem bgPutB_length (bs : List Bool) (v l : Int) : (bgPutB bs v l).length = bs.length + bgCostN v l := by
  unfold bgPutB bgCostN
  split
  · rw [List.length_append, bitsOf_length]
  · rfl
theorem bgCost_le (v l : Int) : bgCostN v l ≤ 13 := by
  unfold bgCostN
  split
  · next h => exact (width_13 h.1 h.2.1).2.1
  · omega
theorem bgTk_le (xs : List Nat) (p : Nat) (l : Int) (h : p ≤ 8 * xs.length) : (bgTk xs p l).2.2 ≤ 8 * xs.length := by
  unfold bgTk
  split
  · split
    · split
      · assumption
      · assumption
    · exact h
  · exact h
theorem bgTk_num (xs : List Nat) (p : Nat) (l : Int) : 0 ≤ (bgTk xs p l).1 ∧ (bgTk xs p l).1 ≤ 4096 ∧ 0 ≤ (bgTk xs p l).2.1 ∧ (bgTk xs p l).2.1 ≤ 13 := by
  unfold bgTk
  split
  · split
    · split
      · simp only []; omega
      · simp only []; omega
    · simp only []; omega
  · simp only []; omega

end Go.Proofs.Ytgnenelfbmpfgaa

/- Opening arguments: what every row's last step wants; []byte and []int. -/
namespace Go.Proofs.Ytgnenelfbmpfgaa
open Go.ChangeShapes Go.WideShapes Go.ChangeAt Go.RowKit Go.Deep

theorem own : ownKnob Try.prog.godebug = none := by kernel_rfl
theorem laidOut : laidOutB Try.prog = true := by kernel_rfl

theorem spot_none {w : World} {a : Addr} {v : Value} (h : w.cell? (a.add 0) = some v) : ∃ g off, a = ⟨g, off, none⟩ := by
  obtain ⟨b, off, spot⟩ := a
  have hs : spot = none := by simpa [Addr.add] using World.cell?_spot h
  exact ⟨b, off, by rw [hs]⟩

theorem add_lit (g off j : Nat) : (⟨g, off, none⟩ : Addr).add j = ⟨g, off + j, none⟩ := by unfold Addr.add; split <;> simp_all

theorem wf_u32 {x : Int} (h : (Lit.int .u32 x).wf = true) : 0 ≤ x ∧ x < 4294967296 := by
  have := bounds_u32 h; omega

theorem Chg.bel {w w' : World} (h : Chg (fun _ => False) w w') : Below w.heap.size w w' := h.below (Nat.le_refl _) (fun _ _ => by simp)

theorem cellsU8 : Try.prog.cellsOf 5 = 1 := by kernel_rfl

theorem open_bytes {H : Type} {enc : TypeId × Value → H} {W : World} {base : Nat} {spare : Nat → Bool} {held : Bool} {a : Option Addr} {len cap : Nat} {d : DataW H} {p : List MemPlace}
    (h : DataW.Trod enc Try.prog W base spare held 35 (.slice a len cap) d p) : ∃ xs, RdB W (.slice a len cap) xs ∧ ∀ x ∈ xs, x < 256 := by
  obtain ⟨fuel, hf⟩ := h
  rcases open_ints Try.underlying35 Try.underlying5 cellsU8 hf with ⟨hcs, _⟩ | ⟨x, l, c, zs, hcs, _, hl, _, hz, _, hcell, hwz⟩
  · simp [Value.cells] at hcs
    obtain ⟨rfl, rfl, rfl⟩ := hcs
    exact ⟨[], .inl ⟨rfl, none, 0, rfl⟩, by simp⟩
  · simp [Value.cells] at hcs
    obtain ⟨rfl, rfl, rfl⟩ := hcs
    have hlen : len ≤ zs.length := by rw [hz]; split <;> omega
    have hb : ∀ j, j < zs.length → 0 ≤ zs.getD j 0 ∧ zs.getD j 0 < 256 := by
      intro j hj
      have hmem : zs.getD j 0 ∈ zs := by
        rw [List.getD_eq_getElem?_getD, List.getElem?_eq_getElem hj]; exact List.getElem_mem hj
      have := bounds_u8 (hwz _ hmem)
      omega
    refine ⟨(List.range len).map fun j => (zs.getD j 0).toNat, ?_, ?_⟩
    · by_cases h0 : len = 0
      · subst h0
        exact .inl ⟨rfl, some x, cap, rfl⟩
      · obtain ⟨g, off, rfl⟩ := spot_none (hcell 0 (by omega))
        refine .inr ⟨g, off, cap, by simp, fun j hj => ?_⟩
        have hj' : j < len := by simpa using hj
        have hc := hcell j (by omega)
        rw [add_lit] at hc
        rw [hc]
        have := (hb j (by omega)).1
        simp only [List.getD_eq_getElem?_getD, List.getElem?_map, List.getElem?_range hj', Option.map_some, Option.getD_some] at this ⊢
        rw [Int.toNat_of_nonneg this]
    · intro y hy
      simp only [List.mem_map, List.mem_range] at hy
      obtain ⟨j, hj, rfl⟩ := hy
      have := hb j (by omega)
      omega

/-- The value v is a slice of the numbers zs. -/
def RdI (w : World) (v : Value) (zs : List Int) : Prop :=
  (zs = [] ∧ ∃ ao c, v = .slice ao 0 c) ∨ ∃ g off cap, v = .slice (some ⟨g, off, none⟩) zs.length cap ∧ ∀ j, j < zs.length → w.cell? ⟨g, off + j, none⟩ = some (.int .i64 (zs.getD j 0))

theorem RdI.kept {S : Nat → Prop} {w w' : World} {v : Value} {zs : List Int} (h : RdI w v zs) (hc : Chg S w w') (hS : ∀ k, v.ownBlock = some k → ¬ S k) : RdI w' v zs := by
  rcases h with h | ⟨g, off, cap, rfl, hcell⟩
  · exact .inl h
  · refine .inr ⟨g, off, cap, rfl, fun j hj => ?_⟩
    have := hcell j hj
    have hlt : g < w.heap.size := block_lt_of_cell this
    rw [World.cell?_of_block (w := w) (hc.block g hlt (hS g rfl))]; exact this

theorem cellsInt : Try.prog.cellsOf 3 = 1 := by kernel_rfl

end Go.Proofs.Ytgnenelfbmpfgaa

/- Counts as lists of 256 whole numbers: sums, how many are above 0, of bytes. Plain. -/
namespace Go.Proofs.Ytgnenelfbmpfgaa
open Go

def tot : List Int → Int
  | [] => 0
  | x :: r => x + tot r

def pos : List Int → Nat
  | [] => 0
  | x :: r => (if 0 < x then 1 else 0) + pos r

theorem tot_append (a b : List Int) : tot (a ++ b) = tot a + tot b := by
  induction a with
  | nil => simp [tot]
  | cons x r ih => simp only [List.cons_append, tot, ih]; omega

theorem pos_append (a b : List Int) : pos (a ++ b) = pos a + pos b := by
  induction a with
  | nil => simp [pos]
  | cons x r ih => simp only [List.cons_append, pos, ih]; omega

theorem take_snoc (cs : List Int) (k : Nat) (h : k < cs.length) : cs.take (k + 1) = cs.take k ++ [cs.getD k 0] := by
  rw [List.take_succ_eq_append_getElem h, List.getD_eq_getElem?_getD, List.getElem?_eq_getElem h]; rfl

theorem tot_take_succ (cs : List Int) (k : Nat) (h : k < cs.length) : tot (cs.take (k + 1)) = tot (cs.take k) + cs.getD k 0 := by
  rw [take_snoc cs k h, tot_append]; simp [tot]

theorem pos_take_succ (cs : List Int) (k : Nat) (h : k < cs.length) : pos (cs.take (k + 1)) = pos (cs.take k) + if 0 < cs.getD k 0 then 1 else 0 := by
  rw [take_snoc cs k h, pos_append]; simp [pos]

theorem tot_nonneg (cs : List Int) (h : ∀ c ∈ cs, 0 ≤ c) : 0 ≤ tot cs := by
  induction cs with
  | nil => simp [tot]
  | cons x r ih =>
    have := h x (by simp)
    have := ih (fun c hc => h c (by simp [hc]))
    simp only [tot]; omega

theorem tot_take_le (cs : List Int) (k : Nat) (h : ∀ c ∈ cs, 0 ≤ c) : tot (cs.take k) ≤ tot cs := by
  have := tot_append (cs.take k) (cs.drop k)
  rw [List.take_append_drop] at this
  have := tot_nonneg (cs.drop k) (fun c hc => h c (List.mem_of_mem_drop hc))
  omega

theorem pos_le (cs : List Int) : pos cs ≤ cs.length := by
  induction cs with
  | nil => simp [pos]
  | cons x r ih => simp only [pos, List.length_cons]; split <;> omega

/-- counts that are right -/
def isRight (cs : List Int) : Prop := cs.length = 256 ∧ (∀ c ∈ cs, 0 ≤ c) ∧ tot cs ≤ 1073741824
instance isRight_dec (cs : List Int) : Decidable (isRight cs) := by unfold isRight; infer_instance

def manyI (cs : List Int) : Nat := if isRight cs then pos cs else 0
def totalI (cs : List Int) : Int := if isRight cs then tot cs else 0

theorem manyI_le (cs : List Int) : manyI cs ≤ 256 := by
  unfold manyI
  split
  · next h => have := pos_le cs; have := h.1; omega
  · omega

theorem totalI_le (cs : List Int) : 0 ≤ totalI cs ∧ totalI cs ≤ 1073741824 := by
  unfold totalI
  split
  · next h => exact ⟨tot_nonneg _ h.2.1, h.2.2⟩
  · omega

theorem getD_mem {cs : List Int} {k : Nat} (h : k < cs.length) : cs.getD k 0 ∈ cs := by
  rw [List.getD_eq_getElem?_getD, List.getElem?_eq_getElem h]; exact List.getElem_mem h

theorem isRight.at {cs : List Int} (h : isRight cs) (k : Nat) (hk : k < cs.length) : 0 ≤ cs.getD k 0 ∧ tot (cs.take k) + cs.getD k 0 ≤ 1073741824 := by
  refine ⟨h.2.1 _ (getD_mem hk), ?_⟩
  rw [← tot_take_succ cs k hk]
  exact Int.le_trans (tot_take_le cs (k + 1) h.2.1) h.2.2

theorem isRight.one {cs : List Int} (h : isRight cs) (k : Nat) (hk : k < cs.length) : 0 ≤ cs.getD k 0 ∧ cs.getD k 0 ≤ 1073741824 := by
  have h1 := h.at k hk
  have := tot_nonneg (cs.take k) (fun c hc => h.2.1 c (List.mem_of_mem_take hc))
  omega

/-- the first k are no less than 0 -/
def upTo (cs : List Int) (k : Nat) : Prop := ∀ j, j < k → 0 ≤ cs.getD j 0
theorem upTo_zero (cs : List Int) : upTo cs 0 := fun j hj => by omega
theorem upTo_succ {cs : List Int} {k : Nat} (h : upTo cs k) (h1 : 0 ≤ cs.getD k 0) : upTo cs (k + 1) := fun j hj => by
  by_cases he : j = k
  · rw [he]; exact h1
  · exact h j (by omega)
theorem upTo_all {cs : List Int} {n : Nat} (hn : cs.length = n) (h : upTo cs n) : ∀ c ∈ cs, 0 ≤ c := by
  intro c hc
  obtain ⟨j, hj, rfl⟩ := List.mem_iff_getElem.1 hc
  have := h j (by omega)
  rwa [List.getD_eq_getElem?_getD, List.getElem?_eq_getElem hj] at this
theorem upTo_take {cs : List Int} {k : Nat} (h : upTo cs k) : 0 ≤ tot (cs.take k) := by
  refine tot_nonneg _ fun c hc => ?_
  obtain ⟨j, hj, rfl⟩ := List.mem_iff_getElem.1 hc
  have hl : j < k ∧ j < cs.length := by rw [List.length_take] at hj; omega
  have := h j hl.1
  rw [List.getD_eq_getElem?_getD, List.getElem?_eq_getElem hl.2] at this
  rw [List.getElem_take]; exact this

/-- added one by one -/
def addL (a b : List Int) : List Int := List.zipWith (· + ·) a b

theorem addL_length (a b : List Int) (h : a.length = b.length) : (addL a b).length = a.length := by simp [addL, h]
theorem addL_getD (a b : List Int) (k : Nat) (ha : k < a.length) (hb : k < b.length) : (addL a b).getD k 0 = a.getD k 0 + b.getD k 0 := by
  simp [addL, List.getD_eq_getElem?_getD, List.getElem?_zipWith, List.getElem?_eq_getElem ha, List.getElem?_eq_getElem hb]

theorem tot_addL : ∀ (a b : List Int), a.length = b.length → tot (addL a b) = tot a + tot b
  | [], [], _ => by simp [addL, tot]
  | [], _ :: _, h => by simp at h
  | _ :: _, [], h => by simp at h
  | x :: a, y :: b, h => by
    have ih := tot_addL a b (by simpa using h)
    simp only [addL, List.zipWith_cons_cons, tot] at ih ⊢
    omega

theorem pos_addL : ∀ (a b : List Int), a.length = b.length → (∀ c ∈ a, 0 ≤ c) → (∀ c ∈ b, 0 ≤ c) → pos a ≤ pos (addL a b) ∧ pos b ≤ pos (addL a b) ∧ pos (addL a b) ≤ pos a + pos b
  | [], [], _, _, _ => by simp [addL, pos]
  | [], _ :: _, h, _, _ => by simp at h
  | _ :: _, [], h, _, _ => by simp at h
  | x :: a, y :: b, h, ha, hb => by
    have ih := pos_addL a b (by simpa using h) (fun c hc => ha c (by simp [hc])) (fun c hc => hb c (by simp [hc]))
    have hx := ha x (by simp); have hy := hb y (by simp)
    simp only [addL, List.zipWith_cons_cons, pos] at ih ⊢
    by_cases h1 : 0 < x <;> by_cases h2 : 0 < y <;> by_cases h3 : 0 < x + y <;> simp only [h1, h2, h3, if_true, if_false] <;> omega

theorem addL_nonneg : ∀ (a b : List Int), (∀ c ∈ a, 0 ≤ c) → (∀ c ∈ b, 0 ≤ c) → ∀ c ∈ addL a b, 0 ≤ c
  | [], _, _, _, c, hc => by simp [addL] at hc
  | _ :: _, [], _, _, c, hc => by simp [addL] at hc
  | x :: a, y :: b, ha, hb, c, hc => by
    simp only [addL, List.zipWith_cons_cons, List.mem_cons] at hc
    rcases hc with rfl | hc
    · have := ha x (by simp); have := hb y (by simp); omega
    · exact addL_nonneg a b (fun c hc => ha c (by simp [hc])) (fun c hc => hb c (by simp [hc])) c hc

theorem right_addL {a b : List Int} (ha : isRight a) (hb : isRight b) : isRight (addL a b) ↔ tot a + tot b ≤ 1073741824 := by
  have hl : a.length = b.length := ha.1.trans hb.1.symm
  unfold isRight
  rw [addL_length a b hl, tot_addL a b hl]
  exact ⟨fun h => h.2.2, fun h => ⟨ha.1, addL_nonneg a b ha.2.1 hb.2.1, h⟩⟩

/-- whether two can be added -/
def addOk (a b : List Int) : Prop := isRight a ∧ isRight b ∧ isRight (addL a b)
instance addOk_dec (a b : List Int) : Decidable (addOk a b) := by unfold addOk; infer_instance

theorem adds_not {a b : List Int} (h : ¬ addOk a b) : ¬ (isRight a ∧ isRight b ∧ totalI a ≤ 1073741824 - totalI b) := by
  rintro ⟨ha, hb, ht⟩
  apply h
  refine ⟨ha, hb, (right_addL ha hb).2 ?_⟩
  unfold totalI at ht
  rw [if_pos ha, if_pos hb] at ht
  omega

theorem adds_yes {a b : List Int} (h : addOk a b) : totalI (addL a b) = totalI a + totalI b ∧ manyI a ≤ manyI (addL a b) ∧ manyI b ≤ manyI (addL a b) ∧ manyI (addL a b) ≤ manyI a + manyI b := by
  obtain ⟨ha, hb, hs⟩ := h
  have hl : a.length = b.length := ha.1.trans hb.1.symm
  unfold totalI manyI
  rw [if_pos ha, if_pos hb, if_pos hs, if_pos ha, if_pos hb, if_pos hs]
  exact ⟨tot_addL a b hl, pos_addL a b hl ha.2.1 hb.2.1⟩

/-- how often each byte comes -/
def cnt (xs : List Nat) : List Int := (List.range 256).map fun v => ((xs.count v : Nat) : Int)

theorem cnt_length (xs : List Nat) : (cnt xs).length = 256 := by simp [cnt]
theorem cnt_getD (xs : List Nat) (v : Nat) (h : v < 256) : (cnt xs).getD v 0 = ((xs.count v : Nat) : Int) := by simp [cnt, List.getD_eq_getElem?_getD, h]
theorem cnt_nonneg (xs : List Nat) : ∀ c ∈ cnt xs, 0 ≤ c := by
  intro c hc
  simp only [cnt, List.mem_map] at hc
  obtain ⟨v, _, rfl⟩ := hc
  omega

theorem ext_getD {a b : List Int} (hl : a.length = b.length) (h : ∀ k, k < a.length → a.getD k 0 = b.getD k 0) : a = b := by
  apply List.ext_getElem hl
  intro i h1 h2
  have := h i h1
  rwa [List.getD_eq_getElem?_getD, List.getD_eq_getElem?_getD, List.getElem?_eq_getElem h1, List.getElem?_eq_getElem h2] at this

theorem cnt_append (xs ys : List Nat) : cnt (xs ++ ys) = addL (cnt xs) (cnt ys) := by
  apply ext_getD
  · rw [addL_length _ _ (by rw [cnt_length, cnt_length]), cnt_length, cnt_length]
  · intro k hk
    rw [cnt_length] at hk
    rw [addL_getD _ _ k (by rw [cnt_length]; exact hk) (by rw [cnt_length]; exact hk), cnt_getD _ k hk, cnt_getD _ k hk, cnt_getD _ k hk, List.count_append]
    omega

theorem addL_comm (a b : List Int) : addL a b = addL b a := by
  unfold addL
  rw [List.zipWith_comm]
  congr 1
  funext x y
  omega

theorem cnt_snoc (xs : List Nat) (v : Nat) (hv : v < 256) : cnt (xs ++ [v]) = (cnt xs).set v ((cnt xs).getD v 0 + 1) := by
  apply ext_getD
  · rw [List.length_set, cnt_length, cnt_length]
  · intro k hk
    rw [cnt_length] at hk
    rw [cnt_getD _ k hk, cnt_getD _ v hv, List.count_append]
    by_cases h : v = k
    · subst h
      simp [List.getD_eq_getElem?_getD, cnt_length, hk]
    · rw [List.getD_eq_getElem?_getD, List.getElem?_set_ne h, ← List.getD_eq_getElem?_getD, cnt_getD _ k hk]
      have : List.count k [v] = 0 := by rw [List.count_eq_zero]; simp; omega
      rw [this]; simp

theorem tot_set (l : List Int) (i : Nat) (y : Int) (h : i < l.length) : tot (l.set i y) + l.getD i 0 = tot l + y := by
  induction l generalizing i with
  | nil => simp at h
  | cons x r ih =>
    cases i with
    | zero => simp [tot]; omega
    | succ i =>
      have := ih i (by simpa using h)
      simp only [List.set_cons_succ, tot, List.getD_cons_succ] at this ⊢
      omega

theorem pos_set (l : List Int) (i : Nat) (y : Int) (h : i < l.length) : pos (l.set i y) + (if 0 < l.getD i 0 then 1 else 0) = pos l + if 0 < y then 1 else 0 := by
  induction l generalizing i with
  | nil => simp at h
  | cons x r ih =>
    cases i with
    | zero => simp [pos]; omega
    | succ i =>
      have := ih i (by simpa using h)
      simp only [List.set_cons_succ, pos, List.getD_cons_succ] at this ⊢
      omega

theorem tot_zeros (n : Nat) : tot (List.replicate n 0) = 0 := by
  induction n with
  | zero => rfl
  | succ n ih => simp only [List.replicate_succ, tot, ih]; rfl

theorem count_none (n : Nat) : ((List.range n).map fun v => ((([] : List Nat).count v : Nat) : Int)) = List.replicate n 0 := by
  apply List.ext_getElem (by simp)
  intro i h1 h2
  simp
theorem cnt_nil : cnt [] = List.replicate 256 0 := count_none 256

theorem snoc_ind {P : List Nat → Prop} (h0 : P []) (h1 : ∀ xs x, P xs → P (xs ++ [x])) (xs : List Nat) : P xs := by
  rw [← List.reverse_reverse xs]
  induction xs.reverse with
  | nil => simpa using h0
  | cons x r ih => rw [List.reverse_cons]; exact h1 _ _ ih

theorem tot_cnt (xs : List Nat) : (∀ x ∈ xs, x < 256) → tot (cnt xs) = (xs.length : Int) := by
  refine snoc_ind (P := fun xs => (∀ x ∈ xs, x < 256) → tot (cnt xs) = (xs.length : Int)) ?_ ?_ xs
  · intro _
    rw [cnt_nil, tot_zeros]; rfl
  · intro xs x ih hx
    have hx0 : x < 256 := hx x (by simp)
    have := ih (fun y hy => hx y (by simp [hy]))
    have hs := tot_set (cnt xs) x ((cnt xs).getD x 0 + 1) (by rw [cnt_length]; exact hx0)
    rw [cnt_snoc xs x hx0]
    simp only [List.length_append, List.length_cons, List.length_nil]
    omega

theorem cnt_right (xs : List Nat) (hx : ∀ x ∈ xs, x < 256) (hl : xs.length ≤ 1073741824) : isRight (cnt xs) :=
  ⟨cnt_length xs, cnt_nonneg xs, by rw [tot_cnt xs hx]; omega⟩

theorem total_cnt (xs : List Nat) (hx : ∀ x ∈ xs, x < 256) (hl : xs.length ≤ 1073741824) : totalI (cnt xs) = (xs.length : Int) := by
  unfold totalI; rw [if_pos (cnt_right xs hx hl), tot_cnt xs hx]

theorem addOk_cnt (xs ys : List Nat) (hx : ∀ x ∈ xs, x < 256) (hy : ∀ x ∈ ys, x < 256) (hl : xs.length + ys.length ≤ 1073741824) : addOk (cnt xs) (cnt ys) := by
  refine ⟨cnt_right xs hx (by omega), cnt_right ys hy (by omega), ?_⟩
  rw [← cnt_append]
  refine cnt_right _ (fun x h => ?_) (by rw [List.length_append]; omega)
  rcases List.mem_append.1 h with h | h
  · exact hx x h
  · exact hy x h

theorem many_snoc (xs : List Nat) (v : Nat) (hx : ∀ x ∈ xs, x < 256) (hv : v < 256) (hl : xs.length < 1073741824) :
    manyI (cnt (xs ++ [v])) = if (cnt xs).getD v 0 = 0 then manyI (cnt xs) + 1 else manyI (cnt xs) := by
  have h1 := cnt_right xs hx (by omega)
  have h2 := cnt_right (xs ++ [v]) (fun x h => by
    rcases List.mem_append.1 h with h | h
    · exact hx x h
    · simp at h; omega) (by simp; omega)
  unfold manyI
  rw [if_pos h1, if_pos h2, cnt_snoc xs v hv]
  have hs := pos_set (cnt xs) v ((cnt xs).getD v 0 + 1) (by rw [cnt_length]; exact hv)
  have hn := cnt_nonneg xs _ (getD_mem (cs := cnt xs) (k := v) (by rw [cnt_length]; exact hv))
  rw [if_pos (show 0 < (cnt xs).getD v 0 + 1 by omega)] at hs
  by_cases h0 : (cnt xs).getD v 0 = 0
  · rw [if_pos h0]
    rw [if_neg (show ¬ 0 < (cnt xs).getD v 0 by omega)] at hs
    omega
  · rw [if_neg h0]
    rw [if_pos (show 0 < (cnt xs).getD v 0 by omega)] at hs
    omega

end Go.Proofs.Ytgnenelfbmpfgaa

/- Rows of numbers (int) in memory: read, or of one's own; what puncheonref01.Ints tells. -/
namespace Go.Proofs.Ytgnenelfbmpfgaa
open Go.RowKit

/-- numbers as values -/
def iw (zs : List Int) : List Value := zs.map fun z => .int .i64 z
theorem iw_length (zs : List Int) : (iw zs).length = zs.length := by simp [iw]
theorem iw_set (zs : List Int) (i : Nat) (z : Int) : (iw zs).set i (.int .i64 z) = iw (zs.set i z) := by simp [iw, List.map_set]
theorem iw_snoc (zs : List Int) (z : Int) : iw zs ++ [.int .i64 z] = iw (zs ++ [z]) := by simp [iw]
theorem iw_get (zs : List Int) (i : Nat) (h : i < zs.length) : (iw zs)[i]? = some (.int .i64 (zs.getD i 0)) := by
  simp [iw, List.getElem?_eq_getElem h]

theorem RdI.form {w : World} {v : Value} {zs : List Int} (h : RdI w v zs) : ∃ ao cap, v = .slice ao zs.length cap := by
  rcases h with ⟨rfl, ao, c, rfl⟩ | ⟨g, off, cap, rfl, _⟩
  · exact ⟨ao, c, rfl⟩
  · exact ⟨_, cap, rfl⟩

theorem RdI.at {w : World} {ao : Option Addr} {n cap : Nat} {zs : List Int} (h : RdI w (.slice ao n cap) zs) (k : Nat) (hk : k < zs.length) : ∃ g off, ao = some ⟨g, off, none⟩ ∧ w.cell? ⟨g, off + k, none⟩ = some (.int .i64 (zs.getD k 0)) := by
  rcases h with ⟨h0, _⟩ | ⟨g, off, cap', he, hc⟩
  · rw [h0] at hk; simp at hk
  · simp only [Value.slice.injEq] at he
    exact ⟨g, off, he.1, hc _ hk⟩

theorem RdB.at {w : World} {ao : Option Addr} {n cap : Nat} {xs : List Nat} (h : RdB w (.slice ao n cap) xs) (k : Nat) (hk : k < xs.length) : ∃ g off, ao = some ⟨g, off, none⟩ ∧ w.cell? ⟨g, off + k, none⟩ = some (.int .u8 ((xs.getD k 0 : Nat) : Int)) := by
  rcases h with ⟨h0, _⟩ | ⟨g, off, cap', he, hc⟩
  · rw [h0] at hk; simp at hk
  · simp only [Value.slice.injEq] at he
    exact ⟨g, off, he.1, hc _ hk⟩

/-- A block that is a row of numbers, of any kind (a slice's, or an array's). -/
def RowI (w : World) (g : Nat) (t : TypeId) (zs : List Int) : Prop := w.heap[g]? = some (.cells (iw zs).toArray t (0, 0))

theorem RowI.cell {w : World} {g : Nat} {t : TypeId} {zs : List Int} (h : RowI w g t zs) (k : Nat) (hk : k < zs.length) : w.cell? ⟨g, k, none⟩ = some (.int .i64 (zs.getD k 0)) := by
  rw [cell_of_row w g k _ _ _ h, List.getElem?_toArray, iw_get zs k hk]
theorem RowI.free {w : World} {g : Nat} {t : TypeId} {zs : List Int} (h : RowI w g t zs) (k : Nat) : w.frozen? ⟨g, k, none⟩ = false := frozen_of_row w g k _ _ h
theorem RowI.kept {S : Nat → Prop} {w w' : World} {g : Nat} {t : TypeId} {zs : List Int} (h : RowI w g t zs) (hc : Chg S w w') (hS : ¬ S g) : RowI w' g t zs := (hc.block g (lt_of_block h) hS).trans h
theorem RowI.lt {w : World} {g : Nat} {t : TypeId} {zs : List Int} (h : RowI w g t zs) : g < w.heap.size := lt_of_block h
theorem RowI.set {w : World} {g : Nat} {t : TypeId} {zs : List Int} (h : RowI w g t zs) (i : Nat) (z : Int) : RowI (w.setCell ⟨g, i, none⟩ (.int .i64 z)) g t (zs.set i z) := by
  have := heap_setCell_same w g i _ _ (.int .i64 z) h
  unfold RowI
  rw [this, List.setIfInBounds_toArray, iw_set]
theorem RowI.rd {w : World} {g : Nat} {t : TypeId} {zs : List Int} (h : RowI w g t zs) (cap : Nat) : RdI w (.slice (some ⟨g, 0, none⟩) zs.length cap) zs :=
  .inr ⟨g, 0, cap, rfl, fun j hj => by rw [Nat.zero_add]; exact h.cell j hj⟩

/-- The value v is a slice of the numbers zs, in memory from block base on, that may be written. -/
def OwnI (w : World) (base : Nat) (v : Value) (zs : List Int) : Prop :=
  ∃ g off cap, v = .slice (some ⟨g, off, none⟩) zs.length cap ∧ base ≤ g ∧ g < w.heap.size ∧ (∀ j, j < zs.length → w.cell? ⟨g, off + j, none⟩ = some (.int .i64 (zs.getD j 0))) ∧ ∀ j, w.frozen? ⟨g, off + j, none⟩ = false

theorem OwnI.rd {w : World} {base : Nat} {v : Value} {zs : List Int} (h : OwnI w base v zs) : RdI w v zs := by
  obtain ⟨g, off, cap, rfl, _, _, hc, _⟩ := h
  exact .inr ⟨g, off, cap, rfl, hc⟩
theorem OwnI.kept {S : Nat → Prop} {w w' : World} {base : Nat} {v : Value} {zs : List Int} (h : OwnI w base v zs) (hc : Chg S w w') (hS : ∀ k, v.ownBlock = some k → ¬ S k) : OwnI w' base v zs := by
  obtain ⟨g, off, cap, rfl, hb, hl, hcell, hf⟩ := h
  have hblk := hc.block g hl (hS g rfl)
  refine ⟨g, off, cap, rfl, hb, Nat.lt_of_lt_of_le hl hc.size, fun j hj => ?_, fun j => ?_⟩
  · rw [World.cell?_of_block (w := w) hblk]; exact hcell j hj
  · have := hf j
    unfold World.frozen? at this ⊢
    simp only [hblk]; exact this
theorem OwnI.mono {w : World} {base base' : Nat} {v : Value} {zs : List Int} (h : OwnI w base v zs) (hb : base' ≤ base) : OwnI w base' v zs := by
  obtain ⟨g, off, cap, rfl, h1, h2, h3⟩ := h
  exact ⟨g, off, cap, rfl, Nat.le_trans hb h1, h2, h3⟩
theorem OwnI.drew {w : World} {base : Nat} {v : Value} {zs : List Int} (h : OwnI w base v zs) : OwnI w.drew base v zs := h.kept ((Chg.refl (fun _ => False) w).drew) (by simp)
theorem RowI.own {w : World} {g : Nat} {t : TypeId} {zs : List Int} (h : RowI w g t zs) (cap base : Nat) (hb : base ≤ g) : OwnI w base (.slice (some ⟨g, 0, none⟩) zs.length cap) zs :=
  ⟨g, 0, cap, rfl, hb, h.lt, fun j hj => by rw [Nat.zero_add]; exact h.cell j hj, fun j => h.free _⟩

theorem OwnI.store {w : World} {base g off n cap : Nat} {zs : List Int} (h : OwnI w base (.slice (some ⟨g, off, none⟩) n cap) zs) (i : Nat) (hi : i < zs.length) (z : Int) :
    OwnI (w.setCell ⟨g, off + i, none⟩ (.int .i64 z)) base (.slice (some ⟨g, off, none⟩) n cap) (zs.set i z) := by
  obtain ⟨g', off', cap', he, hb, hl, hcell, hf⟩ := h
  simp only [Value.slice.injEq, Option.some.injEq, Addr.mk.injEq] at he
  obtain ⟨⟨rfl, rfl, -⟩, rfl, rfl⟩ := he
  refine ⟨g, off, cap, by simp, hb, by simpa [World.setCell] using hl, fun j hj => ?_, fun j => ?_⟩
  · rw [List.length_set] at hj
    by_cases hij : i = j
    · subst hij
      rw [World.cell?_setCell_same _ _ _ (hcell i hi), List.getD_eq_getElem?_getD, List.getElem?_set_self hi]; rfl
    · rw [World.cell?_setCell_other _ _ _ _ (by simp [hij]), hcell j hj, List.getD_eq_getElem?_getD, List.getD_eq_getElem?_getD, List.getElem?_set_ne hij]
  · rw [World.frozen?_setCell]; exact hf j

theorem drewN2 (w : World) (m n : Nat) : (w.drewN m).drewN n = w.drewN (m + n) := by
  simp [World.drewN, Nat.add_assoc]

theorem iw_zeros (n : Nat) : iw (List.replicate n 0) = List.replicate n (.int .i64 0) := by simp [iw]

theorem Try.infoInt : (Try.prog.info? 3).map (fun i => (i.zero, i.size, i.bytes)) = some (some (.int .i64 0), 1, 8) := by kernel_rfl

theorem zeros_iw (n : Nat) : (madeCells (Value.int .i64 0).cells (n * 1)).toList = iw (List.replicate n 0) := by
  rw [iw_zeros, Nat.mul_one]
  apply List.ext_getElem (by simp [madeCells])
  intro i h1 h2
  simp [madeCells, Value.cells, Nat.mod_one]

theorem RowI.of_own {w : World} {base g n : Nat} {zs : List Int} (h : w.ownsRow base 3 1 (.slice (some ⟨g, 0, none⟩) n n) n (iw zs)) : RowI w g 3 zs := by
  rcases h.2 with ⟨h0, _⟩ | ⟨g', cap, cur, he, _, hg, _, _, hs, ht⟩
  · simp at h0
  · simp only [Value.slice.injEq, Option.some.injEq, Addr.mk.injEq, and_true, true_and] at he
    obtain ⟨rfl, rfl⟩ := he
    have : cur = (iw zs).toArray := by
      apply Array.ext'
      rw [← ht, List.take_of_length_le (by rw [Array.length_toList, hs]; exact Nat.le_refl _)]
    rw [this] at hg
    exact hg

theorem wpList_make_ints {ops : Array Oper} {rest : List Oper} {o : Oper} {a : Act} {w : World} {Q : Exit → Act → World → Prop} (hg : o.guard = none) (l c : Operand) (hop : o.op = Op.makeSlice 39 l c)
    (L C : Int) (n : Nat) (hl : a.eval l = .int .i64 L) (hc : a.eval c = .int .i64 C) (hL : L = (n : Int)) (hC : C = (n : Int)) (hn : n < 100000000000) (Z : List Int) (hZ : Z = List.replicate n 0)
    (hK : ∀ w', RowI w' w.heap.size 3 Z → Chg (fun _ => False) w w' → wpList Try.prog ops Q rest (a.put o.dst (.slice (some ⟨w.heap.size, 0, none⟩) n n)) w') : wpList Try.prog ops Q (o :: rest) a w := by
  obtain ⟨i, hi, hz0, hz1, hz2⟩ := info_parts Try.infoInt
  refine wpList_make_full w hg l c 39 hop w.heap.size 3 i (.int .i64 0) 1 Try.underlying39 hi hz0 hz1 .i64 .i64 L C n hl hc hL hC (by rw [hz2]; omega) (by unfold maxLen; omega) (Nat.le_refl _) ?_
  intro w1 h1 h2
  rw [zeros_iw, ← hZ] at h1
  exact hK w1 (RowI.of_own h1) ((Chg.of_grown h2).mono fun k _ hk => by simp at hk)

/-- bytes that the call has laid -/
theorem rdb_new (w : World) (xs : List Nat) (cs : Array Value) (n : Nat) (fr : Nat × Nat) (h : cs.toList = bv xs) (hn : n = xs.length) : RdB (w.alloc (.cells cs 5 fr)) (.slice (some ⟨w.heap.size, 0, none⟩) n n) xs := by
  subst hn
  refine .inr ⟨w.heap.size, 0, xs.length, rfl, fun j hj => ?_⟩
  rw [cell_of_row _ _ _ _ _ _ (heap_alloc_new w _), Nat.zero_add, ← Array.getElem?_toList, h, bv_get xs j hj]

theorem eq_upTo {a b : List Int} (hl : a.length = b.length) (h : ∀ j, j < a.length → a.getD j 0 = b.getD j 0) : a = b := ext_getD hl h

/-- no more than there is room for -/
def RoomOk (v : Value) : Prop := ∀ ao len cap, v = .slice ao len cap → len ≤ cap

theorem RoomOk.of {ao : Option Addr} {len cap : Nat} (h : len ≤ cap) : RoomOk (.slice ao len cap) := fun _ _ _ e => by cases e; exact h

end Go.Proofs.Ytgnenelfbmpfgaa

/- What math/bits.Len64 and math/bits.Len tell of any number. -/
namespace Go.Proofs.Ytgnenelfbmpfgaa
open Go.RowKit

theorem len_fin {x y c : Int} (b : Nat) (hc : c = (b : Int)) (hb : b ≤ 56) (hy : y.toNat = x.toNat / 2 ^ b) (hy1 : 1 ≤ y) (hy2 : y < 256) : wrap64 (c + wrap64 ((bitLen y.toNat : Nat) : Int)) = ((bitLen x.toNat : Nat) : Int) := by
  have h8 := bitLen_le8 y.toNat (by omega)
  have hs := bitLen_shift x.toNat b (by omega)
  rw [← hy] at hs
  rw [hs, hc]
  generalize bitLen y.toNat = l at *
  unfold wrap64
  omega

set_option maxRecDepth 100000 in
set_option maxHeartbeats 4000000 in
theorem len64_any (x : Int) (h0 : 0 ≤ x) (hx : x ≤ 18446744073709551615) (w : World) : Calls Try.prog 43 #[.int .u64 x] w fun e w' => e = .returned (.int .i64 (bitLen x.toNat : Int)) ∧ w' = w := by
  go_enter Try.func43, Try.ntmps43
  go_wp2
  all_goals rw [len8tab_get]
  all_goals go_ret
  all_goals refine ⟨congrArg (fun z => Ending.returned (Value.int .i64 z)) ?_, rfl⟩
  · exact len_fin 56 rfl (by decide) (by omega) (by omega) (by omega)
  · exact len_fin 48 rfl (by decide) (by omega) (by omega) (by omega)
  · exact len_fin 40 rfl (by decide) (by omega) (by omega) (by omega)
  · exact len_fin 32 rfl (by decide) (by omega) (by omega) (by omega)
  · exact len_fin 24 rfl (by decide) (by omega) (by omega) (by omega)
  · exact len_fin 16 rfl (by decide) (by omega) (by omega) (by omega)
  · exact len_fin 8 rfl (by decide) (by omega) (by omega) (by omega)
  · have h8 := bitLen_le8 x.toNat (by omega)
    generalize bitLen x.toNat = l at *
    unfold wrap64
    omega

theorem len_any (x : Int) (h0 : 0 ≤ x) (hx : x ≤ 18446744073709551615) (w : World) : Calls Try.prog 38 #[.int .u64 x] w fun e w' => e = .returned (.int .i64 (bitLen x.toNat : Int)) ∧ w' = w := by
  have H := fun w => len64_any x h0 hx w
  go_enter Try.func38, Try.ntmps38
  go_wp2_with fail
  refine (H _).mono ?_
  rintro e w' ⟨rfl, rfl⟩
  go_wp2
  go_ret
  exact ⟨rfl, rfl⟩

end Go.Proofs.Ytgnenelfbmpfgaa

/- What logs' Floor, Ceil, Width and Pick tell. THIS ALONE SPEAKS OF THE PROGRAM'S OWN TEXT. -/
namespace Go.Proofs.Ytgnenelfbmpfgaa
open Go.RowKit

theorem bitLen_width {n : Int} (h : 1 ≤ n) : bitLen n.toNat = widthI n := by
  unfold bitLen widthI
  rw [if_neg (by omega), if_neg (by omega)]

theorem lwidth_w (n : Int) (w : World) (hn : n ≤ 1099511627776) (hlo : -9223372036854775808 ≤ n) :
    Calls Try.prog 25 #[.int .i64 n] w fun e w' => e = .returned (.int .i64 ((widthI n : Nat) : Int)) ∧ w' = w := by
  by_cases h1 : n < 1
  · have hw := width_small h1
    go_enter Try.func25, Try.ntmps25
    go_wp2
    go_ret
    rw [hw]
    exact ⟨rfl, rfl⟩
  · have hw := bitLen_width (n := n) (by omega)
    have H := fun w => len_any n (by omega) (by omega) w
    have hm : n % 18446744073709551616 = n := by omega
    go_enter Try.func25, Try.ntmps25
    go_wp2_with fail
    refine (H _).mono ?_
    rintro e w' ⟨rfl, rfl⟩
    go_wp2
    go_ret
    exact ⟨rfl, rfl⟩

theorem lwidth_any (n : Int) (w : World) (hn : n ≤ 1099511627776) (hlo : -9223372036854775808 ≤ n) :
    Calls Try.prog 25 #[.int .i64 n] w fun e w' => e = .returned (.int .i64 ((widthI n : Nat) : Int)) ∧ Chg (fun _ => False) w w' :=
  (lwidth_w n w hn hlo).mono fun _ _ h => ⟨h.1, h.2 ▸ Chg.refl _ _⟩
theorem foldl_take_succ (a : Int) (zs : List Int) (k : Nat) (hk : k < zs.length) : (zs.take (k + 1)).foldl max a = max ((zs.take k).foldl max a) (zs.getD k 0) := by
  rw [List.take_add_one, List.foldl_append]
  simp [List.getElem?_eq_getElem hk]

end Go.Proofs.Ytgnenelfbmpfgaa

/- What budget's Put, Take and Cost do. THIS ALONE SPEAKS OF THE PROGRAM'S OWN TEXT. -/
namespace Go.Proofs.Ytgnenelfbmpfgaa
open Go.RowKit

theorem bgwithin_i (n a z : Int) (w : World) : Calls Try.prog 39 #[.int .i64 n, .int .i64 a, .int .i64 z] w fun e w' => e = .returned (.bool (decide (a ≤ n ∧ n ≤ z))) ∧ w' = w := by
  by_cases h1 : a ≤ n
  · have d1 : decide (a ≤ n) = true := decide_eq_true h1
    have hd : decide (a ≤ n ∧ n ≤ z) = decide (n ≤ z) := decide_eq_decide.2 ⟨fun h => h.2, fun h => ⟨h1, h⟩⟩
    rw [hd]
    clear hd h1
    go_enter Try.func39, Try.ntmps39
    go_wp2
    go_ret
    exact ⟨rfl, rfl⟩
  · have d1 : decide (a ≤ n) = false := decide_eq_false h1
    have hd : decide (a ≤ n ∧ n ≤ z) = false := decide_eq_false fun h => h1 h.1
    rw [hd]
    clear hd h1
    go_enter Try.func39, Try.ntmps39
    go_wp2
    go_ret
    exact ⟨rfl, rfl⟩

theorem bgwithin_u (n a z : Int) (w : World) : Calls Try.prog 34 #[.int .u32 n, .int .u32 a, .int .u32 z] w fun e w' => e = .returned (.bool (decide (a ≤ n ∧ n ≤ z))) ∧ w' = w := by
  by_cases h1 : a ≤ n
  · have d1 : decide (a ≤ n) = true := decide_eq_true h1
    have hd : decide (a ≤ n ∧ n ≤ z) = decide (n ≤ z) := decide_eq_decide.2 ⟨fun h => h.2, fun h => ⟨h1, h⟩⟩
    rw [hd]
    clear hd h1
    go_enter Try.func34, Try.ntmps34
    go_wp2
    go_ret
    exact ⟨rfl, rfl⟩
  · have d1 : decide (a ≤ n) = false := decide_eq_false h1
    have hd : decide (a ≤ n ∧ n ≤ z) = false := decide_eq_false fun h => h1 h.1
    rw [hd]
    clear hd h1
    go_enter Try.func34, Try.ntmps34
    go_wp2
    go_ret
    exact ⟨rfl, rfl⟩

theorem bgleft_any (l : Int) (w : World) : Calls Try.prog 32 #[.int .i64 l] w fun e w' => e = .returned (.bool (decide (1 ≤ l ∧ l ≤ 4096))) ∧ w' = w := by
  have HI := Lib.hid (bgwithin_i l 1 4096 w)
  go_enter Try.func32, Try.ntmps32
  go_wp2_with fail
  refine (HI.out).mono ?_
  rintro e w1 ⟨rfl, rfl⟩
  go_wp2
  go_ret
  exact ⟨by rw [Bool.decide_and]; rfl, rfl⟩

theorem bgmay_any (v l : Int) (w : World) : Calls Try.prog 29 #[.int .i64 v, .int .i64 l] w fun e w' => e = .returned (.bool (decide (bCan v l))) ∧ w' = w := by
  have HL := Lib.hid (bgleft_any l w)
  by_cases h1 : 1 ≤ l ∧ l ≤ 4096
  · have hd : decide (bCan v l) = decide (0 ≤ v ∧ v ≤ l) := decide_eq_decide.2 ⟨fun h => h.2.2, fun h => ⟨h1.1, h1.2, h.1, h.2⟩⟩
    have HI := Lib.hid (bgwithin_i v 0 l w)
    rw [hd]
    rw [decide_eq_true h1] at HL
    clear hd h1
    go_enter Try.func29, Try.ntmps29
    go_wp2_with fail
    refine (HL.out).mono ?_
    rintro e w1 ⟨rfl, rfl⟩
    go_wp2_with fail
    refine (HI.out).mono ?_
    rintro e w1 ⟨rfl, rfl⟩
    go_wp2
    go_ret
    exact ⟨by rw [Bool.decide_and]; rfl, rfl⟩
  · have hd : decide (bCan v l) = false := decide_eq_false fun h => h1 ⟨h.1, h.2.1⟩
    rw [hd]
    rw [decide_eq_false h1] at HL
    clear hd h1
    go_enter Try.func29, Try.ntmps29
    go_wp2_with fail
    refine (HL.out).mono ?_
    rintro e w1 ⟨rfl, rfl⟩
    go_wp2
    go_ret
    exact ⟨rfl, rfl⟩

theorem bgput_any (b : Nat) (o : Option Nat) (bs : List Bool) (v l : Int) (w : World) (h : Wr w b o bs) (hlen : bs.length < 900000000) (hv : -9223372036854775808 ≤ v ∧ v ≤ 9223372036854775807) (hl : -9223372036854775808 ≤ l ∧ l ≤ 9223372036854775807) :
    Calls Try.prog 12 #[.pointer (some ⟨b, 0, none⟩), .int .i64 v, .int .i64 l] w fun e w' => e = .returned (.bool (decide (bCan v l))) ∧ WrTo w w' b o (bgPutB bs v l) := by
  have HC := Lib.hid (bgmay_any v l w)
  by_cases hc : bCan v l
  · obtain ⟨h1, h2, h3, h4⟩ := hc
    have hw := width_13 h1 h2
    have HW := Lib.hid (lwidth_w l w (by omega) (by omega))
    have hbs : bgPutB bs v l = bs ++ bitsOf v.toNat (widthI l) := by unfold bgPutB; rw [if_pos ⟨h1, h2, h3, h4⟩]
    have hdt : decide (bCan v l) = true := decide_eq_true (show bCan v l from ⟨h1, h2, h3, h4⟩)
    rw [hdt] at HC ⊢
    clear hdt
    obtain ⟨x, rfl⟩ := Int.eq_ofNat_of_zero_le h3
    rw [Int.toNat_natCast] at hbs
    have HP := Lib.hid (put_yes b o bs x (widthI l) w h hlen (by omega) (by omega))
    have hx : (x : Int) % 4294967296 = (x : Int) := by omega
    obtain ⟨n, hn⟩ : ∃ n, widthI l = n := ⟨_, rfl⟩
    rw [hn] at HW HP hbs
    have HBS := Lib.hid hbs
    clear hbs hn h hw hlen
    go_enter Try.func12, Try.ntmps12
    go_wp2_with fail
    refine (HC.out).mono ?_
    rintro e w1 ⟨rfl, rfl⟩
    go_wp2_with fail
    refine (HW.out).mono ?_
    rintro e w1 ⟨rfl, rfl⟩
    go_wp2_with fail
    refine (HP.out).mono ?_
    rintro e w2 ⟨rfl, ho2⟩
    have HO2 := Lib.hid ho2
    clear ho2
    go_wp2
    go_ret
    exact ⟨rfl, by rw [HBS.out]; exact HO2.out⟩
  · have hbs : bgPutB bs v l = bs := by unfold bgPutB; rw [if_neg hc]
    rw [decide_eq_false hc] at HC ⊢
    have HBS := Lib.hid hbs; have HO := Lib.hid h
    clear hbs h hc
    go_enter Try.func12, Try.ntmps12
    go_wp2_with fail
    refine (HC.out).mono ?_
    rintro e w1 ⟨rfl, rfl⟩
    go_wp2
    go_ret
    exact ⟨rfl, by rw [HBS.out]; exact ⟨o, HO.out, Chg.refl _ _, .inl rfl⟩⟩

theorem bgcost_any (v l : Int) (w : World) (hv : -9223372036854775808 ≤ v ∧ v ≤ 9223372036854775807) (hl : -9223372036854775808 ≤ l ∧ l ≤ 9223372036854775807) :
    Calls Try.prog 13 #[.int .i64 v, .int .i64 l] w fun e w' => e = .returned (.int .i64 ((bgCostN v l : Nat) : Int)) ∧ Chg (fun _ => False) w w' := by
  have HC := Lib.hid (bgmay_any v l w)
  by_cases hc : bCan v l
  · have hb : bgCostN v l = widthI l := by unfold bgCostN; rw [if_pos hc]
    have HW := Lib.hid (lwidth_w l w (by have := hc.2.1; omega) (by omega))
    rw [decide_eq_true hc] at HC
    rw [hb]
    clear hb hc
    go_enter Try.func13, Try.ntmps13
    go_wp2_with fail
    refine (HC.out).mono ?_
    rintro e w1 ⟨rfl, rfl⟩
    go_wp2_with fail
    refine (HW.out).mono ?_
    rintro e w1 ⟨rfl, rfl⟩
    go_wp2
    go_ret
    exact ⟨rfl, Chg.refl _ _⟩
  · have hb : bgCostN v l = 0 := by unfold bgCostN; rw [if_neg hc]
    rw [decide_eq_false hc] at HC
    rw [hb]
    clear hb hc
    go_enter Try.func13, Try.ntmps13
    go_wp2_with fail
    refine (HC.out).mono ?_
    rintro e w1 ⟨rfl, rfl⟩
    go_wp2
    go_ret
    exact ⟨rfl, Chg.refl _ _⟩

theorem bgtake_any (b : Nat) (o : Option Nat) (xs : List Nat) (p : Nat) (l : Int) (w : World) (h : Rf w b o xs p) (hl : -9223372036854775808 ≤ l ∧ l ≤ 9223372036854775807) :
    Calls Try.prog 20 #[.pointer (some ⟨b, 0, none⟩), .int .i64 l] w fun e w' => e = .returned (.tuple #[.int .i64 (bgTk xs p l).1, .int .i64 (bgTk xs p l).2.1]) ∧ Rf w' b o xs (bgTk xs p l).2.2 ∧ Chg (fun k => k = b) w w' := by
  have H := Lib.hid h
  have HL := Lib.hid (bgleft_any l w)
  by_cases h1 : 1 ≤ l ∧ l ≤ 4096
  · rw [decide_eq_true h1] at HL
    have hw := width_13 h1.1 h1.2
    have HW := Lib.hid (lwidth_w l w (by omega) (by omega))
    obtain ⟨n, hn⟩ : ∃ n, widthI l = n := ⟨_, rfl⟩
    have hb : bgTk xs p l = if p + n ≤ 8 * xs.length then (if ((fv xs p n : Nat) : Int) ≤ l then (((fv xs p n : Nat) : Int), 0, p + n) else (0, 13, p + n)) else (0, 3, p) := by unfold bgTk; rw [if_pos h1, hn]
    rw [hn] at HW hw
    have hfv := fv_lt xs p n
    by_cases hh : p + n ≤ 8 * xs.length
    · have HT := Lib.hid (ftake_yes b o xs p n w h (by omega) hh)
      rw [if_pos hh] at hb
      obtain ⟨f, hf⟩ : ∃ f, fv xs p n = f := ⟨_, rfl⟩
      rw [hf] at hb HT hfv
      have hf13 : f < 8192 := Nat.lt_of_lt_of_le hfv (by have := pow_le hw.2.1; have : (2 : Nat) ^ 13 = 8192 := by decide
                                                         omega)
      have hlm : l % 4294967296 = l := by omega
      by_cases hle : (f : Int) ≤ l
      · rw [if_pos hle] at hb
        rw [hb]
        have HU := bgwithin_u (f : Int) 0 l
        rw [decide_eq_true (show 0 ≤ (f : Int) ∧ (f : Int) ≤ l by omega)] at HU
        have HU := Lib.hid HU
        clear hb hf hfv hw hn h h1 hle
        go_enter Try.func20, Try.ntmps20
        go_wp2_with fail
        refine (HL.out).mono ?_
        rintro e w1 ⟨rfl, rfl⟩
        go_wp2_with fail
        refine (HW.out).mono ?_
        rintro e w1 ⟨rfl, rfl⟩
        go_wp2_with fail
        refine (HT.out).mono ?_
        rintro e w2 ⟨rfl, hx2, hc2⟩
        have HX2 := Lib.hid hx2; have HC2 := Lib.hid hc2
        clear hx2 hc2
        go_wp2_with fail
        refine (HU.out _).mono ?_
        rintro e w3 ⟨rfl, rfl⟩
        go_wp2
        go_ret2
        exact ⟨rfl, HX2.out, HC2.out⟩
      · rw [if_neg hle] at hb
        rw [hb]
        have HU := bgwithin_u (f : Int) 0 l
        rw [decide_eq_false (show ¬ (0 ≤ (f : Int) ∧ (f : Int) ≤ l) by omega)] at HU
        have HU := Lib.hid HU
        clear hb hf hfv hw hn h h1 hle
        go_enter Try.func20, Try.ntmps20
        go_wp2_with fail
        refine (HL.out).mono ?_
        rintro e w1 ⟨rfl, rfl⟩
        go_wp2_with fail
        refine (HW.out).mono ?_
        rintro e w1 ⟨rfl, rfl⟩
        go_wp2_with fail
        refine (HT.out).mono ?_
        rintro e w2 ⟨rfl, hx2, hc2⟩
        have HX2 := Lib.hid hx2; have HC2 := Lib.hid hc2
        clear hx2 hc2
        go_wp2_with fail
        refine (HU.out _).mono ?_
        rintro e w3 ⟨rfl, rfl⟩
        go_wp2
        go_ret2
        exact ⟨rfl, HX2.out, HC2.out⟩
    · have HT := Lib.hid (ftake_no b o xs p (n : Int) w h (by omega))
      rw [if_neg hh] at hb
      rw [hb]
      clear hb hfv hw hn h h1 hh
      go_enter Try.func20, Try.ntmps20
      go_wp2_with fail
      refine (HL.out).mono ?_
      rintro e w1 ⟨rfl, rfl⟩
      go_wp2_with fail
      refine (HW.out).mono ?_
      rintro e w1 ⟨rfl, rfl⟩
      go_wp2_with fail
      refine (HT.out).mono ?_
      rintro e w2 ⟨rfl, hc2⟩
      have HC2 := Lib.hid hc2
      clear hc2
      go_wp2
      go_ret2
      exact ⟨rfl, H.out.kept HC2.out (fun h => h) (fun _ _ h => h), HC2.out.mono fun _ _ h => h.elim⟩
  · rw [decide_eq_false h1] at HL
    have hb : bgTk xs p l = (0, 1, p) := by unfold bgTk; rw [if_neg h1]
    rw [hb]
    clear hb h h1
    go_enter Try.func20, Try.ntmps20
    go_wp2_with fail
    refine (HL.out).mono ?_
    rintro e w1 ⟨rfl, rfl⟩
    go_wp2
    go_ret2
    exact ⟨rfl, H.out, Chg.refl _ _⟩

end Go.Proofs.Ytgnenelfbmpfgaa

/- What puncheonlaw01.put does: a Writer with all parts. -/
namespace Go.Proofs.Ytgnenelfbmpfgaa
open Go.RowKit

end Go.Proofs.Ytgnenelfbmpfgaa

/- What bitw's Bytes tells: memory of its own. -/
namespace Go.Proofs.Ytgnenelfbmpfgaa
open Go.RowKit

set_option maxHeartbeats 1000000 in
theorem bytes_any (b : Nat) (o : Option Nat) (bs : List Bool) (w : World) (h : Wr w b o bs) (hlen : bs.length < 1000000000) :
    Calls Try.prog 16 #[.pointer (some ⟨b, 0, none⟩)] w fun e w' => Fresh w (pack bs) e w' := by
  obtain ⟨i, hi, hz0, hz1, hz2⟩ := info_parts Try.infoU8
  obtain ⟨v, hb, ho, hown⟩ := h
  have hbl := lt_of_block hb
  have hlt := hown.lt
  obtain ⟨ao, cap, rfl, hsrc⟩ := own_src hown
  obtain ⟨c0, c1, f0, f1⟩ := cells2 hb
  have hby : i.bytes * ((bs.length + 7) / 8) ≤ 281474976710656 := by rw [hz2]; omega
  have HB := Lib.hid hb; have HS := Lib.hid hsrc; have HLt := Lib.hid hlt
  clear hb hsrc hlt ho
  go_enter Try.func16, Try.ntmps16
  go_wp2_with (at_make; refine wpList_make_full _ rfl (.tmp 8) (.tmp 8) 35 rfl w.heap.size 5 i (.int .u8 0) 1 Try.underlying35 hi hz0 hz1 .i64 .i64 _ _ ((bs.length + 7) / 8) rfl rfl (by omega) (by omega) hby (by unfold maxLen; omega) (Nat.le_refl _) ?_)
  intro w1 hown1 hgrow1
  have hc1 : Chg (fun _ => False) w w1 := (Chg.of_grown hgrow1).mono fun k _ hk => by simp at hk
  have hb1 := (hc1.block b hbl (by simp)).trans HB.out
  obtain ⟨d0, d1, e0, e1⟩ := cells2 hb1
  obtain ⟨Z, hZ, hrow⟩ : ∃ Z : List Value, Z.length = (bs.length + 7) / 8 ∧ w1.heap[w.heap.size]? = some (.cells Z.toArray 5 (0, 0)) := ⟨_, zeros_length _, own_heap hown1⟩
  have hsrc1 := own_src (hc1.own hown (fun k _ => by simp))
  obtain ⟨_, _, hv1, hsrc1⟩ := hsrc1
  simp only [Value.slice.injEq, true_and] at hv1
  obtain ⟨rfl, rfl⟩ := hv1
  clear hb1 hgrow1 hown1
  have HR := Lib.hid hrow; have HC := Lib.hid hc1; have HV := Lib.hid hsrc1; have HZ := Lib.hid hZ
  clear hrow hc1 hsrc1 hZ
  go_wp2_with (with_reducible refine wpList_copy_splice rfl (.tmp 10) (.tmp 14) 35 35 rfl 5 Try.underlying35 Try.sizeU8 _ _ _ _ _ _ rfl rfl w.heap.size 0 Z 5 HR.out (bv (pack bs)) ?c1 ?c2 ?c3 (bv_one _) w.heap.size w1 (Below.refl _ _) (Nat.le_refl _) ?_)
  case c1 => rw [bv_length, pack_length]; exact (Nat.min_self _).symm
  case c2 => intro hp; exact HV.out hp
  case c3 => rw [HZ.out, bv_length, pack_length]; omega
  intro w2 HG2 hB2
  go_wp2
  go_ret
  refine ⟨w.heap.size, (bs.length + 7) / 8, by rw [pack_length]; rfl, ?_, HC.out.then_below hB2⟩
  have := HG2.out
  rw [splice_all _ _ (by rw [HZ.out, bv_length, pack_length])] at this
  rw [pack_length]
  exact own_of_heap (Nat.le_refl _) (by rw [bv_length, pack_length]) (by unfold maxLen; omega) this

end Go.Proofs.Ytgnenelfbmpfgaa

/- What puncheonlaw01.awake tells: the chapter's example holds. -/
namespace Go.Proofs.Ytgnenelfbmpfgaa
open Go.RowKit

theorem ex_bits : putB (putB [] 5 3) 1 2 = [true, false, true, true, false] := by decide
theorem ex_pack : pack [true, false, true, true, false] = [13] := by decide
theorem ex_close : pack ([true, false, true, true, false] ++ [true]) = [45] := by decide
theorem str13 : ((strB [13]).toList == [13]) = true := by decide +kernel
theorem str45 : ((strB [45]).toList == [45]) = true := by decide +kernel

end Go.Proofs.Ytgnenelfbmpfgaa

/- puncheonlaw01.put's end, with the footprint named. -/
namespace Go.Proofs.Ytgnenelfbmpfgaa
open Go.RowKit

end Go.Proofs.Ytgnenelfbmpfgaa

/- The walk of BitwMark: it answers true, and nothing that was there has turned. -/
namespace Go.Proofs.Ytgnenelfbmpfgaa
open Go.RowKit

end Go.Proofs.Ytgnenelfbmpfgaa

/- Bits as a row of bools in memory. -/
namespace Go.Proofs.Ytgnenelfbmpfgaa
open Go.RowKit

def bl (bs : List Bool) : List Value := bs.map Value.bool
theorem bl_length (bs : List Bool) : (bl bs).length = bs.length := by simp [bl]
theorem bl_one (bs : List Bool) : ∀ u ∈ bl bs, u.oneCell' = true := by
  intro u hu
  simp only [bl, List.mem_map] at hu
  obtain ⟨x, _, rfl⟩ := hu
  rfl
theorem bl_get (bs : List Bool) (i : Nat) (h : i < bs.length) : (bl bs)[i]? = some (.bool bs[i]) := by simp [bl, List.getElem?_eq_getElem h]
theorem Try.infoBool : (Try.prog.info? 4).map (fun i => (i.zero, i.size, i.bytes)) = some (some (.bool false), 1, 1) := by kernel_rfl

end Go.Proofs.Ytgnenelfbmpfgaa

/- What the document's own Put, Bytes and Close (puncheonref01) tell. -/
namespace Go.Proofs.Ytgnenelfbmpfgaa
open Go.RowKit


/-- The value is a slice of the bits bs, in a row of the call's own (or nil). -/
def Bools (w : World) (v : Value) (bs : List Bool) : Prop := ∃ base, w.ownsRow base 4 1 v bs.length (bl bs)


set_option maxHeartbeats 1000000 in
theorem rput_any (v : Value) (bs : List Bool) (u n : Nat) (w : World) (h : Bools w v bs) (hlen : bs.length < 1000000) (hn : n ≤ 24) (hu : u < 4294967296) :
    Calls Try.prog 27 #[v, .int .u32 (u : Int), .int .i64 (n : Int)] w fun e w' => ∃ v', e = .returned v' ∧ w'.ownsRow w.heap.size 4 1 v' (bs ++ bitsOf u n).length (bl (bs ++ bitsOf u n)) ∧ Chg (fun _ => False) w w' := by
  obtain ⟨base, hown⟩ := h
  obtain ⟨i, hi, hz0, hz1, hz2⟩ := info_parts Try.infoBool
  rcases hown.2 with ⟨rfl, h0⟩ | ⟨g, cap, cur, rfl, hb, hg, hrest⟩
  · have hbs : bs = [] := List.eq_nil_of_length_eq_zero h0
    have HOWN : Hid ((w.alloc (.cells #[] 4)).ownsRow w.heap.size 4 1 (.slice (some ⟨w.heap.size, 0, none⟩) 0 0) bs.length (bl bs)) := by
      rw [hbs]; exact World.ownsRow_made w #[] 0 (Nat.le_refl _) (by unfold maxLen; omega) rfl
    clear hbs h0 hown
    have HCHG : Hid (Chg (fun _ => False) w (w.alloc (.cells #[] 4))) := Chg.alloc _ w _
    go_enter Try.func27, Try.ntmps27
    go_wp2
    go_loopw [7, 8, 1] (fun o7 o8 o1 wr => ∃ k : Nat, k ≤ n ∧ o8 = .int .i64 (k : Int) ∧ o1 = .int .u32 ((u / 2 ^ k : Nat) : Int) ∧ wr.ownsRow w.heap.size 4 1 o7 (bs.length + k) (bl (bs ++ bitsOf u k)) ∧ Chg (fun _ => False) w wr) (fun _ o8 _ _ => n - (intOf o8).toNat)
    case atStart => exact ⟨0, Nat.zero_le _, rfl, by simp, by simpa [bitsOf] using HOWN.out, HCHG.out⟩
    case round =>
      obtain ⟨k, hk, rfl, rfl, ho, hc⟩ := hrel
      by_cases hlt : k < n
      · have hd := Nat.div_le_self u (2 ^ k)
        have hsz := hc.size
        have hb2 : u / 2 ^ k / 2 = u / 2 ^ (k + 1) := by rw [Nat.div_div_eq_div_mul, Nat.pow_succ]
        have hbit : ((((u / 2 ^ k : Nat) : Int) % 2 == 1)) = decide (u / 2 ^ k % 2 = 1) := by
          rw [Bool.eq_iff_iff]; generalize u / 2 ^ k = y; simp; omega
        have hsn : bl (bs ++ bitsOf u k) ++ [.bool (decide (u / 2 ^ k % 2 = 1))] = bl (bs ++ bitsOf u (k + 1)) := by simp [bl, bitsOf]
        have HS := Lib.hid hsn; have HB2 := Lib.hid hb2; have HBit := Lib.hid hbit
        clear hsn hb2 hbit
        generalize hy : u / 2 ^ k = y at *
        have HY := Lib.hid hy
        clear hy
        go_wp2_with (at_builtin; refine wpList_append_own _ rfl (.tmp 17) (.tmp 21) 26 rfl w.heap.size 4 i (.bool false) 1 1 Try.underlying26 hi hz0 hz1 hz2 rfl (by decide) _ (bs.length + k) _ rfl (ho.alloc _) ⟨wr.heap.size, 0, none⟩ 1 1 _ rfl rfl (cell_one_new _ _ _) ?_ (by unfold maxLen; omega) (by omega) (by simp; omega) ?_)
        · intro x hx; simp at hx; subst hx; rfl
        intro v' w1 ho1 hg1 _
        have hc1 : Chg (fun _ => False) w w1 := (hc.trans (Chg.alloc (fun _ => False) wr _) (fun _ _ h => h)).trans (Chg.of_grown hg1) (fun j hj hx => by have := (ho.lt j hx.symm).1; omega)
        rw [HBit.out, HS.out] at ho1
        clear hg1 ho hc
        go_wp2
        go_roundw
        case rel => exact ⟨k + 1, by omega, by go_num, by rw [← HB2.out]; go_num, ho1, hc1⟩
        case measure => simp [intOf]; omega
      · obtain rfl : k = n := by omega
        go_wp2
        go_ret
        exact ⟨_, rfl, by simpa [bitsOf_length] using ho, hc⟩
  · have HG := Lib.hid hg; have HR := Lib.hid hrest
    have hgl := lt_of_block hg
    have hcells := (hown.alloc (.cells #[] 4)).cells (g := g) rfl
    have HCE := Lib.hid hcells
    clear hg hrest hcells
    go_enter Try.func27, Try.ntmps27
    go_wp2_with (at_builtin; refine wpList_append_own _ rfl (.tmp 9) (.tmp 10) 26 rfl w.heap.size 4 i (.bool false) 1 1 Try.underlying26 hi hz0 hz1 hz2 rfl (by decide) _ 0 _ rfl (World.ownsRow_made w #[] 0 (Nat.le_refl _) (by unfold maxLen; omega) rfl) ⟨g, 0, none⟩ bs.length cap (bl bs) rfl (by rw [bl_length, Nat.mul_one]) HCE.out (bl_one bs) (by unfold maxLen; omega) (by omega) (by simp) ?_)
    intro v7 w7 ho7 hg7 _
    have hc7 : Chg (fun _ => False) w w7 := (Chg.alloc (fun _ => False) w _).trans (Chg.of_grown hg7) (fun j hj hx => by simp [Value.ownBlock] at hx; omega)
    have HOWN := Lib.hid ho7
    have HCHG := Lib.hid hc7
    clear ho7 hc7 hg7
    go_wp2
    go_loopw [7, 8, 1] (fun o7 o8 o1 wr => ∃ k : Nat, k ≤ n ∧ o8 = .int .i64 (k : Int) ∧ o1 = .int .u32 ((u / 2 ^ k : Nat) : Int) ∧ wr.ownsRow w.heap.size 4 1 o7 (bs.length + k) (bl (bs ++ bitsOf u k)) ∧ Chg (fun _ => False) w wr) (fun _ o8 _ _ => n - (intOf o8).toNat)
    case atStart => exact ⟨0, Nat.zero_le _, rfl, by simp, by simpa [bitsOf] using HOWN.out, HCHG.out⟩
    case round =>
      obtain ⟨k, hk, rfl, rfl, ho, hc⟩ := hrel
      by_cases hlt : k < n
      · have hd := Nat.div_le_self u (2 ^ k)
        have hsz := hc.size
        have hb2 : u / 2 ^ k / 2 = u / 2 ^ (k + 1) := by rw [Nat.div_div_eq_div_mul, Nat.pow_succ]
        have hbit : ((((u / 2 ^ k : Nat) : Int) % 2 == 1)) = decide (u / 2 ^ k % 2 = 1) := by
          rw [Bool.eq_iff_iff]; generalize u / 2 ^ k = y; simp; omega
        have hsn : bl (bs ++ bitsOf u k) ++ [.bool (decide (u / 2 ^ k % 2 = 1))] = bl (bs ++ bitsOf u (k + 1)) := by simp [bl, bitsOf]
        have HS := Lib.hid hsn; have HB2 := Lib.hid hb2; have HBit := Lib.hid hbit
        clear hsn hb2 hbit
        generalize hy : u / 2 ^ k = y at *
        have HY := Lib.hid hy
        clear hy
        go_wp2_with (at_builtin; refine wpList_append_own _ rfl (.tmp 17) (.tmp 21) 26 rfl w.heap.size 4 i (.bool false) 1 1 Try.underlying26 hi hz0 hz1 hz2 rfl (by decide) _ (bs.length + k) _ rfl (ho.alloc _) ⟨wr.heap.size, 0, none⟩ 1 1 _ rfl rfl (cell_one_new _ _ _) ?_ (by unfold maxLen; omega) (by omega) (by simp; omega) ?_)
        · intro x hx; simp at hx; subst hx; rfl
        intro v' w1 ho1 hg1 _
        have hc1 : Chg (fun _ => False) w w1 := (hc.trans (Chg.alloc (fun _ => False) wr _) (fun _ _ h => h)).trans (Chg.of_grown hg1) (fun j hj hx => by have := (ho.lt j hx.symm).1; omega)
        rw [HBit.out, HS.out] at ho1
        clear hg1 ho hc
        go_wp2
        go_roundw
        case rel => exact ⟨k + 1, by omega, by go_num, by rw [← HB2.out]; go_num, ho1, hc1⟩
        case measure => simp [intOf]; omega
      · obtain rfl : k = n := by omega
        go_wp2
        go_ret
        exact ⟨_, rfl, by simpa [bitsOf_length] using ho, hc⟩

/-- bytes of the first i bits, in as many bytes as all bits need -/
def packTo (bs : List Bool) (i : Nat) : List Nat := (List.range ((bs.length + 7) / 8)).map (byteAt (bs.take i))
theorem packTo_length (bs : List Bool) (i : Nat) : (packTo bs i).length = (bs.length + 7) / 8 := by simp [packTo]
theorem packTo_all (bs : List Bool) : packTo bs bs.length = pack bs := by simp [packTo, pack]
theorem packTo_zero (bs : List Bool) : packTo bs 0 = List.replicate ((bs.length + 7) / 8) 0 := by
  apply List.ext_getElem (by simp [packTo])
  intro j h1 h2
  simp [packTo, byteAt, val]
theorem packTo_get (bs : List Bool) (i j : Nat) (h : j < (bs.length + 7) / 8) : (packTo bs i).getD j 0 = byteAt (bs.take i) j := by
  simp [packTo, h]
theorem take_len_le (bs : List Bool) (i : Nat) (h : i ≤ bs.length) : (bs.take i).length = i := by simp; omega
theorem packTo_lt (bs : List Bool) (i : Nat) (h : i < bs.length) : (packTo bs i).getD (i / 8) 0 < 2 ^ (i % 8) := by
  rw [packTo_get _ _ _ (by omega)]
  have := byteAt_last_lt (bs.take i)
  rwa [take_len_le bs i (by omega)] at this
theorem packTo_succ (bs : List Bool) (i : Nat) (h : i < bs.length) : packTo bs (i + 1) = (packTo bs i).set (i / 8) ((packTo bs i).getD (i / 8) 0 + (bs[i]).toNat * 2 ^ (i % 8)) := by
  have ht := take_len_le bs i (by omega)
  have hsn := byteAt_snoc (bs.take i) bs[i]
  rw [ht] at hsn
  have e : bs.take (i + 1) = bs.take i ++ [bs[i]] := List.take_succ_eq_append_getElem h
  apply List.ext_getElem (by simp [packTo])
  intro j h1 h2
  have hj : j < (bs.length + 7) / 8 := by rw [packTo_length] at h1; exact h1
  by_cases hji : j = i / 8
  · subst hji
    rw [List.getElem_set_self, packTo_get _ _ _ hj]
    simp only [packTo, List.getElem_map, List.getElem_range]
    rw [e, hsn]
  · rw [List.getElem_set_ne (by omega)]
    simp only [packTo, List.getElem_map, List.getElem_range]
    rw [e]
    by_cases hlt : j < i / 8
    · rw [byteAt_append_left _ _ _ (by rw [ht]; omega)]
    · unfold byteAt
      rw [List.drop_eq_nil_of_le (by rw [List.length_append, ht]; simp; omega), List.drop_eq_nil_of_le (by rw [ht]; omega)]

theorem add_u8 (x k : Nat) (hk : k < 8) (hx : x < 2 ^ k) : ((x : Int) + 2 ^ k) % 256 = ((x + 2 ^ k : Nat) : Int) := by
  have h2 : 2 ^ k ≤ 2 ^ 7 := Nat.pow_le_pow_right (by omega) (by omega)
  have e : ((2 : Int) ^ k) = ((2 ^ k : Nat) : Int) := by simp
  rw [e]
  generalize 2 ^ k = y at *
  omega


set_option maxHeartbeats 1000000 in
theorem rbytes_any (v : Value) (bs : List Bool) (w : World) (h : Bools w v bs) (hlen : bs.length < 1000000) :
    Calls Try.prog 17 #[v] w fun e w' => Fresh w (pack bs) e w' := by
  obtain ⟨base, hown⟩ := h
  obtain ⟨i, hi, hz0, hz1, hz2⟩ := info_parts Try.infoU8
  obtain ⟨ao, cap, rfl, hsrc⟩ := own_src hown
  have hby : i.bytes * ((bs.length + 7) / 8) ≤ 281474976710656 := by rw [hz2]; omega
  have HS := Lib.hid hsrc
  clear hsrc
  go_enter Try.func17, Try.ntmps17
  go_wp2_with (at_make; refine wpList_make_full _ rfl (.tmp 8) (.tmp 8) 35 rfl w.heap.size 5 i (.int .u8 0) 1 Try.underlying35 hi hz0 hz1 .i64 .i64 _ _ ((bs.length + 7) / 8) rfl rfl (by omega) (by omega) hby (by unfold maxLen; omega) (Nat.le_refl _) ?_)
  intro w1 hown1 hgrow1
  rw [zeros_bv, ← packTo_zero] at hown1
  have hc1 : Chg (fun _ => False) w w1 := (Chg.of_grown hgrow1).mono fun k _ hk => by simp at hk
  clear hgrow1
  go_wp2
  go_loopw [4] (fun o4 wr => ∃ k : Nat, k ≤ bs.length ∧ o4 = .int .i64 (k : Int) ∧ wr.ownsRow w.heap.size 5 1 (.slice (some ⟨w.heap.size, 0, none⟩) ((bs.length + 7) / 8) ((bs.length + 7) / 8)) ((bs.length + 7) / 8) (bv (packTo bs k)) ∧ Chg (fun _ => False) w wr) (fun o4 _ => bs.length - (intOf o4).toNat)
  case atStart => exact ⟨0, Nat.zero_le _, rfl, hown1, hc1⟩
  case round =>
    obtain ⟨k, hk, rfl, ho, hc⟩ := hrel
    clear hown1 hc1
    by_cases hlt : k < bs.length
    · have hownr := hc.own hown (fun _ _ => by simp)
      obtain ⟨_, _, hv1, hsr⟩ := own_src hownr
      simp only [Value.slice.injEq, true_and] at hv1
      obtain ⟨rfl, rfl⟩ := hv1
      obtain ⟨g, cap', hg, _⟩ := slice_of_own hownr (by omega)
      simp only [Value.slice.injEq, true_and] at hg
      obtain ⟨rfl, rfl⟩ := hg
      have hcell := hownr.cellAt k (by omega)
      rw [bl_get bs k hlt] at hcell
      have hs1 := packTo_succ bs k hlt
      have hlt2 := packTo_lt bs k hlt
      have hb := ho.cellAt (k / 8) (by omega)
      rw [bv_get _ _ (by rw [packTo_length]; omega)] at hb
      have hfr := ho.frozenAt (k / 8)
      have hadd := add_u8 _ (k % 8) (by omega) hlt2
      have hst := ho.stored (k / 8) (.int .u8 (((packTo bs k).getD (k / 8) 0 + 2 ^ (k % 8) : Nat) : Int))
      rw [bv_set] at hst
      cases hbk : bs[k]
      · rw [hbk] at hs1 hcell
        simp only [Bool.toNat_false, Nat.zero_mul, Nat.add_zero] at hs1
        have hs2 : packTo bs (k + 1) = packTo bs k := by
          rw [hs1]
          have hl : k / 8 < (packTo bs k).length := by rw [packTo_length]; omega
          rw [List.getD_eq_getElem?_getD, List.getElem?_eq_getElem hl]; simp
        have HS2 := Lib.hid hs2
        clear hs1 hs2 hst hadd hbk hlt2 hownr hsr
        go_wp2
        go_roundw
        case rel => exact ⟨k + 1, by omega, by go_num, by rw [HS2.out]; exact ho, hc⟩
        case measure => simp [intOf]; omega
      · rw [hbk] at hs1 hcell
        simp only [Bool.toNat_true, Nat.one_mul] at hs1
        rw [← hs1] at hst
        generalize hx : (packTo bs k).getD (k / 8) 0 = x at *
        have hst1 := hst.1
        have hc2 : Chg (fun _ => False) w (wr.setCell ⟨w.heap.size, k / 8, none⟩ (.int .u8 ((x + 2 ^ (k % 8) : Nat) : Int))) := hc.trans (Chg.setCell wr ⟨w.heap.size, k / 8, none⟩ _) (fun j hj h => by simp at h; omega)
        have hx2 : 2 ^ (k % 8) ≤ 2 ^ 7 := Nat.pow_le_pow_right (by omega) (by omega)
        have hx256 : x < 256 := by omega
        have HA := Lib.hid hadd; have HST := Lib.hid hst1; have HC2 := Lib.hid hc2
        clear hs1 hst hst1 hc2 hbk hlt2 hownr hsr hx hadd hx2
        go_wp2
        go_region
        go_wp2
        go_roundw
        case rel =>
          refine ⟨k + 1, by omega, by go_num, ?_, ?_⟩
          · rw [HA.out]; exact HST.out.drew
          · rw [HA.out]; exact HC2.out.drew
        case measure => simp [intOf]; omega
    · obtain rfl : k = bs.length := by omega
      rw [packTo_all] at ho
      go_wp2
      go_ret
      exact ⟨w.heap.size, (bs.length + 7) / 8, by rw [pack_length]; rfl, by rw [pack_length]; exact ho, hc⟩

end Go.Proofs.Ytgnenelfbmpfgaa

/- What the document's own Bits, Number, Open and Take (puncheonref01, puncheonref02) tell. -/
namespace Go.Proofs.Ytgnenelfbmpfgaa
open Go.RowKit


/-- The value v is a slice of the bits bs; it is not nil. -/
def RdL (w : World) (v : Value) (g off : Nat) (bs : List Bool) : Prop :=
  ∃ cap, v = .slice (some ⟨g, off, none⟩) bs.length cap ∧ bs.length ≤ cap ∧ cap ≤ maxLen ∧ ∀ j (h : j < bs.length), w.cell? ⟨g, off + j, none⟩ = some (.bool bs[j])

theorem val_drop_succ (bs : List Bool) (j : Nat) (h : j < bs.length) : val (bs.drop j) = (bs[j]).toNat + 2 * val (bs.drop (j + 1)) := by
  rw [List.drop_eq_getElem_cons h]; rfl

set_option maxHeartbeats 1000000 in
theorem rnumber_any (v : Value) (g off : Nat) (bs : List Bool) (w : World) (h : RdL w v g off bs) (hl : bs.length ≤ 24) :
    Calls Try.prog 41 #[v] w fun e w' => e = .returned (.int .u32 ((val bs : Nat) : Int)) ∧ w' = w := by
  obtain ⟨cap, rfl, hcap, hcap2, hcell⟩ := h
  have HCELL := Lib.hid hcell
  clear hcell
  go_enter Try.func41, Try.ntmps41
  go_wp2
  go_loopw [3, 4] (fun o3 o4 wr => ∃ j : Nat, j ≤ bs.length ∧ o4 = .int .i64 ((j : Int) - 1) ∧ o3 = .int .u32 ((val (bs.drop j) : Nat) : Int) ∧ wr = w) (fun _ o4 _ => (intOf o4 + 1).toNat)
  case atStart => exact ⟨bs.length, Nat.le_refl _, rfl, by simp [val], rfl⟩
  case round =>
    obtain ⟨j, hj, rfl, rfl, rfl⟩ := hrel
    rcases j with _ | j
    · go_wp2
      go_ret
      exact ⟨rfl, rfl⟩
    · have hij : (((j + 1 : Nat) : Int) - 1) = (j : Int) := by omega
      rw [hij]
      have hc := HCELL.out j (by omega)
      have hv := val_drop_succ bs j (by omega)
      have hb := val_lt (bs.drop (j + 1))
      have hb2 : 2 ^ (bs.drop (j + 1)).length ≤ 2 ^ 23 := Nat.pow_le_pow_right (by omega) (by rw [List.length_drop]; omega)
      obtain ⟨y, hy⟩ : ∃ y, val (bs.drop (j + 1)) = y := ⟨_, rfl⟩
      have hy2 : y < 8388608 := by rw [← hy]; omega
      rw [hy] at hv ⊢
      have HV := Lib.hid hv
      clear hv hb hb2 hy hij
      cases hbj : bs[j]
      · rw [hbj] at hc HV
        clear hbj
        go_wp2
        go_roundw
        case rel => exact ⟨j, by omega, rfl, by rw [HV.out]; simp <;> omega, trivial⟩
        case measure => simp [intOf]
      · rw [hbj] at hc HV
        clear hbj
        go_wp2
        go_roundw
        case rel => exact ⟨j, by omega, rfl, by rw [HV.out]; simp <;> omega, trivial⟩
        case measure => simp [intOf]

theorem bitsB_take_succ (xs : List Nat) (k : Nat) (h : k < xs.length) : bitsB (xs.take (k + 1)) = bitsB (xs.take k) ++ bitsOf (xs.getD k 0) 8 := by
  rw [List.take_succ_eq_append_getElem h, bitsB_append, List.getD_eq_getElem?_getD, List.getElem?_eq_getElem h]
  simp [bitsB]

theorem and_one_u8 : ∀ x : Nat, x < 256 → ∀ k : Nat, k < 8 → (bits BinOp.and IntKind.u8 ((x : Int) / 2 ^ k) 1 == 1) = decide (x / 2 ^ k % 2 = 1) := by decide +kernel

set_option maxRecDepth 20000 in
set_option maxHeartbeats 2000000 in
theorem rbits_any (v : Value) (xs : List Nat) (w : World) (h : RdB w v xs) (hx : ∀ x ∈ xs, x < 256) (hl : xs.length ≤ 1000000) :
    Calls Try.prog 26 #[v] w fun e w' => ∃ v', e = .returned v' ∧ w'.ownsRow w.heap.size 4 1 v' (bitsB xs).length (bl (bitsB xs)) ∧ Chg (fun _ => False) w w' := by
  obtain ⟨ao, cap, hv⟩ := h.form
  subst hv
  obtain ⟨i, hi, hz0, hz1, hz2⟩ := info_parts Try.infoBool
  have H := Lib.hid h; have HX := Lib.hid hx
  clear h hx
  go_enter Try.func26, Try.ntmps26
  go_wp2
  go_loopw [3, 4] (fun o3 o4 wr => ∃ k : Nat, k ≤ xs.length ∧ o4 = .int .i64 (k : Int) ∧ wr.ownsRow w.heap.size 4 1 o3 (8 * k) (bl (bitsB (xs.take k))) ∧ Chg (fun _ => False) w wr) (fun _ o4 _ => xs.length - (intOf o4).toNat)
  case atStart => exact ⟨0, Nat.zero_le _, rfl, by simpa [bitsB, bl] using World.ownsRow_nil w w.heap.size 4 1, Chg.refl _ _⟩
  case round =>
    obtain ⟨k, hk, rfl, ho, hc⟩ := hrel
    by_cases hlt : k < xs.length
    · obtain ⟨wa, hwa⟩ : ∃ wa, wa = wr := ⟨_, rfl⟩
      subst hwa
      obtain ⟨g, off, cap', hvv, hcc⟩ : ∃ g off cap', Value.slice ao xs.length cap = .slice (some ⟨g, off, none⟩) xs.length cap' ∧ ∀ j, j < xs.length → w.cell? ⟨g, off + j, none⟩ = some (.int .u8 ((xs.getD j 0 : Nat) : Int)) := by
        rcases H.out with ⟨h0, _⟩ | h
        · rw [h0] at hlt; simp at hlt
        · exact h
      simp only [Value.slice.injEq, true_and] at hvv
      obtain ⟨rfl, rfl⟩ := hvv
      have hcell := hcc k hlt
      obtain ⟨x, hxk⟩ : ∃ x, xs.getD k 0 = x := ⟨_, rfl⟩
      have hxl : x < 256 := by rw [← hxk]; exact getD_lt xs HX.out k
      have hsu := bitsB_take_succ xs k hlt
      rw [hxk] at hcell hsu
      have hlen : (bitsB (xs.take k)).length = 8 * k := by rw [bitsB_length, List.length_take, Nat.min_eq_left (by omega)]
      obtain ⟨A, hA⟩ : ∃ A, bitsB (xs.take k) = A := ⟨_, rfl⟩
      rw [hA] at hsu ho hlen
      have HSU := Lib.hid hsu; have HLEN := Lib.hid hlen
      clear hsu hxk hA hcc hlen
      go_wp2
      go_loopw [3, 5] (fun o3 o5 wr => ∃ m : Nat, m ≤ 8 ∧ o5 = .int .i64 (m : Int) ∧ wr.ownsRow w.heap.size 4 1 o3 (8 * k + m) (bl (A ++ bitsOf x m)) ∧ Chg (fun _ => False) w wr) (fun _ o5 _ => 8 - (intOf o5).toNat)
      case atStart => exact ⟨0, Nat.zero_le _, rfl, by simpa [bitsOf] using ho, hc⟩
      case round =>
        obtain ⟨m, hm, rfl, ho2, hc2⟩ := hrel
        clear ho hc
        by_cases hm8 : m < 8
        · have hc3 : wr.cell? ⟨g, off + k, none⟩ = some (.int .u8 (x : Int)) := by
            rw [World.cell?_of_block (w := w) (a := ⟨g, off + k, none⟩) (hc2.block g (block_lt_of_cell hcell) (by simp))]; exact hcell
          have hbit := and_one_u8 x hxl m hm8
          have hsn : bl (A ++ bitsOf x m) ++ [.bool (decide (x / 2 ^ m % 2 = 1))] = bl (A ++ bitsOf x (m + 1)) := by simp [bl, bitsOf]
          have HBit := Lib.hid hbit; have HSN := Lib.hid hsn
          have hsz := hc2.size
          clear hbit hsn
          go_wp2_with (at_builtin; refine wpList_append_own _ rfl (.tmp 16) (.tmp 25) 26 rfl w.heap.size 4 i (.bool false) 1 1 Try.underlying26 hi hz0 hz1 hz2 rfl (by decide) _ (8 * k + m) _ rfl (ho2.alloc _) ⟨wr.heap.size, 0, none⟩ 1 1 _ rfl rfl (cell_one_new _ _ _) ?_ (by unfold maxLen; omega) (by omega) (by simp; omega) ?_)
          · intro x hx; simp at hx; subst hx; rfl
          intro v' w1 ho1 hg1 _
          have hc1 : Chg (fun _ => False) w w1 := (hc2.trans (Chg.alloc (fun _ => False) wr _) (fun _ _ h => h)).trans (Chg.of_grown hg1) (fun j hj hx => by have := (ho2.lt j hx.symm).1; omega)
          rw [HBit.out, HSN.out] at ho1
          clear hg1 ho2 hc2 hc3
          go_wp2
          go_roundw
          case rel => exact ⟨m + 1, by omega, by go_num, ho1, hc1⟩
          case measure => simp [intOf]; omega
        · obtain rfl : m = 8 := by omega
          rw [← HSU.out] at ho2
          go_wp2
          go_roundw
          case rel => exact ⟨k + 1, by omega, by go_num, by rw [show 8 * (k + 1) = 8 * k + 8 from by omega]; exact ho2, hc2⟩
          case measure => simp [intOf]; omega
    · obtain rfl : k = xs.length := by omega
      rw [List.take_length] at ho
      go_wp2
      go_ret
      exact ⟨_, rfl, by rw [bitsB_length]; exact ho, hc⟩

theorem RdL.kept {S : Nat → Prop} {w w' : World} {v : Value} {g off : Nat} {bs : List Bool} (h : RdL w v g off bs) (hc : Chg S w w') (hS : ¬ S g) : RdL w' v g off bs := by
  obtain ⟨cap, hv, h1, h2, hcell⟩ := h
  refine ⟨cap, hv, h1, h2, fun j hj => ?_⟩
  have := hcell j hj
  have hlt : g < w.heap.size := block_lt_of_cell this
  rw [World.cell?_of_block (w := w) (a := ⟨g, off + j, none⟩) (hc.block g hlt hS)]; exact this

theorem takeR_get (bs : List Bool) (n j : Nat) (h : j < (takeR bs n).length) : (takeR bs n)[j] = bs[j]'(by rw [takeR_length] at h; omega) := by
  unfold takeR at h ⊢
  exact List.getElem_take

end Go.Proofs.Ytgnenelfbmpfgaa

/- What bitf's Rest tells: memory of its own. -/
namespace Go.Proofs.Ytgnenelfbmpfgaa
open Go.RowKit

/-- bytes behind the first q -/
theorem RdB.dropOwn {w : World} {g cap q : Nat} {xs : List Nat} (h : w.ownsRow 0 5 1 (.slice (some ⟨g, 0, none⟩) xs.length cap) xs.length (bv xs)) (hq : q ≤ xs.length) (c' : Nat) : RdB w (.slice (some ⟨g, q, none⟩) (xs.length - q) c') (xs.drop q) := by
  refine .inr ⟨g, q, c', by simp, fun j hj => ?_⟩
  have hj' : q + j < xs.length := by rw [List.length_drop] at hj; omega
  rw [h.cellAt (q + j) (by omega), bv_get xs (q + j) hj']
  simp [List.getD_eq_getElem?_getD]

theorem drop_bytes {xs : List Nat} (h : ∀ x ∈ xs, x < 256) (q : Nat) : ∀ x ∈ xs.drop q, x < 256 := fun x hx => h x (List.mem_of_mem_drop hx)

end Go.Proofs.Ytgnenelfbmpfgaa

/- What puncheonlaw03.awake tells: the chapter's example holds. -/
namespace Go.Proofs.Ytgnenelfbmpfgaa
open Go.RowKit

theorem same_eq (v1 v2 : Value) (xs : List Nat) (w : World) (h1 : RdB w v1 xs) (h2 : RdB w v2 xs) (hx : ∀ x ∈ xs, x < 256) :
    Calls Try.prog 15 #[v1, v2] w fun e w' => e = .returned (.bool true) ∧ w = w' := by
  refine (same_any v1 v2 xs xs w h1 h2 hx hx).mono ?_
  rintro e w' ⟨rfl, rfl⟩
  exact ⟨by simp, rfl⟩

theorem fleft_w (b : Nat) (o : Option Nat) (xs : List Nat) (q : Nat) (w : World) (h : Rf w b o xs (8 * q)) :
    Calls Try.prog 22 #[.pointer (some ⟨b, 0, none⟩)] w fun e w' => e = .returned (.int .i64 (8 * ((xs.length : Int) - (q : Int)))) ∧ Chg (fun _ => False) w w' := by
  have hp := h.2.2.1
  refine (fleft_any b o xs (8 * q) w h).mono ?_
  rintro e w' ⟨rfl, hc⟩
  exact ⟨congrArg (fun z => Ending.returned (Value.int .i64 z)) (by omega), hc⟩

theorem ftake_in (b : Nat) (o : Option Nat) (xs : List Nat) (p : Nat) (n : Int) (w : World) (h : Rf w b o xs p) (hn0 : 0 ≤ n) (hn : n ≤ 24) (hl : (p : Int) + n ≤ 8 * xs.length) :
    Calls Try.prog 33 #[.pointer (some ⟨b, 0, none⟩), .int .i64 n] w fun e w' => e = .returned (.tuple #[.int .u32 ((fv xs p n.toNat : Nat) : Int), .bool true]) ∧ Rf w' b o xs (p + n.toNat) ∧ Chg (fun k => k = b) w w' := by
  obtain ⟨m, rfl⟩ := Int.eq_ofNat_of_zero_le hn0
  exact ftake_yes b o xs p m w h (by omega) (by omega)

theorem ex_fv : fv [13, 7] 0 (3 : Int).toNat = 5 ∧ fv [13, 7] 3 (2 : Int).toNat = 1 := by decide +kernel
theorem ex_clear : Clear [13, 7] 5 := by
  intro j h1 h2
  have : j = 5 ∨ j = 6 ∨ j = 7 := by omega
  rcases this with rfl | rfl | rfl <;> decide
theorem str7 : ((strB [7]).toList == [7]) = true := by decide +kernel

theorem two_rdb (w : World) (x y : Nat) : RdB (w.alloc (.cells #[.int .u8 (x : Int), .int .u8 (y : Int)] 5)) (.slice (some ⟨w.heap.size, 0, none⟩) 2 2) [x, y] := by
  refine .inr ⟨w.heap.size, 0, 2, rfl, fun j hj => ?_⟩
  have : j = 0 ∨ j = 1 := by simp at hj; omega
  rcases this with rfl | rfl <;> (rw [cell_of_row _ _ _ _ _ _ (heap_alloc_new w _)]; rfl)

/-- bytes of a slice that the call owns, whatever their address -/
theorem own_slice {w : World} {base : Nat} {v : Value} {n : Nat} {xs : List Value} (h : w.ownsRow base 5 1 v n xs) : ∃ ao cap, v = .slice ao n cap := by
  obtain ⟨ao, cap, hv, _⟩ := own_src h
  exact ⟨ao, cap, hv⟩

end Go.Proofs.Ytgnenelfbmpfgaa

/- The walk of BitfSplits. -/
namespace Go.Proofs.Ytgnenelfbmpfgaa
open Go.RowKit

/-- what Take tells, whether it does, and how many bits are taken then -/
def ftk (xs : List Nat) (p : Nat) (n : Int) : Nat × Bool × Nat := if 0 ≤ n ∧ n ≤ 24 ∧ (p : Int) + n ≤ 8 * xs.length then (fv xs p n.toNat, true, p + n.toNat) else (0, false, p)

theorem ftake_f (b : Nat) (o : Option Nat) (xs : List Nat) (p : Nat) (n : Int) (w : World) (h : Rf w b o xs p) :
    Calls Try.prog 33 #[.pointer (some ⟨b, 0, none⟩), .int .i64 n] w fun e w' => e = .returned (.tuple #[.int .u32 (((ftk xs p n).1 : Nat) : Int), .bool (ftk xs p n).2.1]) ∧ Rf w' b o xs (ftk xs p n).2.2 ∧ Chg (fun k => k = b) w w' := by
  have hp := h.2.2.1
  refine (ftake_any b o xs p n w h).mono ?_
  rintro e w' (⟨m, rfl, h1, h2, rfl, hr, hc⟩ | ⟨hn, rfl, hr, hc⟩)
  · have e1 : ftk xs p (m : Int) = (fv xs p m, true, p + m) := by unfold ftk; rw [if_pos (by omega)]; rfl
    rw [e1]; exact ⟨rfl, hr, hc⟩
  · have e1 : ftk xs p n = (0, false, p) := by unfold ftk; rw [if_neg (by omega)]
    rw [e1]; exact ⟨rfl, hr, hc.mono (fun _ _ h => h.elim)⟩

theorem fv_split (xs : List Nat) (p k c : Nat) (hc : c ≤ k) (hl : p + k ≤ 8 * xs.length) : fv xs p k = fv xs p c + 2 ^ c * fv xs (p + c) (k - c) := by
  unfold fv
  have e : ((bitsB xs).drop p).take k = ((bitsB xs).drop p).take c ++ ((bitsB xs).drop (p + c)).take (k - c) := by
    rw [← List.drop_drop, ← List.take_add]; congr 1; omega
  have el : (((bitsB xs).drop p).take c).length = c := by rw [List.length_take, List.length_drop, bitsB_length]; omega
  rw [e, val_append, el]

theorem ftk_le (xs : List Nat) (p : Nat) (n : Int) (h : p ≤ 8 * xs.length) : (ftk xs p n).2.2 ≤ 8 * xs.length := by
  unfold ftk; split
  · show p + n.toNat ≤ _; omega
  · exact h

end Go.Proofs.Ytgnenelfbmpfgaa

/- What the document's own Reader (puncheonref03) tells: New, Left, Take, Pad, Rest. -/
namespace Go.Proofs.Ytgnenelfbmpfgaa
open Go.RowKit

/-- The value v is a slice of the bits bs. -/
def RdQ (w : World) (v : Value) (bs : List Bool) : Prop :=
  (bs = [] ∧ ∃ ao c, v = .slice ao 0 c) ∨ ∃ g off cap, v = .slice (some ⟨g, off, none⟩) bs.length cap ∧ ∀ j (h : j < bs.length), w.cell? ⟨g, off + j, none⟩ = some (.bool bs[j])

theorem RdQ.form {w : World} {v : Value} {bs : List Bool} (h : RdQ w v bs) : ∃ ao cap, v = .slice ao bs.length cap := by
  rcases h with ⟨rfl, ao, c, rfl⟩ | ⟨g, off, cap, rfl, _⟩
  · exact ⟨ao, c, rfl⟩
  · exact ⟨_, cap, rfl⟩

theorem RdQ.kept {S : Nat → Prop} {w w' : World} {v : Value} {bs : List Bool} (h : RdQ w v bs) (hc : Chg S w w') (hS : ∀ k, v.ownBlock = some k → ¬ S k) : RdQ w' v bs := by
  rcases h with h | ⟨g, off, cap, rfl, hcell⟩
  · exact .inl h
  · refine .inr ⟨g, off, cap, rfl, fun j hj => ?_⟩
    have := hcell j hj
    have hlt : g < w.heap.size := block_lt_of_cell this
    rw [World.cell?_of_block (w := w) (hc.block g hlt (hS g rfl))]; exact this

theorem RdQ.cells {w : World} {ao : Option Addr} {n cap : Nat} {bs : List Bool} (h : RdQ w (.slice ao n cap) bs) (hp : 0 < bs.length) : ∃ g off, ao = some ⟨g, off, none⟩ ∧ ∀ j (h : j < bs.length), w.cell? ⟨g, off + j, none⟩ = some (.bool bs[j]) := by
  rcases h with ⟨h0, _⟩ | ⟨g, off, cap', he, hc⟩
  · rw [h0] at hp; simp at hp
  · simp only [Value.slice.injEq] at he
    exact ⟨g, off, he.1, hc⟩

/-- a slice of a row of bits: v[l:h] and v[l:] -/
theorem slice_bits {w : World} {v : Value} {bs : List Bool} (ho : w.ownsRow 0 4 1 v bs.length (bl bs)) (l h : Nat) (hl : l ≤ h) (hh : h ≤ bs.length) :
    ∃ ao2 c2, (∀ W : World, (Instr.slice 26 v (some (.int .i64 (l : Int))) (some (.int .i64 (h : Int))) none).run Try.prog W = .ok (.slice ao2 (h - l) c2) W) ∧
      (h = bs.length → ∀ W : World, (Instr.slice 26 v (some (.int .i64 (l : Int))) none none).run Try.prog W = .ok (.slice ao2 (h - l) c2) W) ∧ RdQ w (.slice ao2 (h - l) c2) ((bs.drop l).take (h - l)) := by
  have hcapo : ∃ ao cap, v = .slice ao bs.length cap ∧ bs.length ≤ cap ∧ cap ≤ maxLen ∧ (0 < bs.length → ∃ g, ao = some ⟨g, 0, none⟩) := by
    rcases ho.2 with ⟨rfl, h0⟩ | ⟨g, cap, cur, rfl, _, _, h1, h2, _⟩
    · exact ⟨none, 0, by rw [h0], by omega, by unfold maxLen; omega, fun h => by omega⟩
    · exact ⟨_, cap, rfl, h1, h2, fun _ => ⟨g, rfl⟩⟩
  obtain ⟨ao, cap, rfl, hcap, hmax, hao⟩ := hcapo
  have hs : ∀ W, (sizeOf (Try.prog.elem 26)).run Try.prog W = .ok 1 W := fun W => by kernel_rfl
  refine ⟨if cap = l then ao else ao.map (·.add l), cap - l, fun W => ?_, fun he W => ?_, ?_⟩
  · rw [run_slice_lh W 26 ao bs.length cap (by kernel_rfl) .i64 .i64 (l : Int) (h : Int) (by omega) (by omega) (by omega), hs]
    simp [Result.andThen, sliced]
  · rw [run_slice_l W 26 ao bs.length cap (by kernel_rfl) .i64 (l : Int) (by omega) (by omega), hs]
    simp [Result.andThen, sliced, he]
  · by_cases hz : h = l
    · exact .inl ⟨by rw [hz, Nat.sub_self]; rfl, _, _, by rw [hz, Nat.sub_self]⟩
    · rw [if_neg (by omega)]
      obtain ⟨g, hg⟩ := hao (by omega)
      subst hg
      rw [show Option.map (fun x : Addr => x.add l) (some ⟨g, 0, none⟩) = some ⟨g, l, none⟩ from by simp [Addr.add]; omega]
      have elen : ((bs.drop l).take (h - l)).length = h - l := by rw [List.length_take, List.length_drop]; omega
      refine .inr ⟨g, l, _, by rw [elen], fun j hj => ?_⟩
      rw [elen] at hj
      rw [ho.cellAt (l + j) (by omega), bl_get bs (l + j) (by omega)]
      simp

set_option maxHeartbeats 1000000 in
theorem rnumber_q (v : Value) (bs : List Bool) (w : World) (h : RdQ w v bs) (hl : bs.length ≤ 24) :
    Calls Try.prog 41 #[v] w fun e w' => e = .returned (.int .u32 ((val bs : Nat) : Int)) ∧ w' = w := by
  obtain ⟨ao, cap, rfl⟩ := h.form
  have H := Lib.hid h
  clear h
  go_enter Try.func41, Try.ntmps41
  go_wp2
  go_loopw [3, 4] (fun o3 o4 wr => ∃ j : Nat, j ≤ bs.length ∧ o4 = .int .i64 ((j : Int) - 1) ∧ o3 = .int .u32 ((val (bs.drop j) : Nat) : Int) ∧ wr = w) (fun _ o4 _ => (intOf o4 + 1).toNat)
  case atStart => exact ⟨bs.length, Nat.le_refl _, rfl, by simp [val], rfl⟩
  case round =>
    obtain ⟨j, hj, rfl, rfl, rfl⟩ := hrel
    rcases j with _ | j
    · go_wp2
      go_ret
      exact ⟨rfl, rfl⟩
    · have hij : (((j + 1 : Nat) : Int) - 1) = (j : Int) := by omega
      rw [hij]
      obtain ⟨g, off, hao, hcell⟩ := H.out.cells (by omega)
      subst hao
      have hc := hcell j (by omega)
      have hv := val_drop_succ bs j (by omega)
      have hb := val_lt (bs.drop (j + 1))
      have hb2 : 2 ^ (bs.drop (j + 1)).length ≤ 2 ^ 23 := Nat.pow_le_pow_right (by omega) (by rw [List.length_drop]; omega)
      obtain ⟨y, hy⟩ : ∃ y, val (bs.drop (j + 1)) = y := ⟨_, rfl⟩
      have hy2 : y < 8388608 := by rw [← hy]; omega
      rw [hy] at hv ⊢
      have HV := Lib.hid hv
      clear hv hb hb2 hy hij hcell
      cases hbj : bs[j]
      · rw [hbj] at hc HV
        clear hbj
        go_wp2
        go_roundw
        case rel => exact ⟨j, by omega, rfl, by rw [HV.out]; simp <;> omega, trivial⟩
        case measure => simp [intOf]
      · rw [hbj] at hc HV
        clear hbj
        go_wp2
        go_roundw
        case rel => exact ⟨j, by omega, rfl, by rw [HV.out]; simp <;> omega, trivial⟩
        case measure => simp [intOf]

set_option maxHeartbeats 1000000 in
theorem rbytes_q (v : Value) (bs : List Bool) (w : World) (h : RdQ w v bs) (hlen : bs.length < 1000000) :
    Calls Try.prog 17 #[v] w fun e w' => Fresh w (pack bs) e w' := by
  obtain ⟨i, hi, hz0, hz1, hz2⟩ := info_parts Try.infoU8
  obtain ⟨ao, cap, rfl⟩ := h.form
  have H := Lib.hid h
  clear h
  have hby : i.bytes * ((bs.length + 7) / 8) ≤ 281474976710656 := by rw [hz2]; omega
  go_enter Try.func17, Try.ntmps17
  go_wp2_with (at_make; refine wpList_make_full _ rfl (.tmp 8) (.tmp 8) 35 rfl w.heap.size 5 i (.int .u8 0) 1 Try.underlying35 hi hz0 hz1 .i64 .i64 _ _ ((bs.length + 7) / 8) rfl rfl (by omega) (by omega) hby (by unfold maxLen; omega) (Nat.le_refl _) ?_)
  intro w1 hown1 hgrow1
  rw [zeros_bv, ← packTo_zero] at hown1
  have hc1 : Chg (fun _ => False) w w1 := (Chg.of_grown hgrow1).mono fun k _ hk => by simp at hk
  clear hgrow1
  go_wp2
  go_loopw [4] (fun o4 wr => ∃ k : Nat, k ≤ bs.length ∧ o4 = .int .i64 (k : Int) ∧ wr.ownsRow w.heap.size 5 1 (.slice (some ⟨w.heap.size, 0, none⟩) ((bs.length + 7) / 8) ((bs.length + 7) / 8)) ((bs.length + 7) / 8) (bv (packTo bs k)) ∧ Chg (fun _ => False) w wr) (fun o4 _ => bs.length - (intOf o4).toNat)
  case atStart => exact ⟨0, Nat.zero_le _, rfl, hown1, hc1⟩
  case round =>
    obtain ⟨k, hk, rfl, ho, hc⟩ := hrel
    clear hown1 hc1
    by_cases hlt : k < bs.length
    · obtain ⟨g, off, hao, hcells⟩ := (H.out.kept hc (by simp)).cells (by omega)
      subst hao
      have hcell := hcells k hlt
      clear hcells
      have hs1 := packTo_succ bs k hlt
      have hlt2 := packTo_lt bs k hlt
      have hb := ho.cellAt (k / 8) (by omega)
      rw [bv_get _ _ (by rw [packTo_length]; omega)] at hb
      have hfr := ho.frozenAt (k / 8)
      have hadd := add_u8 _ (k % 8) (by omega) hlt2
      have hst := ho.stored (k / 8) (.int .u8 (((packTo bs k).getD (k / 8) 0 + 2 ^ (k % 8) : Nat) : Int))
      rw [bv_set] at hst
      cases hbk : bs[k]
      · rw [hbk] at hs1 hcell
        simp only [Bool.toNat_false, Nat.zero_mul, Nat.add_zero] at hs1
        have hs2 : packTo bs (k + 1) = packTo bs k := by
          rw [hs1]
          have hl : k / 8 < (packTo bs k).length := by rw [packTo_length]; omega
          rw [List.getD_eq_getElem?_getD, List.getElem?_eq_getElem hl]; simp
        have HS2 := Lib.hid hs2
        clear hs1 hs2 hst hadd hbk hlt2
        go_wp2
        go_roundw
        case rel => exact ⟨k + 1, by omega, by go_num, by rw [HS2.out]; exact ho, hc⟩
        case measure => simp [intOf]; omega
      · rw [hbk] at hs1 hcell
        simp only [Bool.toNat_true, Nat.one_mul] at hs1
        rw [← hs1] at hst
        generalize hx : (packTo bs k).getD (k / 8) 0 = x at *
        have hst1 := hst.1
        have hc2 : Chg (fun _ => False) w (wr.setCell ⟨w.heap.size, k / 8, none⟩ (.int .u8 ((x + 2 ^ (k % 8) : Nat) : Int))) := hc.trans (Chg.setCell wr ⟨w.heap.size, k / 8, none⟩ _) (fun j hj h => by simp at h; omega)
        have hx2 : 2 ^ (k % 8) ≤ 2 ^ 7 := Nat.pow_le_pow_right (by omega) (by omega)
        have hx256 : x < 256 := by omega
        have HA := Lib.hid hadd; have HST := Lib.hid hst1; have HC2 := Lib.hid hc2
        clear hs1 hst hst1 hc2 hbk hlt2 hx hadd hx2
        go_wp2
        go_region
        go_wp2
        go_roundw
        case rel =>
          refine ⟨k + 1, by omega, by go_num, ?_, ?_⟩
          · rw [HA.out]; exact HST.out.drew
          · rw [HA.out]; exact HC2.out.drew
        case measure => simp [intOf]; omega
    · obtain rfl : k = bs.length := by omega
      rw [packTo_all] at ho
      go_wp2
      go_ret
      exact ⟨w.heap.size, (bs.length + 7) / 8, by rw [pack_length]; rfl, by rw [pack_length]; exact ho, hc⟩

/-- The document's Reader at block b, its bits bs in the block o (none: there are none), of which p were taken. -/
def Xr (w : World) (b : Nat) (o : Option Nat) (bs : List Bool) (p : Nat) : Prop :=
  bs.length < 1000000 ∧ p ≤ bs.length ∧ ∃ v, w.heap[b]? = some (.cells #[v, .int .i64 (p : Int)] 64 (0, 0)) ∧ v.ownBlock = o ∧ w.ownsRow 0 4 1 v bs.length (bl bs)

theorem Xr.lt {w : World} {b : Nat} {o : Option Nat} {bs : List Bool} {p : Nat} (h : Xr w b o bs p) : b < w.heap.size ∧ ∀ k, o = some k → k < w.heap.size ∧ k ≠ b := by
  obtain ⟨_, _, v, hb, ho, hown⟩ := h
  refine ⟨lt_of_block hb, fun k hk => ?_⟩
  have hk' := ho.trans hk
  refine ⟨(hown.lt k hk').2, ?_⟩
  rcases hown.2 with ⟨rfl, _⟩ | ⟨q, cap, cur, rfl, _, hq, _⟩
  · simp [Value.ownBlock] at hk'
  · simp only [Value.ownBlock, Option.some.injEq] at hk'
    subst hk'
    rintro rfl
    rw [hb] at hq
    simp at hq

theorem Xr.kept {S : Nat → Prop} {w w' : World} {b : Nat} {o : Option Nat} {bs : List Bool} {p : Nat} (h : Xr w b o bs p) (hc : Chg S w w') (h1 : ¬ S b) (h2 : ∀ k, o = some k → ¬ S k) : Xr w' b o bs p := by
  have hl := h.lt
  obtain ⟨e1, e2, v, hb, ho, hown⟩ := h
  exact ⟨e1, e2, v, (hc.block b hl.1 h1).trans hb, ho, hc.own hown (fun k hk => h2 k (ho.symm.trans hk))⟩

theorem xnew_any (v : Value) (xs : List Nat) (w : World) (h : RdB w v xs) (hl : xs.length ≤ 100000) (hx : ∀ x ∈ xs, x < 256) :
    Calls Try.prog 19 #[v] w fun e w' => ∃ b o, e = .returned (.pointer (some ⟨b, 0, none⟩)) ∧ Xr w' b o (bitsB xs) 0 ∧ Above w.heap.size b o ∧ Chg (fun _ => False) w w' := by
  go_enter Try.func19, Try.ntmps19
  go_wp2_with fail
  refine (rbits_any v xs w h hx (by omega)).mono ?_
  rintro e w1 ⟨v1, rfl, ho, hc⟩
  have hlt := ho.lt
  obtain ⟨ao, cap, hv, -⟩ := own_src ho
  subst hv
  have HO := Lib.hid ho; have HC := Lib.hid hc; have HLT := Lib.hid hlt
  clear h hx ho hc hlt
  go_wp2
  go_ret
  have hsz := HC.out.size
  exact ⟨w1.heap.size, (Value.slice ao (bitsB xs).length cap).ownBlock, rfl, ⟨by rw [bitsB_length]; omega, Nat.zero_le _, _, heap_alloc_new w1 _, rfl, ownsRow_mono (HO.out.alloc _) (Nat.zero_le _)⟩, ⟨hsz, fun k hk => (HLT.out k hk).1⟩, HC.out.trans (Chg.alloc _ w1 _) (fun _ _ h => h)⟩

theorem xleft_q (b : Nat) (o : Option Nat) (bs : List Bool) (p : Nat) (w : World) (h : Xr w b o bs p) :
    Calls Try.prog 23 #[.pointer (some ⟨b, 0, none⟩)] w fun e w' => e = .returned (.int .i64 ((bs.length - p : Nat) : Int)) ∧ ∃ m, w' = w.drewN m := by
  obtain ⟨hl, hp, v, hb, -, hown⟩ := h
  obtain ⟨ao, cap, rfl, -⟩ := own_src hown
  obtain ⟨c0, c1, f0, f1⟩ := cells2 hb
  clear hb hown
  go_enter Try.func23, Try.ntmps23
  go_wp2
  go_quiet (fail)
  go_wp2
  go_ret
  exact ⟨congrArg (fun z => Ending.returned (Value.int .i64 z)) (by omega), _, rfl⟩

theorem xleft_any (b : Nat) (o : Option Nat) (bs : List Bool) (p : Nat) (w : World) (h : Xr w b o bs p) :
    Calls Try.prog 23 #[.pointer (some ⟨b, 0, none⟩)] w fun e w' => e = .returned (.int .i64 ((bs.length - p : Nat) : Int)) ∧ Chg (fun _ => False) w w' :=
  (xleft_q b o bs p w h).mono fun e w' ⟨h1, m, h2⟩ => ⟨h1, by rw [h2]; exact (Chg.refl _ _).drewN m⟩

theorem xtake_no (b : Nat) (o : Option Nat) (bs : List Bool) (p : Nat) (n : Int) (w : World) (h : Xr w b o bs p) (hn : n < 0 ∨ 24 < n ∨ ((bs.length - p : Nat) : Int) < n) :
    Calls Try.prog 35 #[.pointer (some ⟨b, 0, none⟩), .int .i64 n] w fun e w' => e = .returned (.tuple #[.int .u32 0, .bool false]) ∧ Chg (fun _ => False) w w' := by
  by_cases h0 : n < 0
  · have h0' : decide (n < 0) = true := by simpa using h0
    clear h
    go_enter Try.func35, Try.ntmps35
    go_wp2
    go_ret2
    exact ⟨rfl, Chg.refl _ _⟩
  · have h0' : decide (n < 0) = false := by simpa using h0
    by_cases h1 : 24 < n
    · have h1' : decide (24 < n) = true := by simpa using h1
      clear h
      go_enter Try.func35, Try.ntmps35
      go_wp2
      go_ret2
      exact ⟨rfl, Chg.refl _ _⟩
    · have h1' : decide (24 < n) = false := by simpa using h1
      have h2' : ((bs.length - p : Nat) : Int) < n := by omega
      have H := Lib.hid h
      clear h hn
      obtain ⟨L, hL⟩ : ∃ L, bs.length - p = L := ⟨_, rfl⟩
      rw [hL] at h2'
      have HL := Lib.hid hL
      clear hL
      go_enter Try.func35, Try.ntmps35
      go_wp2_with fail
      refine (xleft_any b o bs p w H.out).mono ?_
      rintro e w1 ⟨rfl, hc⟩
      rw [HL.out]
      go_wp2
      go_ret2
      exact ⟨rfl, hc⟩

set_option maxHeartbeats 1000000 in
theorem xtake_yes (b : Nat) (o : Option Nat) (bs : List Bool) (p n : Nat) (w : World) (h : Xr w b o bs p) (hn : n ≤ 24) (hnl : p + n ≤ bs.length) :
    Calls Try.prog 35 #[.pointer (some ⟨b, 0, none⟩), .int .i64 (n : Int)] w fun e w' => e = .returned (.tuple #[.int .u32 ((val ((bs.drop p).take n) : Nat) : Int), .bool true]) ∧ Xr w' b o bs (p + n) ∧ Chg (fun k => k = b) w w' := by
  have h0' : decide ((n : Int) < 0) = false := by simp
  have h1' : decide (24 < (n : Int)) = false := by simp; omega
  have H := Lib.hid h
  obtain ⟨hl, -, -⟩ := h
  obtain ⟨L, hL⟩ : ∃ L, bs.length - p = L := ⟨_, rfl⟩
  have h2' : ¬ (L : Int) < (n : Int) := by omega
  have hp6 : p < 1000000 := by omega
  have HL := Lib.hid hL; have HNL := Lib.hid hnl; have HLL := Lib.hid hl
  clear hL hnl hl
  go_enter Try.func35, Try.ntmps35
  go_wp2_with fail
  refine (xleft_any b o bs p w H.out).mono ?_
  rintro e w1 ⟨rfl, hc⟩
  rw [HL.out]
  have h1 := H.out.kept hc (by simp) (by simp)
  have hne := h1.lt.2
  obtain ⟨-, -, v, hb, ho, hown⟩ := h1
  obtain ⟨ao2, c2, hsl, -, hq⟩ := slice_bits hown p (p + n) (by omega) HNL.out
  rw [Nat.add_sub_cancel_left] at hq
  have hsl' : ∀ W : World, (Instr.slice 26 v (some (.int .i64 (p : Int))) (some (.int .i64 ((p : Int) + (n : Int)))) none).run Try.prog W = .ok (.slice ao2 n c2) W := by
    intro W
    have := hsl W
    rw [Nat.add_sub_cancel_left, show ((p + n : Nat) : Int) = (p : Int) + (n : Int) from by omega] at this
    exact this
  clear hsl
  have HNUM : Hid (∀ m : Nat, Calls Try.prog 41 #[.slice ao2 n c2] (w1.drewN m) fun e w' => e = .returned (.int .u32 ((val ((bs.drop p).take n) : Nat) : Int)) ∧ w' = w1.drewN m) := by
    refine Lib.hid fun m => rnumber_q _ _ _ ?_ (by rw [List.length_take]; omega)
    exact hq
  obtain ⟨ao, cap, hv, -⟩ := own_src hown
  subst hv
  obtain ⟨d0, d1, e0, e1⟩ := cells2 hb
  have hb1 := set2_1 (u := .int .i64 ((p : Int) + (n : Int))) hb
  have hc1 := Chg.setCell w1 ⟨b, 1, none⟩ (.int .i64 ((p : Int) + (n : Int)))
  have ho1 := hc1.own hown (fun q hq hx => (hne q (ho.symm.trans hq)).2 hx)
  have hw1 : IntKind.i64.wrap ((p : Int) + (n : Int)) = (p : Int) + (n : Int) := by rw [IntKind.wrap_i64]; omega
  have HB1 := Lib.hid hb1; have HC1 := Lib.hid hc1; have HO1 := Lib.hid ho1; have HO := Lib.hid ho; have HC := Lib.hid hc
  clear hb1 hc1 ho1 hb hown hne ho hc H HL hq
  go_wp2
  go_quiet (first | (go_at_call 41; exact Calls.quiet_of_same (HNUM.out _)))
  go_wp2
  go_ret2
  exact ⟨rfl, ⟨HLL.out, HNL.out, _, HB1.out, HO.out, HO1.out⟩, ((HC.out.drewN nq).mono (fun _ _ h => h.elim)).trans (Chg.setCell (w1.drewN nq) ⟨b, 1, none⟩ _) (fun _ _ h => h)⟩

theorem xtake_f (b : Nat) (o : Option Nat) (xs : List Nat) (p : Nat) (n : Int) (w : World) (h : Xr w b o (bitsB xs) p) :
    Calls Try.prog 35 #[.pointer (some ⟨b, 0, none⟩), .int .i64 n] w fun e w' => e = .returned (.tuple #[.int .u32 (((ftk xs p n).1 : Nat) : Int), .bool (ftk xs p n).2.1]) ∧ Xr w' b o (bitsB xs) (ftk xs p n).2.2 ∧ Chg (fun k => k = b) w w' := by
  have hp := h.2.1
  have hl := bitsB_length xs
  by_cases hn : n < 0 ∨ 24 < n ∨ (((bitsB xs).length - p : Nat) : Int) < n
  · have e1 : ftk xs p n = (0, false, p) := by unfold ftk; rw [if_neg (by omega)]
    refine (xtake_no b o _ p n w h hn).mono ?_
    rintro e w' ⟨rfl, hc⟩
    rw [e1]; exact ⟨rfl, h.kept hc (by simp) (by simp), hc.mono (fun _ _ h => h.elim)⟩
  · obtain ⟨m, rfl⟩ := Int.eq_ofNat_of_zero_le (show 0 ≤ n by omega)
    have e1 : ftk xs p (m : Int) = (fv xs p m, true, p + m) := by unfold ftk; rw [if_pos (by omega)]; rfl
    refine (xtake_yes b o _ p m w h (by omega) (by omega)).mono ?_
    rintro e w' ⟨rfl, hr, hc⟩
    rw [e1]; exact ⟨rfl, hr, hc⟩

theorem bits_bt (xs : List Nat) (j : Nat) (h : j < (bitsB xs).length) : (bitsB xs)[j] = decide (bt xs j = 1) := by
  have e := bitsB_get xs j (by rw [← bitsB_length]; exact h)
  rw [List.getElem?_eq_getElem h] at e
  exact Option.some.inj e

theorem drop_bits (xs : List Nat) (E : Nat) : (bitsB xs).drop (8 * E) = bitsB (xs.drop E) := by
  by_cases h : E ≤ xs.length
  · conv => lhs; rw [← List.take_append_drop E xs, bitsB_append]
    have el : 8 * E = (bitsB (xs.take E)).length := by rw [bitsB_length, List.length_take, Nat.min_eq_left h]
    rw [el, List.drop_left]
  · rw [List.drop_eq_nil_of_le (by rw [bitsB_length]; omega), List.drop_eq_nil_of_le (by omega)]; rfl

end Go.Proofs.Ytgnenelfbmpfgaa

/- What the document's own logs (puncheonref07) tell. -/
namespace Go.Proofs.Ytgnenelfbmpfgaa
open Go.RowKit

set_option maxHeartbeats 1000000 in
theorem r7width_any (n : Int) (w : World) (hn : n ≤ 1099511627776) (hlo : -9223372036854775808 ≤ n) :
    Calls Try.prog 28 #[.int .i64 n] w fun e w' => e = .returned (.int .i64 ((widthI n : Nat) : Int)) ∧ w' = w := by
  have hwl := width_le41 hn
  obtain ⟨W, hW⟩ : ∃ W, widthI n = W := ⟨_, rfl⟩
  rw [hW] at hwl ⊢
  have HW := Lib.hid hW; have HWL := Lib.hid hwl; have HN := Lib.hid (And.intro hn hlo)
  clear hW hwl hn hlo
  go_enter Try.func28, Try.ntmps28
  go_wp2
  go_loopw [0, 3] (fun o0 o3 wr => ∃ (x : Int) (k : Nat), o0 = .int .i64 x ∧ o3 = .int .i64 (k : Int) ∧ -9223372036854775808 ≤ x ∧ x ≤ 1099511627776 ∧ widthI x + k = W ∧ wr = w) (fun o0 _ _ => (intOf o0).toNat)
  case atStart => exact ⟨n, 0, rfl, rfl, HN.out.2, HN.out.1, HW.out, rfl⟩
  case round =>
    obtain ⟨x, k, rfl, rfl, hx0, hx1, hs, rfl⟩ := hrel
    by_cases hlt : 0 < x
    · have hh := width_half (n := x) (by omega)
      have hs2 : widthI (x / 2) + (k + 1) = W := by omega
      have hk : (k : Int) ≤ 41 := by have := HWL.out; omega
      have hd : x.tdiv 2 = x / 2 := Int.tdiv_eq_ediv_of_nonneg (by omega)
      have HS := Lib.hid hs2
      clear hs hh hs2
      go_wp2
      go_roundw
      case rel => exact ⟨x / 2, k + 1, by go_num, by go_num, by omega, by omega, HS.out, trivial⟩
      case measure => simp [intOf]; omega
    · rw [width_small (by omega)] at hs
      have hk : k = W := by omega
      subst hk
      clear hs
      go_wp2
      go_ret
      exact ⟨rfl, rfl⟩

end Go.Proofs.Ytgnenelfbmpfgaa

/- What the document's own numbers (puncheonref13) tell: Can, Put, Take. -/
namespace Go.Proofs.Ytgnenelfbmpfgaa
open Go.RowKit

theorem r13can_any (v l : Int) (w : World) : Calls Try.prog 10 #[.int .i64 v, .int .i64 l] w fun e w' => e = .returned (.bool (decide (bCan v l))) ∧ w' = w := by
  by_cases h1 : 1 ≤ l
  · have d1 : decide (1 ≤ l) = true := decide_eq_true h1
    by_cases h2 : l ≤ 4096
    · have d2 : decide (l ≤ 4096) = true := decide_eq_true h2
      by_cases h3 : 0 ≤ v
      · have d3 : decide (0 ≤ v) = true := decide_eq_true h3
        have hd : decide (bCan v l) = decide (v ≤ l) := decide_eq_decide.2 ⟨fun h => h.2.2.2, fun h => ⟨h1, h2, h3, h⟩⟩
        rw [hd]
        clear hd
        go_enter Try.func10, Try.ntmps10
        go_wp2
        go_ret
        exact ⟨rfl, rfl⟩
      · have d3 : decide (0 ≤ v) = false := decide_eq_false h3
        have hd : decide (bCan v l) = false := decide_eq_false fun h => h3 h.2.2.1
        rw [hd]
        clear hd
        go_enter Try.func10, Try.ntmps10
        go_wp2
        go_ret
        exact ⟨rfl, rfl⟩
    · have d2 : decide (l ≤ 4096) = false := decide_eq_false h2
      have hd : decide (bCan v l) = false := decide_eq_false fun h => h2 h.2.1
      rw [hd]
      clear hd
      go_enter Try.func10, Try.ntmps10
      go_wp2
      go_ret
      exact ⟨rfl, rfl⟩
  · have d1 : decide (1 ≤ l) = false := decide_eq_false h1
    have hd : decide (bCan v l) = false := decide_eq_false fun h => h1 h.1
    rw [hd]
    clear hd
    go_enter Try.func10, Try.ntmps10
    go_wp2
    go_ret
    exact ⟨rfl, rfl⟩

theorem r13put_any (u : Value) (bs : List Bool) (v l : Int) (B : Nat) (w : World) (h : w.ownsRow B 4 1 u bs.length (bl bs)) (hB : B ≤ w.heap.size) (hlen : bs.length < 990000) :
    Calls Try.prog 11 #[u, .int .i64 v, .int .i64 l] w fun e w' => ∃ v', e = .returned v' ∧ w'.ownsRow B 4 1 v' (bgPutB bs v l).length (bl (bgPutB bs v l)) ∧ Chg (fun _ => False) w w' := by
  have HC := Lib.hid (r13can_any v l w)
  by_cases hc : bCan v l
  · obtain ⟨h1, h2, h3, h4⟩ := hc
    have hw := width_13 h1 h2
    have HW := Lib.hid (r7width_any l w (by omega) (by omega))
    have hbs : bgPutB bs v l = bs ++ bitsOf v.toNat (widthI l) := by unfold bgPutB; rw [if_pos ⟨h1, h2, h3, h4⟩]
    rw [decide_eq_true (show bCan v l from ⟨h1, h2, h3, h4⟩)] at HC
    obtain ⟨x, rfl⟩ := Int.eq_ofNat_of_zero_le h3
    rw [Int.toNat_natCast] at hbs
    have HP := Lib.hid (rput_any u bs x (widthI l) w ⟨B, h⟩ (by omega) (by omega) (by omega))
    have hx : (x : Int) % 4294967296 = (x : Int) := by omega
    obtain ⟨n, hn⟩ : ∃ n, widthI l = n := ⟨_, rfl⟩
    rw [hn] at HW HP hbs
    have HBS := Lib.hid hbs; have HB := Lib.hid hB
    clear hbs hn h hw hlen hB
    go_enter Try.func11, Try.ntmps11
    go_wp2_with fail
    refine (HC.out).mono ?_
    rintro e w1 ⟨rfl, rfl⟩
    go_wp2_with fail
    refine (HW.out).mono ?_
    rintro e w1 ⟨rfl, rfl⟩
    go_wp2_with fail
    refine (HP.out).mono ?_
    rintro e w2 ⟨v2, rfl, ho2, hc2⟩
    have HO2 := Lib.hid ho2; have HC2 := Lib.hid hc2
    clear ho2 hc2
    go_wp2
    go_ret
    exact ⟨_, rfl, by rw [HBS.out]; exact ownsRow_mono HO2.out HB.out, HC2.out⟩
  · have hbs : bgPutB bs v l = bs := by unfold bgPutB; rw [if_neg hc]
    rw [decide_eq_false hc] at HC
    have HBS := Lib.hid hbs; have HO := Lib.hid h
    clear hbs h hc
    go_enter Try.func11, Try.ntmps11
    go_wp2_with fail
    refine (HC.out).mono ?_
    rintro e w1 ⟨rfl, rfl⟩
    go_wp2
    go_ret
    exact ⟨_, rfl, by rw [HBS.out]; exact HO.out, Chg.refl _ _⟩

theorem r13take_any (b : Nat) (o : Option Nat) (xs : List Nat) (p : Nat) (l : Int) (w : World) (h : Xr w b o (bitsB xs) p) (hl : -9223372036854775808 ≤ l) :
    Calls Try.prog 21 #[.pointer (some ⟨b, 0, none⟩), .int .i64 l] w fun e w' => e = .returned (.tuple #[.int .i64 (bgTk xs p l).1, .int .i64 (bgTk xs p l).2.1]) ∧ Xr w' b o (bitsB xs) (bgTk xs p l).2.2 ∧ Chg (fun k => k = b) w w' := by
  have H := Lib.hid h
  clear h
  by_cases h1 : 1 ≤ l
  · by_cases h2 : l ≤ 4096
    · have d1 : decide (l < 1) = false := decide_eq_false (by omega)
      have d2 : decide (4096 < l) = false := decide_eq_false (by omega)
      have hw := width_13 h1 h2
      have HW := Lib.hid (r7width_any l w (by omega) (by omega))
      obtain ⟨n, hn⟩ : ∃ n, widthI l = n := ⟨_, rfl⟩
      have hb : bgTk xs p l = if p + n ≤ 8 * xs.length then (if ((fv xs p n : Nat) : Int) ≤ l then (((fv xs p n : Nat) : Int), 0, p + n) else (0, 13, p + n)) else (0, 3, p) := by unfold bgTk; rw [if_pos ⟨h1, h2⟩, hn]
      rw [hn] at HW hw
      have HT := Lib.hid (xtake_f b o xs p (n : Int) w H.out)
      have hftk : ftk xs p (n : Int) = if p + n ≤ 8 * xs.length then (fv xs p n, true, p + n) else (0, false, p) := by
        unfold ftk
        by_cases hh : p + n ≤ 8 * xs.length
        · rw [if_pos (by omega), if_pos hh, Int.toNat_natCast]
        · rw [if_neg (by omega), if_neg hh]
      have hfv := fv_lt xs p n
      by_cases hh : p + n ≤ 8 * xs.length
      · rw [if_pos hh] at hb hftk
        rw [hftk] at HT
        obtain ⟨f, hf⟩ : ∃ f, fv xs p n = f := ⟨_, rfl⟩
        rw [hf] at hb HT hfv
        have hf13 : f < 8192 := Nat.lt_of_lt_of_le hfv (by have := pow_le hw.2.1; have : (2 : Nat) ^ 13 = 8192 := by decide
                                                           omega)
        by_cases hle : (f : Int) ≤ l
        · rw [if_pos hle] at hb
          rw [hb]
          have d3 : decide (l < (f : Int)) = false := decide_eq_false (by omega)
          clear hb hftk hf hfv hw hn
          go_enter Try.func21, Try.ntmps21
          go_wp2_with fail
          refine (HW.out).mono ?_
          rintro e w1 ⟨rfl, rfl⟩
          go_wp2_with fail
          refine (HT.out).mono ?_
          rintro e w2 ⟨rfl, hx2, hc2⟩
          have HX2 := Lib.hid hx2; have HC2 := Lib.hid hc2
          clear hx2 hc2
          go_wp2
          go_ret2
          exact ⟨rfl, HX2.out, HC2.out⟩
        · rw [if_neg hle] at hb
          rw [hb]
          have d3 : decide (l < (f : Int)) = true := decide_eq_true (by omega)
          clear hb hftk hf hfv hw hn
          go_enter Try.func21, Try.ntmps21
          go_wp2_with fail
          refine (HW.out).mono ?_
          rintro e w1 ⟨rfl, rfl⟩
          go_wp2_with fail
          refine (HT.out).mono ?_
          rintro e w2 ⟨rfl, hx2, hc2⟩
          have HX2 := Lib.hid hx2; have HC2 := Lib.hid hc2
          clear hx2 hc2
          go_wp2
          go_ret2
          exact ⟨rfl, HX2.out, HC2.out⟩
      · rw [if_neg hh] at hb hftk
        rw [hftk] at HT
        rw [hb]
        clear hb hftk hfv hw hn
        go_enter Try.func21, Try.ntmps21
        go_wp2_with fail
        refine (HW.out).mono ?_
        rintro e w1 ⟨rfl, rfl⟩
        go_wp2_with fail
        refine (HT.out).mono ?_
        rintro e w2 ⟨rfl, hx2, hc2⟩
        have HX2 := Lib.hid hx2; have HC2 := Lib.hid hc2
        clear hx2 hc2
        go_wp2
        go_ret2
        exact ⟨rfl, HX2.out, HC2.out⟩
    · have d1 : decide (l < 1) = false := decide_eq_false (by omega)
      have d2 : decide (4096 < l) = true := decide_eq_true (by omega)
      have hb : bgTk xs p l = (0, 1, p) := by unfold bgTk; rw [if_neg (by omega)]
      rw [hb]
      clear hb
      go_enter Try.func21, Try.ntmps21
      go_wp2
      go_ret2
      exact ⟨rfl, H.out, Chg.refl _ _⟩
  · have d1 : decide (l < 1) = true := decide_eq_true (by omega)
    have hb : bgTk xs p l = (0, 1, p) := by unfold bgTk; rw [if_neg (by omega)]
    rw [hb]
    clear hb
    go_enter Try.func21, Try.ntmps21
    go_wp2
    go_ret2
    exact ⟨rfl, H.out, Chg.refl _ _⟩

end Go.Proofs.Ytgnenelfbmpfgaa

/- The walk of BitwPlays. -/
namespace Go.Proofs.Ytgnenelfbmpfgaa
open Go.RowKit

theorem bools_apart {w : World} {base n b : Nat} {v : Value} {xs : List Value} {o : Option Nat} {bs : List Bool} (h : w.ownsRow base 4 1 v n xs) (hw : Wr w b o bs) : ∀ k, v.ownBlock = some k → ¬ (k = b ∨ some k = o) := by
  intro k hk
  obtain ⟨v2, hb, ho, hown⟩ := hw
  rcases h.2 with ⟨rfl, _⟩ | ⟨g, cap, cur, rfl, _, hg, _⟩
  · simp [Value.ownBlock] at hk
  · simp only [Value.ownBlock, Option.some.injEq] at hk
    subst hk
    rintro (hx | hx)
    · subst hx; rw [hb] at hg; simp at hg
    · rcases hown.2 with ⟨rfl, _⟩ | ⟨g2, cap2, cur2, rfl, _, hg2, _⟩
      · rw [← hx] at ho; simp [Value.ownBlock] at ho
      · rw [← hx] at ho
        simp only [Value.ownBlock, Option.some.injEq] at ho
        subst ho
        rw [hg] at hg2; simp at hg2

end Go.Proofs.Ytgnenelfbmpfgaa
