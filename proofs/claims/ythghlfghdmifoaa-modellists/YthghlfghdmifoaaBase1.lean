/- Texts that other texts of this claim rest on, one behind the other (BwMath BwBase BwPut BwPutB BwPutC BwTell BwSame OpGen HsMath BrMath BrRead BrNew BrAwake BrSplits HsBase HsRef NmMath NmMathB LgMath BoolRow RowBo NmRefA NmRefB NmRefD CxMath CxMathC MdMath). -/
import Derived.WalkKit
import Derived.Test.YthghlfghdmifoaaRows
import Derived.WalkSpells
import Derived.WalkLawsBesides
import Derived.RegionTactic
import Derived.ChangeAlike
import Derived.Deep.QuietTactic
import Derived.BigQuiet
import Derived.StillTailTactics
import Derived.Laws.CopyOwn
import Derived.Lib.Hide
import Derived.Deep.AppendLies
import Derived.Laws.BytesArg
import Derived.ProofKit
import Derived.OpenShut
import Derived.ShutString
import Derived.ChangeOld
import Derived.Below
import Derived.Deep.SlicePairs
import Derived.Laws.MathBits
/- Plain mathematics of bits in bytes (no program): a list of bits, the first one lowest, eight to a byte. -/
namespace Go.Proofs.Ythghlfghdmifoaa

def val : List Bool → Nat
  | [] => 0
  | b :: r => b.toNat + 2 * val r

theorem val_lt (l : List Bool) : val l < 2 ^ l.length := by
  induction l with
  | nil => simp [val]
  | cons b r ih =>
    simp only [val, List.length_cons, Nat.pow_succ]
    cases b <;> simp <;> omega

theorem val_append (a b : List Bool) : val (a ++ b) = val a + 2 ^ a.length * val b := by
  induction a with
  | nil => simp [val]
  | cons x r ih =>
    simp only [val, List.cons_append, List.length_cons, Nat.pow_succ, ih]
    rw [Nat.mul_add, Nat.mul_comm (2 ^ r.length) 2, ← Nat.mul_assoc]
    omega

def byteAt (l : List Bool) (j : Nat) : Nat := val ((l.drop (8 * j)).take 8)
def pack (l : List Bool) : List Nat := (List.range ((l.length + 7) / 8)).map (byteAt l)

theorem pack_length (l : List Bool) : (pack l).length = (l.length + 7) / 8 := by simp [pack]

theorem byteAt_lt (l : List Bool) (j : Nat) : byteAt l j < 256 := by
  have h := val_lt ((l.drop (8 * j)).take 8)
  have h2 : ((l.drop (8 * j)).take 8).length ≤ 8 := by simp; omega
  have h3 : 2 ^ ((l.drop (8 * j)).take 8).length ≤ 2 ^ 8 := Nat.pow_le_pow_right (by omega) h2
  unfold byteAt; omega

theorem byteAt_last_lt (l : List Bool) : byteAt l (l.length / 8) < 2 ^ (l.length % 8) := by
  have h := val_lt ((l.drop (8 * (l.length / 8))).take 8)
  have h2 : ((l.drop (8 * (l.length / 8))).take 8).length = l.length % 8 := by simp; omega
  unfold byteAt; rw [h2] at h; exact h

theorem pack_getElem (l : List Bool) (j : Nat) (h : j < (pack l).length) : (pack l)[j] = byteAt l j := by simp [pack]

theorem pack_getElem? (l : List Bool) (j : Nat) (h : j < (l.length + 7) / 8) : (pack l)[j]? = some (byteAt l j) := by
  rw [List.getElem?_eq_getElem (by rw [pack_length]; exact h), pack_getElem]

theorem pack_lt (l : List Bool) : ∀ x ∈ pack l, x < 256 := by
  intro x hx
  simp only [pack, List.mem_map] at hx
  obtain ⟨j, _, rfl⟩ := hx
  exact byteAt_lt l j

theorem byteAt_append_left (a b : List Bool) (j : Nat) (h : 8 * j + 8 ≤ a.length) : byteAt (a ++ b) j = byteAt a j := by
  unfold byteAt
  rw [List.drop_append_of_le_length (by omega), List.take_append_of_le_length (by simp; omega)]

theorem byteAt_append_right (a b : List Bool) (j k : Nat) (h : a.length = 8 * k) : byteAt (a ++ b) (k + j) = byteAt b j := by
  unfold byteAt
  rw [List.drop_append, List.drop_eq_nil_of_le (by omega), List.nil_append]
  congr 2
  rw [h]; congr 1; omega

theorem byteAt_snoc (l : List Bool) (b : Bool) : byteAt (l ++ [b]) (l.length / 8) = byteAt l (l.length / 8) + b.toNat * 2 ^ (l.length % 8) := by
  unfold byteAt
  have e1 : ((l ++ [b]).drop (8 * (l.length / 8))).take 8 = (l.drop (8 * (l.length / 8))) ++ [b] := by
    rw [List.drop_append_of_le_length (by omega), List.take_of_length_le (by simp; omega)]
  have e2 : (l.drop (8 * (l.length / 8))).take 8 = l.drop (8 * (l.length / 8)) := List.take_of_length_le (by simp; omega)
  rw [e1, e2, val_append]
  have e3 : (l.drop (8 * (l.length / 8))).length = l.length % 8 := by simp; omega
  rw [e3]; simp [val, Nat.mul_comm]

theorem pack_snoc_new (l : List Bool) (b : Bool) (h : l.length % 8 = 0) : pack (l ++ [b]) = pack l ++ [b.toNat] := by
  have hb := byteAt_snoc l b
  have h0 := byteAt_last_lt l
  rw [h] at hb h0
  have e : (pack (l ++ [b])).length = (pack l).length + 1 := by simp [pack_length]; omega
  apply List.ext_getElem (by simp [e])
  intro j h1 h2
  rw [pack_getElem]
  rw [pack_length] at h1
  simp only [List.length_append, List.length_singleton] at h1
  by_cases hj : j < l.length / 8
  · rw [List.getElem_append_left (by rw [pack_length]; omega), pack_getElem, byteAt_append_left _ _ _ (by omega)]
  · have : j = l.length / 8 := by omega
    subst this
    rw [List.getElem_append_right (by rw [pack_length]; omega)]
    simp only [List.getElem_singleton]; rw [hb]; simp at h0; simp [h0]

theorem pack_snoc_old (l : List Bool) (b : Bool) (h : l.length % 8 ≠ 0) :
    pack (l ++ [b]) = (pack l).set (l.length / 8) (byteAt l (l.length / 8) + b.toNat * 2 ^ (l.length % 8)) := by
  have hb := byteAt_snoc l b
  apply List.ext_getElem (by simp [pack_length]; omega)
  intro j h1 h2
  rw [pack_getElem]
  rw [pack_length] at h1
  simp only [List.length_append, List.length_singleton] at h1
  by_cases hj : j = l.length / 8
  · subst hj; rw [List.getElem_set_self, hb]
  · rw [List.getElem_set_ne (by omega), pack_getElem, byteAt_append_left _ _ _ (by omega)]

theorem pack_append (a b : List Bool) (h : a.length % 8 = 0) : pack (a ++ b) = pack a ++ pack b := by
  apply List.ext_getElem (by simp [pack_length]; omega)
  intro j h1 h2
  rw [pack_getElem]
  rw [pack_length] at h1
  simp only [List.length_append] at h1
  by_cases hj : j < a.length / 8
  · rw [List.getElem_append_left (by rw [pack_length]; omega), pack_getElem, byteAt_append_left _ _ _ (by omega)]
  · rw [List.getElem_append_right (by rw [pack_length]; omega), pack_getElem]
    have e := byteAt_append_right a b (j - a.length / 8) (a.length / 8) (by omega)
    rw [show a.length / 8 + (j - a.length / 8) = j from by omega] at e
    rw [e, pack_length]; congr 1; omega

/-- the n lowest bits of v, the lowest first -/
def bitsOf (v : Nat) : Nat → List Bool
  | 0 => []
  | n + 1 => bitsOf v n ++ [decide (v / 2 ^ n % 2 = 1)]

theorem bitsOf_length (v n : Nat) : (bitsOf v n).length = n := by induction n with
  | zero => rfl
  | succ n ih => simp [bitsOf, ih]

theorem bitsOf_getElem (v n i : Nat) (h : i < (bitsOf v n).length) : (bitsOf v n)[i] = decide (v / 2 ^ i % 2 = 1) := by
  induction n with
  | zero => simp [bitsOf] at h
  | succ n ih =>
    simp only [bitsOf]
    by_cases hi : i < n
    · rw [List.getElem_append_left (by rw [bitsOf_length]; exact hi)]; exact ih _
    · have : i = n := by simp [bitsOf_length] at h; omega
      subst this
      rw [List.getElem_append_right (by rw [bitsOf_length]; omega)]; simp [bitsOf_length]

theorem bitsOf_split (v k c : Nat) (h : c ≤ k) : bitsOf v k = bitsOf v c ++ bitsOf (v / 2 ^ c) (k - c) := by
  apply List.ext_getElem (by simp [bitsOf_length]; omega)
  intro i h1 h2
  rw [bitsOf_length] at h1
  rw [bitsOf_getElem]
  by_cases hi : i < c
  · rw [List.getElem_append_left (by rw [bitsOf_length]; exact hi), bitsOf_getElem]
  · rw [List.getElem_append_right (by rw [bitsOf_length]; omega), bitsOf_getElem, bitsOf_length, Nat.div_div_eq_div_mul, ← Nat.pow_add]
    rw [show c + (i - c) = i from by omega]

theorem bitsOf_congr (u v k : Nat) (h : ∀ i, i < k → u / 2 ^ i % 2 = v / 2 ^ i % 2) : bitsOf u k = bitsOf v k := by
  apply List.ext_getElem (by simp [bitsOf_length])
  intro i h1 h2
  rw [bitsOf_length] at h1
  rw [bitsOf_getElem, bitsOf_getElem, h i h1]

/-- what Put does to the bits -/
def putB (bs : List Bool) (v : Nat) (n : Int) : List Bool := if 0 ≤ n ∧ n ≤ 24 then bs ++ bitsOf v n.toNat else bs

theorem putB_length (bs : List Bool) (v : Nat) (n : Int) : bs.length ≤ (putB bs v n).length ∧ (putB bs v n).length ≤ bs.length + 24 := by
  unfold putB; split
  · simp [bitsOf_length]; omega
  · omega

/-- the mark: behind the bits there is a 1, and above it nothing -/
theorem mark_byte (l : List Bool) : byteAt (l ++ [true]) (l.length / 8) / 2 ^ (l.length % 8) = 1 := by
  rw [byteAt_snoc]
  have h := byteAt_last_lt l
  have hp : 0 < 2 ^ (l.length % 8) := Nat.pow_pos (by omega)
  simp only [Bool.toNat_true, Nat.one_mul]
  rw [Nat.add_div_right _ hp, Nat.div_eq_of_lt h]

end Go.Proofs.Ythghlfghdmifoaa

/- The relation 'only the blocks of S may have turned', a Writer in memory, and what bitw.setBit does. -/
namespace Go.Proofs.Ythghlfghdmifoaa
open Go.RowKit

/-- Only blocks of S, and new ones, may have turned. -/
structure Chg (S : Nat → Prop) (w w' : World) : Prop where
  os : w'.os = w.os
  tape : w'.tape = w.tape
  output : w'.output = w.output
  size : w.heap.size ≤ w'.heap.size
  block : ∀ k, k < w.heap.size → ¬ S k → w'.heap[k]? = w.heap[k]?

theorem Chg.refl (S : Nat → Prop) (w : World) : Chg S w w := ⟨rfl, rfl, rfl, Nat.le_refl _, fun _ _ _ => rfl⟩
theorem Chg.trans {S T : Nat → Prop} {a b c : World} (h : Chg S a b) (k : Chg T b c) (hT : ∀ k, k < a.heap.size → T k → S k) : Chg S a c :=
  ⟨k.os.trans h.os, k.tape.trans h.tape, k.output.trans h.output, Nat.le_trans h.size k.size,
    fun i hi hs => (k.block i (Nat.lt_of_lt_of_le hi h.size) (fun ht => hs (hT i hi ht))).trans (h.block i hi hs)⟩
theorem Chg.mono {S T : Nat → Prop} {a b : World} (h : Chg S a b) (hT : ∀ k, k < a.heap.size → S k → T k) : Chg T a b :=
  ⟨h.os, h.tape, h.output, h.size, fun i hi hs => h.block i hi (fun hk => hs (hT i hi hk))⟩
theorem Chg.drew {S : Nat → Prop} {a b : World} (h : Chg S a b) : Chg S a b.drew := ⟨h.os, h.tape, h.output, h.size, h.block⟩
theorem Chg.drewN {S : Nat → Prop} {a b : World} (h : Chg S a b) (n : Nat) : Chg S a (b.drewN n) := ⟨h.os, h.tape, h.output, h.size, h.block⟩
theorem Chg.of_grown {w w' : World} {row : Option Nat} (h : w.grownBy w' row) : Chg (fun k => some k = row) w w' := ⟨h.os, h.tape, h.output, h.size, h.block⟩
theorem Chg.alloc (S : Nat → Prop) (w : World) (o : Obj) : Chg S w (w.alloc o) := ⟨rfl, rfl, rfl, by simp, fun k hk _ => Below.heap_alloc w o k hk⟩
theorem Chg.setCell (w : World) (a : Addr) (u : Value) : Chg (fun k => k = a.block) w (w.setCell a u) :=
  ⟨rfl, rfl, rfl, by simp [World.setCell], fun k _ hs => heap_setCell_other w a k u hs⟩
theorem Chg.of_below {w w' : World} (h : Below w.heap.size w w') : Chg (fun _ => False) w w' := ⟨h.os, h.tape, h.output, h.size, fun k hk _ => h.block k hk⟩
theorem Chg.below {S : Nat → Prop} {w w' : World} {B : Nat} (h : Chg S w w') (hB : B ≤ w.heap.size) (hS : ∀ k, k < B → ¬ S k) : Below B w w' :=
  ⟨h.os, h.tape, h.output, h.size, fun k hk => h.block k (by omega) (hS k hk)⟩
theorem Chg.own {S : Nat → Prop} {w w' : World} (h : Chg S w w') {base : Nat} {e : TypeId} {size : Nat} {v : Value} {n : Nat} {xs : List Value} (hown : w.ownsRow base e size v n xs)
    (hS : ∀ k, v.ownBlock = some k → ¬ S k) : w'.ownsRow base e size v n xs := by
  refine ⟨hown.1, ?_⟩
  rcases hown.2 with hn | ⟨g, cap, cur, rfl, hb, hgg, rest⟩
  · exact .inl hn
  · refine .inr ⟨g, cap, cur, rfl, hb, ?_, rest⟩
    rw [h.block g (Array.getElem?_eq_some_iff.1 hgg).1 (hS g rfl)]
    exact hgg

theorem ownsRow_mono {w : World} {base base' : Nat} {e : TypeId} {size : Nat} {v : Value} {n : Nat} {xs : List Value} (h : w.ownsRow base e size v n xs) (hb : base' ≤ base) : w.ownsRow base' e size v n xs := by
  refine ⟨h.1, ?_⟩
  rcases h.2 with hn | ⟨g, cap, cur, rfl, hb', rest⟩
  · exact .inl hn
  · exact .inr ⟨g, cap, cur, rfl, by omega, rest⟩

theorem ownsRow_base {w : World} {base base' : Nat} {e : TypeId} {size : Nat} {v : Value} {n : Nat} {xs : List Value} (h : w.ownsRow base e size v n xs) (hb : ∀ k, v.ownBlock = some k → base' ≤ k) : w.ownsRow base' e size v n xs := by
  refine ⟨h.1, ?_⟩
  rcases h.2 with hn | ⟨g, cap, cur, rfl, hb', rest⟩
  · exact .inl hn
  · exact .inr ⟨g, cap, cur, rfl, hb g rfl, rest⟩

/-- what each law's walk ends in -/
def Says (w : World) (e : Ending) (w' : World) : Prop := e = .returned (.bool true) ∧ Chg (fun _ => False) w w'

/-- bytes as values -/
def bv (xs : List Nat) : List Value := xs.map fun n : Nat => .int .u8 (n : Int)
theorem bv_length (xs : List Nat) : (bv xs).length = xs.length := by simp [bv]
theorem bv_set (xs : List Nat) (i n : Nat) : (bv xs).set i (.int .u8 (n : Int)) = bv (xs.set i n) := by simp [bv, List.map_set]
theorem bv_snoc (xs : List Nat) (n : Nat) : bv xs ++ [.int .u8 (n : Int)] = bv (xs ++ [n]) := by simp [bv]
theorem bv_get (xs : List Nat) (i : Nat) (h : i < xs.length) : (bv xs)[i]? = some (.int .u8 ((xs.getD i 0 : Nat) : Int)) := by
  simp [bv, List.getElem?_eq_getElem h]

theorem or_bit : ∀ k : Nat, k < 8 → ∀ x : Nat, x < 2 ^ k → bits .or .u8 (x : Int) ((2 : Int) ^ k % 256) = ((x + 2 ^ k : Nat) : Int) := by decide +kernel

theorem Try.infoU8 : (Try.prog.info? 5).map (fun i => (i.zero, i.size, i.bytes)) = some (some (.int .u8 0), 1, 1) := by kernel_rfl

end Go.Proofs.Ythghlfghdmifoaa

/- A Writer in memory; what bitw.putBit does to it. -/
namespace Go.Proofs.Ythghlfghdmifoaa
open Go.RowKit

theorem cells2 {w : World} {b : Nat} {x y : Value} {t : TypeId} (h : w.heap[b]? = some (.cells #[x, y] t (0, 0))) :
    w.cell? ⟨b, 0, none⟩ = some x ∧ w.cell? ⟨b, 1, none⟩ = some y ∧ w.frozen? ⟨b, 0, none⟩ = false ∧ w.frozen? ⟨b, 1, none⟩ = false := by
  refine ⟨?_, ?_, frozen_of_row w b 0 _ t h, frozen_of_row w b 1 _ t h⟩
  · rw [cell_of_row w b 0 _ t _ h]; rfl
  · rw [cell_of_row w b 1 _ t _ h]; rfl

theorem set2_0 {w : World} {b : Nat} {x y u : Value} {t : TypeId} (h : w.heap[b]? = some (.cells #[x, y] t (0, 0))) : (w.setCell ⟨b, 0, none⟩ u).heap[b]? = some (.cells #[u, y] t (0, 0)) := by
  rw [heap_setCell_same w b 0 _ t u h]; rfl
theorem set2_1 {w : World} {b : Nat} {x y u : Value} {t : TypeId} (h : w.heap[b]? = some (.cells #[x, y] t (0, 0))) : (w.setCell ⟨b, 1, none⟩ u).heap[b]? = some (.cells #[x, u] t (0, 0)) := by
  rw [heap_setCell_same w b 1 _ t u h]; rfl

theorem slice_of_own {w : World} {base : Nat} {e : TypeId} {v : Value} {n : Nat} {xs : List Value} (h : w.ownsRow base e 1 v n xs) (hn : 0 < n) : ∃ g cap, v = .slice (some ⟨g, 0, none⟩) n cap ∧ base ≤ g := by
  rcases h.2 with ⟨_, h0⟩ | ⟨g, cap, cur, h, hb, _⟩
  · omega
  · exact ⟨g, cap, h, hb⟩

end Go.Proofs.Ythghlfghdmifoaa

/- What bitw.putBit does to a Writer. -/
namespace Go.Proofs.Ythghlfghdmifoaa
open Go.RowKit

end Go.Proofs.Ythghlfghdmifoaa

/- What bitw.New, Put, Bits do. -/
namespace Go.Proofs.Ythghlfghdmifoaa
open Go.RowKit

theorem wraps_u32 (n : Int) (h0 : 0 ≤ n) (h1 : n < 2 ^ 32) : IntKind.u32.wrap n = n := by rw [IntKind.wrap_u32]; omega

theorem and_one_bit (v k : Nat) (hv : v < 4294967296) : (bits BinOp.and IntKind.u32 ((v : Int) / 2 ^ k) 1 == 1) = decide (v / 2 ^ k % 2 = 1) := by
  have e : ((v : Int) / 2 ^ k) = ((v / 2 ^ k : Nat) : Int) := by simp
  have hl : v / 2 ^ k ≤ v := Nat.div_le_self _ _
  rw [e]
  generalize v / 2 ^ k = y at *
  have h := bits_mask .u32 32 (by decide) wraps_u32 1 (by decide) (y : Int) (by omega) (by omega)
  rw [show (1 : Int) = 2 ^ 1 - 1 from by decide, h]
  rw [Bool.eq_iff_iff]; simp; omega

end Go.Proofs.Ythghlfghdmifoaa

/- What bitw's Close tells: memory of its own. -/
namespace Go.Proofs.Ythghlfghdmifoaa
open Go.RowKit

/-- The call hands back bytes xs in memory of its own, and nothing that was there has turned. -/
def Fresh (w : World) (xs : List Nat) (e : Ending) (w' : World) : Prop :=
  ∃ g cap, e = .returned (.slice (some ⟨g, 0, none⟩) xs.length cap) ∧ w'.ownsRow w.heap.size 5 1 (.slice (some ⟨g, 0, none⟩) xs.length cap) xs.length (bv xs) ∧ Chg (fun _ => False) w w'

/-- a row that is known whole -/
theorem own_heap {w : World} {base g n : Nat} {e : TypeId} {xs : List Value} (h : w.ownsRow base e 1 (.slice (some ⟨g, 0, none⟩) n n) n xs) : w.heap[g]? = some (.cells xs.toArray e (0, 0)) := by
  rcases h.2 with ⟨h', _⟩ | ⟨g', cap', cur, h', _, hg, _, _, hcs, htake⟩
  · simp at h'
  · simp only [Value.slice.injEq, Option.some.injEq, Addr.mk.injEq, and_true, true_and] at h'
    obtain ⟨rfl, rfl⟩ := h'
    rw [hg, ← htake, List.take_of_length_le (by rw [Array.length_toList, hcs]; omega)]
theorem own_of_heap {w : World} {base g n : Nat} {e : TypeId} {xs : List Value} (hb : base ≤ g) (hn : xs.length = n) (hm : n ≤ maxLen) (h : w.heap[g]? = some (.cells xs.toArray e (0, 0))) : w.ownsRow base e 1 (.slice (some ⟨g, 0, none⟩) n n) n xs :=
  ⟨by omega, .inr ⟨g, n, xs.toArray, rfl, hb, h, Nat.le_refl _, hm, by simp [hn], List.take_of_length_le (by simp; omega)⟩⟩

theorem zeros_length (n : Nat) : (madeCells #[Value.int .u8 0] n).toList.length = n := by simp [madeCells]
theorem zeros_bv (n : Nat) : (madeCells #[Value.int .u8 0] n).toList = bv (List.replicate n 0) := by
  apply List.ext_getElem (by simp [madeCells, bv])
  intro j h1 h2
  simp [madeCells, bv, Nat.mod_one]
theorem Chg.then_below {w w1 w2 : World} (h : Chg (fun _ => False) w w1) (k : Below w.heap.size w1 w2) : Chg (fun _ => False) w w2 :=
  ⟨k.os.trans h.os, k.tape.trans h.tape, k.output.trans h.output, Nat.le_trans h.size k.size, fun i hi hs => (k.block i hi).trans (h.block i hi hs)⟩

theorem splice_all {α : Type} (L cs : List α) (h : L.length = cs.length) : splice L 0 cs = cs := by simp [splice, h]

theorem bv_one (xs : List Nat) : ∀ u ∈ bv xs, u.oneCell' = true := by
  intro u hu
  simp only [bv, List.mem_map] at hu
  obtain ⟨x, _, rfl⟩ := hu
  rfl

theorem own_src {w : World} {base : Nat} {e : TypeId} {v : Value} {n : Nat} {xs : List Value} (h : w.ownsRow base e 1 v n xs) : ∃ ao cap, v = .slice ao n cap ∧ (0 < xs.length → ∃ ad, ao = some ad ∧ ∀ j u, xs[j]? = some u → w.cell? (ad.add j) = some u) := by
  rcases h.2 with ⟨rfl, rfl⟩ | ⟨g, cap, cur, rfl, hb, _⟩
  · exact ⟨none, 0, rfl, fun hp => by have := h.1; omega⟩
  · exact ⟨some ⟨g, 0, none⟩, cap, rfl, fun _ => ⟨_, rfl, h.cells rfl⟩⟩

theorem Try.sizeU8 : (Try.prog.info? 5).map (·.size) = some 1 := by kernel_rfl

theorem close_math (bs : List Bool) (n : Nat) (hn : n = bs.length / 8 + 1) :
    ((pack bs ++ List.replicate (n - (pack bs).length) 0).getD (bs.length / 8) 0 < 2 ^ (bs.length % 8)) ∧
    (pack bs ++ List.replicate (n - (pack bs).length) 0).set (bs.length / 8) ((pack bs ++ List.replicate (n - (pack bs).length) 0).getD (bs.length / 8) 0 + 2 ^ (bs.length % 8)) = pack (bs ++ [true]) := by
  by_cases hm : bs.length % 8 = 0
  · have e1 : (pack bs).length = bs.length / 8 := by rw [pack_length]; omega
    have e2 : n - bs.length / 8 = 1 := by omega
    rw [pack_snoc_new bs true hm, e1, e2, hm]
    have e3 : (pack bs ++ List.replicate 1 0).getD (bs.length / 8) 0 = 0 := by
      rw [List.getD_eq_getElem?_getD, List.getElem?_append_right (by omega), e1]; simp
    rw [e3]
    refine ⟨by decide, ?_⟩
    rw [← e1]; simp
  · have e1 : (pack bs).length = bs.length / 8 + 1 := by rw [pack_length]; omega
    have e2 : n - (bs.length / 8 + 1) = 0 := by omega
    rw [pack_snoc_old bs true hm, e1, e2]
    have e3 : (pack bs ++ List.replicate 0 0).getD (bs.length / 8) 0 = byteAt bs (bs.length / 8) := by
      simp only [List.replicate_zero, List.append_nil]
      rw [List.getD_eq_getElem?_getD, pack_getElem? bs _ (by omega)]; rfl
    rw [e3]
    exact ⟨byteAt_last_lt bs, by simp⟩

theorem splice_front {α : Type} (L cs : List α) : splice L 0 cs = cs ++ L.drop cs.length := by simp [splice]

end Go.Proofs.Ythghlfghdmifoaa

/- Bytes that are read off memory; what puncheonref01.Same tells. -/
namespace Go.Proofs.Ythghlfghdmifoaa
open Go.RowKit

/-- The value v is a slice of the bytes xs. -/
def RdB (w : World) (v : Value) (xs : List Nat) : Prop :=
  (xs = [] ∧ ∃ ao c, v = .slice ao 0 c) ∨ ∃ g off cap, v = .slice (some ⟨g, off, none⟩) xs.length cap ∧ ∀ j, j < xs.length → w.cell? ⟨g, off + j, none⟩ = some (.int .u8 ((xs.getD j 0 : Nat) : Int))

def strB (xs : List Nat) : ByteArray := strOfNums (xs.map fun n : Nat => (n : Int))

theorem strB_toList (xs : List Nat) : (strB xs).data.toList = xs.map UInt8.ofNat := by
  rw [strB, strOfNums_data, List.map_map]; rfl

theorem map_ofNat_inj : ∀ (xs ys : List Nat), (∀ x ∈ xs, x < 256) → (∀ y ∈ ys, y < 256) → xs.map UInt8.ofNat = ys.map UInt8.ofNat → xs = ys
  | [], [], _, _, _ => rfl
  | [], _ :: _, _, _, h => by simp at h
  | _ :: _, [], _, _, h => by simp at h
  | x :: xs, y :: ys, hx, hy, h => by
    simp only [List.map_cons, List.cons.injEq] at h
    have h1 : x = y := by
      have := congrArg UInt8.toNat h.1
      have hx0 := hx x (by simp); have hy0 := hy y (by simp)
      simp at this; omega
    rw [h1, map_ofNat_inj xs ys (fun z hz => hx z (by simp [hz])) (fun z hz => hy z (by simp [hz])) h.2]

theorem str_beq (xs ys : List Nat) (hx : ∀ x ∈ xs, x < 256) (hy : ∀ y ∈ ys, y < 256) : ((strB xs).toList == (strB ys).toList) = decide (xs = ys) := by
  rw [ByteArray.toList_eq, ByteArray.toList_eq, strB_toList, strB_toList, Bool.eq_iff_iff, beq_iff_eq, decide_eq_true_iff]
  exact ⟨map_ofNat_inj xs ys hx hy, fun h => by rw [h]⟩

theorem run_conv {w : World} {v : Value} {xs : List Nat} (h : RdB w v xs) : (convert 22 9 v).run Try.prog w = .ok (.string (strB xs)) w := by
  rcases h with ⟨rfl, ao, c, rfl⟩ | ⟨g, off, cap, rfl, hc⟩
  · rw [run_convert_bytes_string w 22 9 5 ao 0 c Try.underlying22 Try.underlying5 Try.underlying9]
    cases ao with
    | none => simp [Conv.bytesToString]; rfl
    | some a =>
      have hl : (loadCells a 0).run Try.prog w = .ok #[] w := run_loadCells_list (P := Try.prog) w a [] (fun j v hj => by simp at hj)
      simp [Conv.bytesToString, hl]
      rfl
  · refine run_convert_bytes_arg (P := Try.prog) w 22 5 Try.underlying22 Try.underlying5 g off xs.length cap _ (by simp) (fun i hi => ?_) 9 Try.underlying9
    rw [hc i hi]; simp [List.getD_eq_getElem?_getD, List.getElem?_eq_getElem hi]

theorem RdB.of_own {w : World} {base : Nat} {v : Value} {n : Nat} {xs : List Nat} (h : w.ownsRow base 5 1 v n (bv xs)) : RdB w v xs := by
  have hl := h.1
  rw [bv_length] at hl
  rcases h.2 with ⟨rfl, rfl⟩ | ⟨g, cap, cur, rfl, _⟩
  · exact .inl ⟨List.eq_nil_of_length_eq_zero (by omega), none, 0, rfl⟩
  · refine .inr ⟨g, 0, cap, by simp [hl], fun j hj => ?_⟩
    rw [Nat.zero_add, h.cellAt j (by omega), bv_get xs j hj]

theorem RdB.kept {S : Nat → Prop} {w w' : World} {v : Value} {xs : List Nat} (h : RdB w v xs) (hc : Chg S w w') (hS : ∀ k, v.ownBlock = some k → ¬ S k) : RdB w' v xs := by
  rcases h with h | ⟨g, off, cap, rfl, hcell⟩
  · exact .inl h
  · refine .inr ⟨g, off, cap, rfl, fun j hj => ?_⟩
    have := hcell j hj
    have hlt : g < w.heap.size := block_lt_of_cell this
    rw [World.cell?_of_block (w := w) (hc.block g hlt (hS g rfl))]; exact this

end Go.Proofs.Ythghlfghdmifoaa

/- Opening arguments: what every row's last step wants; []byte and []int. -/
namespace Go.Proofs.Ythghlfghdmifoaa
open Go.ChangeShapes Go.WideShapes Go.ChangeAt Go.RowKit Go.Deep

theorem own : ownKnob Try.prog.godebug = none := by kernel_rfl
theorem laidOut : laidOutB Try.prog = true := by kernel_rfl

theorem spot_none {w : World} {a : Addr} {v : Value} (h : w.cell? (a.add 0) = some v) : ∃ g off, a = ⟨g, off, none⟩ := by
  obtain ⟨b, off, spot⟩ := a
  have hs : spot = none := by simpa [Addr.add] using World.cell?_spot h
  exact ⟨b, off, by rw [hs]⟩

theorem add_lit (g off j : Nat) : (⟨g, off, none⟩ : Addr).add j = ⟨g, off + j, none⟩ := by unfold Addr.add; split <;> simp_all

theorem wf_u32 {x : Int} (h : (Lit.int .u32 x).wf = true) : 0 ≤ x ∧ x < 4294967296 := by
  have := bounds_u32 h; omega

theorem Chg.bel {w w' : World} (h : Chg (fun _ => False) w w') : Below w.heap.size w w' := h.below (Nat.le_refl _) (fun _ _ => by simp)

theorem cellsU8 : Try.prog.cellsOf 5 = 1 := by kernel_rfl

theorem open_bytes {H : Type} {enc : TypeId × Value → H} {W : World} {base : Nat} {spare : Nat → Bool} {held : Bool} {a : Option Addr} {len cap : Nat} {d : DataW H} {p : List MemPlace}
    (h : DataW.Trod enc Try.prog W base spare held 22 (.slice a len cap) d p) : ∃ xs, RdB W (.slice a len cap) xs ∧ ∀ x ∈ xs, x < 256 := by
  obtain ⟨fuel, hf⟩ := h
  rcases open_ints Try.underlying22 Try.underlying5 cellsU8 hf with ⟨hcs, _⟩ | ⟨x, l, c, zs, hcs, _, hl, _, hz, _, hcell, hwz⟩
  · simp [Value.cells] at hcs
    obtain ⟨rfl, rfl, rfl⟩ := hcs
    exact ⟨[], .inl ⟨rfl, none, 0, rfl⟩, by simp⟩
  · simp [Value.cells] at hcs
    obtain ⟨rfl, rfl, rfl⟩ := hcs
    have hlen : len ≤ zs.length := by rw [hz]; split <;> omega
    have hb : ∀ j, j < zs.length → 0 ≤ zs.getD j 0 ∧ zs.getD j 0 < 256 := by
      intro j hj
      have hmem : zs.getD j 0 ∈ zs := by
        rw [List.getD_eq_getElem?_getD, List.getElem?_eq_getElem hj]; exact List.getElem_mem hj
      have := bounds_u8 (hwz _ hmem)
      omega
    refine ⟨(List.range len).map fun j => (zs.getD j 0).toNat, ?_, ?_⟩
    · by_cases h0 : len = 0
      · subst h0
        exact .inl ⟨rfl, some x, cap, rfl⟩
      · obtain ⟨g, off, rfl⟩ := spot_none (hcell 0 (by omega))
        refine .inr ⟨g, off, cap, by simp, fun j hj => ?_⟩
        have hj' : j < len := by simpa using hj
        have hc := hcell j (by omega)
        rw [add_lit] at hc
        rw [hc]
        have := (hb j (by omega)).1
        simp only [List.getD_eq_getElem?_getD, List.getElem?_map, List.getElem?_range hj', Option.map_some, Option.getD_some] at this ⊢
        rw [Int.toNat_of_nonneg this]
    · intro y hy
      simp only [List.mem_map, List.mem_range] at hy
      obtain ⟨j, hj, rfl⟩ := hy
      have := hb j (by omega)
      omega

/-- The value v is a slice of the numbers zs. -/
def RdI (w : World) (v : Value) (zs : List Int) : Prop :=
  (zs = [] ∧ ∃ ao c, v = .slice ao 0 c) ∨ ∃ g off cap, v = .slice (some ⟨g, off, none⟩) zs.length cap ∧ ∀ j, j < zs.length → w.cell? ⟨g, off + j, none⟩ = some (.int .i64 (zs.getD j 0))

theorem RdI.kept {S : Nat → Prop} {w w' : World} {v : Value} {zs : List Int} (h : RdI w v zs) (hc : Chg S w w') (hS : ∀ k, v.ownBlock = some k → ¬ S k) : RdI w' v zs := by
  rcases h with h | ⟨g, off, cap, rfl, hcell⟩
  · exact .inl h
  · refine .inr ⟨g, off, cap, rfl, fun j hj => ?_⟩
    have := hcell j hj
    have hlt : g < w.heap.size := block_lt_of_cell this
    rw [World.cell?_of_block (w := w) (hc.block g hlt (hS g rfl))]; exact this

theorem cellsInt : Try.prog.cellsOf 3 = 1 := by kernel_rfl

end Go.Proofs.Ythghlfghdmifoaa

/- Counts as lists of 256 whole numbers: sums, how many are above 0, of bytes. Plain. -/
namespace Go.Proofs.Ythghlfghdmifoaa
open Go

def tot : List Int → Int
  | [] => 0
  | x :: r => x + tot r

def pos : List Int → Nat
  | [] => 0
  | x :: r => (if 0 < x then 1 else 0) + pos r

theorem tot_append (a b : List Int) : tot (a ++ b) = tot a + tot b := by
  induction a with
  | nil => simp [tot]
  | cons x r ih => simp only [List.cons_append, tot, ih]; omega

theorem pos_append (a b : List Int) : pos (a ++ b) = pos a + pos b := by
  induction a with
  | nil => simp [pos]
  | cons x r ih => simp only [List.cons_append, pos, ih]; omega

theorem take_snoc (cs : List Int) (k : Nat) (h : k < cs.length) : cs.take (k + 1) = cs.take k ++ [cs.getD k 0] := by
  rw [List.take_succ_eq_append_getElem h, List.getD_eq_getElem?_getD, List.getElem?_eq_getElem h]; rfl

theorem tot_take_succ (cs : List Int) (k : Nat) (h : k < cs.length) : tot (cs.take (k + 1)) = tot (cs.take k) + cs.getD k 0 := by
  rw [take_snoc cs k h, tot_append]; simp [tot]

theorem pos_take_succ (cs : List Int) (k : Nat) (h : k < cs.length) : pos (cs.take (k + 1)) = pos (cs.take k) + if 0 < cs.getD k 0 then 1 else 0 := by
  rw [take_snoc cs k h, pos_append]; simp [pos]

theorem tot_nonneg (cs : List Int) (h : ∀ c ∈ cs, 0 ≤ c) : 0 ≤ tot cs := by
  induction cs with
  | nil => simp [tot]
  | cons x r ih =>
    have := h x (by simp)
    have := ih (fun c hc => h c (by simp [hc]))
    simp only [tot]; omega

theorem tot_take_le (cs : List Int) (k : Nat) (h : ∀ c ∈ cs, 0 ≤ c) : tot (cs.take k) ≤ tot cs := by
  have := tot_append (cs.take k) (cs.drop k)
  rw [List.take_append_drop] at this
  have := tot_nonneg (cs.drop k) (fun c hc => h c (List.mem_of_mem_drop hc))
  omega

theorem pos_le (cs : List Int) : pos cs ≤ cs.length := by
  induction cs with
  | nil => simp [pos]
  | cons x r ih => simp only [pos, List.length_cons]; split <;> omega

/-- counts that are right -/
def isRight (cs : List Int) : Prop := cs.length = 256 ∧ (∀ c ∈ cs, 0 ≤ c) ∧ tot cs ≤ 1073741824
instance isRight_dec (cs : List Int) : Decidable (isRight cs) := by unfold isRight; infer_instance

def manyI (cs : List Int) : Nat := if isRight cs then pos cs else 0
def totalI (cs : List Int) : Int := if isRight cs then tot cs else 0

theorem manyI_le (cs : List Int) : manyI cs ≤ 256 := by
  unfold manyI
  split
  · next h => have := pos_le cs; have := h.1; omega
  · omega

theorem totalI_le (cs : List Int) : 0 ≤ totalI cs ∧ totalI cs ≤ 1073741824 := by
  unfold totalI
  split
  · next h => exact ⟨tot_nonneg _ h.2.1, h.2.2⟩
  · omega

theorem getD_mem {cs : List Int} {k : Nat} (h : k < cs.length) : cs.getD k 0 ∈ cs := by
  rw [List.getD_eq_getElem?_getD, List.getElem?_eq_getElem h]; exact List.getElem_mem h

theorem isRight.at {cs : List Int} (h : isRight cs) (k : Nat) (hk : k < cs.length) : 0 ≤ cs.getD k 0 ∧ tot (cs.take k) + cs.getD k 0 ≤ 1073741824 := by
  refine ⟨h.2.1 _ (getD_mem hk), ?_⟩
  rw [← tot_take_succ cs k hk]
  exact Int.le_trans (tot_take_le cs (k + 1) h.2.1) h.2.2

theorem isRight.one {cs : List Int} (h : isRight cs) (k : Nat) (hk : k < cs.length) : 0 ≤ cs.getD k 0 ∧ cs.getD k 0 ≤ 1073741824 := by
  have h1 := h.at k hk
  have := tot_nonneg (cs.take k) (fun c hc => h.2.1 c (List.mem_of_mem_take hc))
  omega

/-- the first k are no less than 0 -/
def upTo (cs : List Int) (k : Nat) : Prop := ∀ j, j < k → 0 ≤ cs.getD j 0
theorem upTo_zero (cs : List Int) : upTo cs 0 := fun j hj => by omega
theorem upTo_succ {cs : List Int} {k : Nat} (h : upTo cs k) (h1 : 0 ≤ cs.getD k 0) : upTo cs (k + 1) := fun j hj => by
  by_cases he : j = k
  · rw [he]; exact h1
  · exact h j (by omega)
theorem upTo_all {cs : List Int} {n : Nat} (hn : cs.length = n) (h : upTo cs n) : ∀ c ∈ cs, 0 ≤ c := by
  intro c hc
  obtain ⟨j, hj, rfl⟩ := List.mem_iff_getElem.1 hc
  have := h j (by omega)
  rwa [List.getD_eq_getElem?_getD, List.getElem?_eq_getElem hj] at this
theorem upTo_take {cs : List Int} {k : Nat} (h : upTo cs k) : 0 ≤ tot (cs.take k) := by
  refine tot_nonneg _ fun c hc => ?_
  obtain ⟨j, hj, rfl⟩ := List.mem_iff_getElem.1 hc
  have hl : j < k ∧ j < cs.length := by rw [List.length_take] at hj; omega
  have := h j hl.1
  rw [List.getD_eq_getElem?_getD, List.getElem?_eq_getElem hl.2] at this
  rw [List.getElem_take]; exact this

/-- added one by one -/
def addL (a b : List Int) : List Int := List.zipWith (· + ·) a b

theorem addL_length (a b : List Int) (h : a.length = b.length) : (addL a b).length = a.length := by simp [addL, h]
theorem addL_getD (a b : List Int) (k : Nat) (ha : k < a.length) (hb : k < b.length) : (addL a b).getD k 0 = a.getD k 0 + b.getD k 0 := by
  simp [addL, List.getD_eq_getElem?_getD, List.getElem?_zipWith, List.getElem?_eq_getElem ha, List.getElem?_eq_getElem hb]

theorem tot_addL : ∀ (a b : List Int), a.length = b.length → tot (addL a b) = tot a + tot b
  | [], [], _ => by simp [addL, tot]
  | [], _ :: _, h => by simp at h
  | _ :: _, [], h => by simp at h
  | x :: a, y :: b, h => by
    have ih := tot_addL a b (by simpa using h)
    simp only [addL, List.zipWith_cons_cons, tot] at ih ⊢
    omega

theorem pos_addL : ∀ (a b : List Int), a.length = b.length → (∀ c ∈ a, 0 ≤ c) → (∀ c ∈ b, 0 ≤ c) → pos a ≤ pos (addL a b) ∧ pos b ≤ pos (addL a b) ∧ pos (addL a b) ≤ pos a + pos b
  | [], [], _, _, _ => by simp [addL, pos]
  | [], _ :: _, h, _, _ => by simp at h
  | _ :: _, [], h, _, _ => by simp at h
  | x :: a, y :: b, h, ha, hb => by
    have ih := pos_addL a b (by simpa using h) (fun c hc => ha c (by simp [hc])) (fun c hc => hb c (by simp [hc]))
    have hx := ha x (by simp); have hy := hb y (by simp)
    simp only [addL, List.zipWith_cons_cons, pos] at ih ⊢
    by_cases h1 : 0 < x <;> by_cases h2 : 0 < y <;> by_cases h3 : 0 < x + y <;> simp only [h1, h2, h3, if_true, if_false] <;> omega

theorem addL_nonneg : ∀ (a b : List Int), (∀ c ∈ a, 0 ≤ c) → (∀ c ∈ b, 0 ≤ c) → ∀ c ∈ addL a b, 0 ≤ c
  | [], _, _, _, c, hc => by simp [addL] at hc
  | _ :: _, [], _, _, c, hc => by simp [addL] at hc
  | x :: a, y :: b, ha, hb, c, hc => by
    simp only [addL, List.zipWith_cons_cons, List.mem_cons] at hc
    rcases hc with rfl | hc
    · have := ha x (by simp); have := hb y (by simp); omega
    · exact addL_nonneg a b (fun c hc => ha c (by simp [hc])) (fun c hc => hb c (by simp [hc])) c hc

theorem right_addL {a b : List Int} (ha : isRight a) (hb : isRight b) : isRight (addL a b) ↔ tot a + tot b ≤ 1073741824 := by
  have hl : a.length = b.length := ha.1.trans hb.1.symm
  unfold isRight
  rw [addL_length a b hl, tot_addL a b hl]
  exact ⟨fun h => h.2.2, fun h => ⟨ha.1, addL_nonneg a b ha.2.1 hb.2.1, h⟩⟩

/-- whether two can be added -/
def addOk (a b : List Int) : Prop := isRight a ∧ isRight b ∧ isRight (addL a b)
instance addOk_dec (a b : List Int) : Decidable (addOk a b) := by unfold addOk; infer_instance

theorem adds_not {a b : List Int} (h : ¬ addOk a b) : ¬ (isRight a ∧ isRight b ∧ totalI a ≤ 1073741824 - totalI b) := by
  rintro ⟨ha, hb, ht⟩
  apply h
  refine ⟨ha, hb, (right_addL ha hb).2 ?_⟩
  unfold totalI at ht
  rw [if_pos ha, if_pos hb] at ht
  omega

theorem adds_yes {a b : List Int} (h : addOk a b) : totalI (addL a b) = totalI a + totalI b ∧ manyI a ≤ manyI (addL a b) ∧ manyI b ≤ manyI (addL a b) ∧ manyI (addL a b) ≤ manyI a + manyI b := by
  obtain ⟨ha, hb, hs⟩ := h
  have hl : a.length = b.length := ha.1.trans hb.1.symm
  unfold totalI manyI
  rw [if_pos ha, if_pos hb, if_pos hs, if_pos ha, if_pos hb, if_pos hs]
  exact ⟨tot_addL a b hl, pos_addL a b hl ha.2.1 hb.2.1⟩

/-- how often each byte comes -/
def cnt (xs : List Nat) : List Int := (List.range 256).map fun v => ((xs.count v : Nat) : Int)

theorem cnt_length (xs : List Nat) : (cnt xs).length = 256 := by simp [cnt]
theorem cnt_getD (xs : List Nat) (v : Nat) (h : v < 256) : (cnt xs).getD v 0 = ((xs.count v : Nat) : Int) := by simp [cnt, List.getD_eq_getElem?_getD, h]
theorem cnt_nonneg (xs : List Nat) : ∀ c ∈ cnt xs, 0 ≤ c := by
  intro c hc
  simp only [cnt, List.mem_map] at hc
  obtain ⟨v, _, rfl⟩ := hc
  omega

theorem ext_getD {a b : List Int} (hl : a.length = b.length) (h : ∀ k, k < a.length → a.getD k 0 = b.getD k 0) : a = b := by
  apply List.ext_getElem hl
  intro i h1 h2
  have := h i h1
  rwa [List.getD_eq_getElem?_getD, List.getD_eq_getElem?_getD, List.getElem?_eq_getElem h1, List.getElem?_eq_getElem h2] at this

theorem cnt_append (xs ys : List Nat) : cnt (xs ++ ys) = addL (cnt xs) (cnt ys) := by
  apply ext_getD
  · rw [addL_length _ _ (by rw [cnt_length, cnt_length]), cnt_length, cnt_length]
  · intro k hk
    rw [cnt_length] at hk
    rw [addL_getD _ _ k (by rw [cnt_length]; exact hk) (by rw [cnt_length]; exact hk), cnt_getD _ k hk, cnt_getD _ k hk, cnt_getD _ k hk, List.count_append]
    omega

theorem addL_comm (a b : List Int) : addL a b = addL b a := by
  unfold addL
  rw [List.zipWith_comm]
  congr 1
  funext x y
  omega

theorem cnt_snoc (xs : List Nat) (v : Nat) (hv : v < 256) : cnt (xs ++ [v]) = (cnt xs).set v ((cnt xs).getD v 0 + 1) := by
  apply ext_getD
  · rw [List.length_set, cnt_length, cnt_length]
  · intro k hk
    rw [cnt_length] at hk
    rw [cnt_getD _ k hk, cnt_getD _ v hv, List.count_append]
    by_cases h : v = k
    · subst h
      simp [List.getD_eq_getElem?_getD, cnt_length, hk]
    · rw [List.getD_eq_getElem?_getD, List.getElem?_set_ne h, ← List.getD_eq_getElem?_getD, cnt_getD _ k hk]
      have : List.count k [v] = 0 := by rw [List.count_eq_zero]; simp; omega
      rw [this]; simp

theorem tot_set (l : List Int) (i : Nat) (y : Int) (h : i < l.length) : tot (l.set i y) + l.getD i 0 = tot l + y := by
  induction l generalizing i with
  | nil => simp at h
  | cons x r ih =>
    cases i with
    | zero => simp [tot]; omega
    | succ i =>
      have := ih i (by simpa using h)
      simp only [List.set_cons_succ, tot, List.getD_cons_succ] at this ⊢
      omega

theorem pos_set (l : List Int) (i : Nat) (y : Int) (h : i < l.length) : pos (l.set i y) + (if 0 < l.getD i 0 then 1 else 0) = pos l + if 0 < y then 1 else 0 := by
  induction l generalizing i with
  | nil => simp at h
  | cons x r ih =>
    cases i with
    | zero => simp [pos]; omega
    | succ i =>
      have := ih i (by simpa using h)
      simp only [List.set_cons_succ, pos, List.getD_cons_succ] at this ⊢
      omega

theorem tot_zeros (n : Nat) : tot (List.replicate n 0) = 0 := by
  induction n with
  | zero => rfl
  | succ n ih => simp only [List.replicate_succ, tot, ih]; rfl

theorem count_none (n : Nat) : ((List.range n).map fun v => ((([] : List Nat).count v : Nat) : Int)) = List.replicate n 0 := by
  apply List.ext_getElem (by simp)
  intro i h1 h2
  simp
theorem cnt_nil : cnt [] = List.replicate 256 0 := count_none 256

theorem snoc_ind {P : List Nat → Prop} (h0 : P []) (h1 : ∀ xs x, P xs → P (xs ++ [x])) (xs : List Nat) : P xs := by
  rw [← List.reverse_reverse xs]
  induction xs.reverse with
  | nil => simpa using h0
  | cons x r ih => rw [List.reverse_cons]; exact h1 _ _ ih

theorem tot_cnt (xs : List Nat) : (∀ x ∈ xs, x < 256) → tot (cnt xs) = (xs.length : Int) := by
  refine snoc_ind (P := fun xs => (∀ x ∈ xs, x < 256) → tot (cnt xs) = (xs.length : Int)) ?_ ?_ xs
  · intro _
    rw [cnt_nil, tot_zeros]; rfl
  · intro xs x ih hx
    have hx0 : x < 256 := hx x (by simp)
    have := ih (fun y hy => hx y (by simp [hy]))
    have hs := tot_set (cnt xs) x ((cnt xs).getD x 0 + 1) (by rw [cnt_length]; exact hx0)
    rw [cnt_snoc xs x hx0]
    simp only [List.length_append, List.length_cons, List.length_nil]
    omega

theorem cnt_right (xs : List Nat) (hx : ∀ x ∈ xs, x < 256) (hl : xs.length ≤ 1073741824) : isRight (cnt xs) :=
  ⟨cnt_length xs, cnt_nonneg xs, by rw [tot_cnt xs hx]; omega⟩

theorem total_cnt (xs : List Nat) (hx : ∀ x ∈ xs, x < 256) (hl : xs.length ≤ 1073741824) : totalI (cnt xs) = (xs.length : Int) := by
  unfold totalI; rw [if_pos (cnt_right xs hx hl), tot_cnt xs hx]

theorem addOk_cnt (xs ys : List Nat) (hx : ∀ x ∈ xs, x < 256) (hy : ∀ x ∈ ys, x < 256) (hl : xs.length + ys.length ≤ 1073741824) : addOk (cnt xs) (cnt ys) := by
  refine ⟨cnt_right xs hx (by omega), cnt_right ys hy (by omega), ?_⟩
  rw [← cnt_append]
  refine cnt_right _ (fun x h => ?_) (by rw [List.length_append]; omega)
  rcases List.mem_append.1 h with h | h
  · exact hx x h
  · exact hy x h

theorem many_snoc (xs : List Nat) (v : Nat) (hx : ∀ x ∈ xs, x < 256) (hv : v < 256) (hl : xs.length < 1073741824) :
    manyI (cnt (xs ++ [v])) = if (cnt xs).getD v 0 = 0 then manyI (cnt xs) + 1 else manyI (cnt xs) := by
  have h1 := cnt_right xs hx (by omega)
  have h2 := cnt_right (xs ++ [v]) (fun x h => by
    rcases List.mem_append.1 h with h | h
    · exact hx x h
    · simp at h; omega) (by simp; omega)
  unfold manyI
  rw [if_pos h1, if_pos h2, cnt_snoc xs v hv]
  have hs := pos_set (cnt xs) v ((cnt xs).getD v 0 + 1) (by rw [cnt_length]; exact hv)
  have hn := cnt_nonneg xs _ (getD_mem (cs := cnt xs) (k := v) (by rw [cnt_length]; exact hv))
  rw [if_pos (show 0 < (cnt xs).getD v 0 + 1 by omega)] at hs
  by_cases h0 : (cnt xs).getD v 0 = 0
  · rw [if_pos h0]
    rw [if_neg (show ¬ 0 < (cnt xs).getD v 0 by omega)] at hs
    omega
  · rw [if_neg h0]
    rw [if_pos (show 0 < (cnt xs).getD v 0 by omega)] at hs
    omega

end Go.Proofs.Ythghlfghdmifoaa

/- Plain mathematics (no program): the bits of bytes, the mark, numbers out of bits. -/
namespace Go.Proofs.Ythghlfghdmifoaa

theorem val_bitsOf (v n : Nat) : val (bitsOf v n) = v % 2 ^ n := by
  induction n with
  | zero => simp [bitsOf, val, Nat.mod_one]
  | succ n ih =>
    rw [bitsOf, val_append, ih, bitsOf_length, Nat.mod_pow_succ]
    congr 2
    have := Nat.mod_two_eq_zero_or_one (v / 2 ^ n)
    rcases this with h | h <;> simp [val, h]

theorem val_zeros (l : List Bool) (k : Nat) : val (l ++ List.replicate k false) = val l := by
  rw [val_append]
  have : val (List.replicate k false) = 0 := by
    induction k with
    | zero => rfl
    | succ k ih => simp [List.replicate_succ, val, ih]
  rw [this]; simp

theorem val_div (l : List Bool) (i : Nat) : val l / 2 ^ i = val (l.drop i) := by
  by_cases h : i ≤ l.length
  · have e : val l = val (l.take i) + 2 ^ i * val (l.drop i) := by
      conv => lhs; rw [← List.take_append_drop i l, val_append]
      rw [List.length_take, Nat.min_eq_left h]
    have h1 := val_lt (l.take i)
    rw [List.length_take, Nat.min_eq_left h] at h1
    rw [e, Nat.add_mul_div_left _ _ (Nat.pow_pos (by omega)), Nat.div_eq_of_lt h1, Nat.zero_add]
  · rw [List.drop_eq_nil_of_le (by omega)]
    have h1 := val_lt l
    have h2 : 2 ^ l.length ≤ 2 ^ i := Nat.pow_le_pow_right (by omega) (by omega)
    rw [Nat.div_eq_of_lt (by omega)]; rfl

theorem val_odd (l : List Bool) : decide (val l % 2 = 1) = l.getD 0 false := by
  cases l with
  | nil => rfl
  | cons b r =>
    have e : val (b :: r) % 2 = b.toNat := by
      simp only [val]
      cases b <;> simp <;> omega
    rw [e]; cases b <;> rfl

theorem val_bit (l : List Bool) (i : Nat) : decide (val l / 2 ^ i % 2 = 1) = l.getD i false := by
  rw [val_div, val_odd]
  simp [List.getD_eq_getElem?_getD]

theorem bitsOf_val (l : List Bool) : bitsOf (val l) l.length = l := by
  apply List.ext_getElem (by rw [bitsOf_length])
  intro i h1 h2
  rw [bitsOf_getElem, val_bit, List.getD_eq_getElem?_getD, List.getElem?_eq_getElem h2]; rfl

/-- the bits of bytes, each byte's lowest first -/
def bitsB : List Nat → List Bool
  | [] => []
  | x :: r => bitsOf x 8 ++ bitsB r

theorem bitsB_length (xs : List Nat) : (bitsB xs).length = 8 * xs.length := by
  induction xs with
  | nil => rfl
  | cons x r ih => simp [bitsB, bitsOf_length, ih]; omega

theorem bitsB_append (xs ys : List Nat) : bitsB (xs ++ ys) = bitsB xs ++ bitsB ys := by
  induction xs with
  | nil => rfl
  | cons x r ih => simp [bitsB, ih]

theorem bitsB_get (xs : List Nat) (i : Nat) (h : i < 8 * xs.length) : (bitsB xs)[i]? = some (decide (xs.getD (i / 8) 0 / 2 ^ (i % 8) % 2 = 1)) := by
  induction xs generalizing i with
  | nil => simp at h
  | cons x r ih =>
    simp only [bitsB]
    by_cases hi : i < 8
    · rw [List.getElem?_append_left (by rw [bitsOf_length]; exact hi), List.getElem?_eq_getElem (by rw [bitsOf_length]; exact hi), bitsOf_getElem]
      rw [show i / 8 = 0 from by omega, show i % 8 = i from by omega]; rfl
    · rw [List.getElem?_append_right (by rw [bitsOf_length]; omega), bitsOf_length, ih (i - 8) (by simp at h; omega)]
      rw [show i / 8 = (i - 8) / 8 + 1 from by omega, show (i - 8) % 8 = i % 8 from by omega]; rfl

theorem pack_bitsB (xs : List Nat) (h : ∀ x ∈ xs, x < 256) : pack (bitsB xs) = xs := by
  induction xs with
  | nil => rfl
  | cons x r ih =>
    simp only [bitsB]
    rw [pack_append _ _ (by rw [bitsOf_length]), ih (fun y hy => h y (by simp [hy]))]
    have e : pack (bitsOf x 8) = [x] := by
      have hx := h x (by simp)
      have hv : byteAt (bitsOf x 8) 0 = x := by
        unfold byteAt
        rw [Nat.mul_zero, List.drop_zero, List.take_of_length_le (by rw [bitsOf_length]; exact Nat.le_refl _), val_bitsOf, Nat.mod_eq_of_lt (by omega)]
      unfold pack
      rw [bitsOf_length]
      show List.map (byteAt (bitsOf x 8)) (List.range 1) = [x]
      simp [List.range_succ, hv]
    rw [e]; rfl

theorem bitsB_pack (bs : List Bool) : bitsB (pack bs) = bs ++ List.replicate (8 * ((bs.length + 7) / 8) - bs.length) false := by
  apply List.ext_getElem?
  intro i
  by_cases h : i < 8 * ((bs.length + 7) / 8)
  · rw [bitsB_get _ _ (by rw [pack_length]; exact h), List.getD_eq_getElem?_getD, pack_getElem? _ _ (by omega), Option.getD_some]
    unfold byteAt
    rw [val_bit]
    by_cases hi : i < bs.length
    · rw [List.getElem?_append_left hi, List.getElem?_eq_getElem hi, List.getD_eq_getElem?_getD, List.getElem?_take, if_pos (by omega), List.getElem?_drop, show 8 * (i / 8) + i % 8 = i from by omega, List.getElem?_eq_getElem hi]; rfl
    · rw [List.getElem?_append_right (by omega), List.getElem?_replicate, if_pos (by omega), List.getD_eq_getElem?_getD, List.getElem?_take, if_pos (by omega), List.getElem?_drop, show 8 * (i / 8) + i % 8 = i from by omega, List.getElem?_eq_none (by omega)]; rfl
  · rw [List.getElem?_eq_none (by rw [bitsB_length, pack_length]; omega), List.getElem?_eq_none (by simp; omega)]

theorem byteAt_zeros (l : List Bool) (k j : Nat) : byteAt (l ++ List.replicate k false) j = byteAt l j := by
  unfold byteAt
  rw [List.drop_append, List.take_append, List.drop_replicate, List.take_replicate, val_zeros]

theorem pack_zeros (l : List Bool) (k : Nat) (h : (l.length + k + 7) / 8 = (l.length + 7) / 8) : pack (l ++ List.replicate k false) = pack l := by
  apply List.ext_getElem (by simp [pack_length, h])
  intro j h1 h2
  rw [pack_getElem, pack_getElem, byteAt_zeros]

/-- how many bits a byte needs -/
def len8 (x : Nat) : Nat := if x = 0 then 0 else Nat.log2 x + 1

theorem len8_facts : ∀ x, x < 256 → x ≠ 0 → 1 ≤ len8 x ∧ len8 x ≤ 8 ∧ x / 2 ^ (len8 x - 1) % 2 = 1 ∧ ∀ j, j < 8 → len8 x ≤ j → x / 2 ^ j % 2 = 0 := by decide +kernel

/-- where the mark stands -/
def markPos (xs : List Nat) : Nat := 8 * (xs.length - 1) + len8 (xs.getD (xs.length - 1) 0) - 1
def openB (xs : List Nat) : List Bool := (bitsB xs).take (markPos xs)

theorem getD_lt (xs : List Nat) (h : ∀ x ∈ xs, x < 256) (i : Nat) : xs.getD i 0 < 256 := by
  rw [List.getD_eq_getElem?_getD]
  by_cases hi : i < xs.length
  · rw [List.getElem?_eq_getElem hi]; exact h _ (List.getElem_mem hi)
  · rw [List.getElem?_eq_none (by omega)]; decide

theorem markPos_lt (xs : List Nat) (hb : ∀ x ∈ xs, x < 256) (h0 : xs ≠ []) (hl : xs.getD (xs.length - 1) 0 ≠ 0) : 8 * (xs.length - 1) ≤ markPos xs ∧ markPos xs < 8 * xs.length := by
  have hn : 0 < xs.length := List.length_pos_iff.2 h0
  obtain ⟨f1, f2, _⟩ := len8_facts _ (getD_lt xs hb (xs.length - 1)) hl
  unfold markPos; omega

theorem openB_length (xs : List Nat) (hb : ∀ x ∈ xs, x < 256) (h0 : xs ≠ []) (hl : xs.getD (xs.length - 1) 0 ≠ 0) : (openB xs).length = markPos xs := by
  have := markPos_lt xs hb h0 hl
  unfold openB; rw [List.length_take, bitsB_length]; omega

theorem mark_split (xs : List Nat) (hb : ∀ x ∈ xs, x < 256) (h0 : xs ≠ []) (hl : xs.getD (xs.length - 1) 0 ≠ 0) :
    bitsB xs = openB xs ++ true :: List.replicate (8 * xs.length - markPos xs - 1) false := by
  have hn : 0 < xs.length := List.length_pos_iff.2 h0
  have hm := markPos_lt xs hb h0 hl
  have hlen := openB_length xs hb h0 hl
  obtain ⟨f1, f2, f3, f4⟩ := len8_facts _ (getD_lt xs hb (xs.length - 1)) hl
  have em : markPos xs = 8 * (xs.length - 1) + len8 (xs.getD (xs.length - 1) 0) - 1 := rfl
  generalize len8 (xs.getD (xs.length - 1) 0) = L at *
  apply List.ext_getElem?
  intro i
  by_cases hi : i < markPos xs
  · rw [List.getElem?_append_left (by omega)]
    unfold openB
    rw [List.getElem?_take, if_pos hi]
  · rw [List.getElem?_append_right (by omega), hlen]
    by_cases he : i = markPos xs
    · rw [he, Nat.sub_self, bitsB_get _ _ (by omega), show markPos xs / 8 = xs.length - 1 from by omega, show markPos xs % 8 = L - 1 from by omega, f3]; rfl
    · by_cases hb2 : i < 8 * xs.length
      · rw [bitsB_get _ _ hb2, show i / 8 = xs.length - 1 from by omega, f4 (i % 8) (by omega) (by omega)]
        rw [show i - markPos xs = (i - markPos xs - 1) + 1 from by omega, List.getElem?_cons_succ, List.getElem?_replicate, if_pos (by omega)]; rfl
      · rw [List.getElem?_eq_none (by rw [bitsB_length]; omega), List.getElem?_eq_none (by simp; omega)]

theorem mark_unique (a b : List Bool) (k m : Nat) (h : a ++ true :: List.replicate k false = b ++ true :: List.replicate m false) : a = b := by
  have key : ∀ (l : List Bool) (n : Nat), (l ++ true :: List.replicate n false).reverse.dropWhile (fun x => !x) = true :: l.reverse := by
    intro l n
    rw [List.reverse_append, List.reverse_cons, List.reverse_replicate, List.append_assoc]
    induction n with
    | zero => simp
    | succ n _ => simp [List.replicate_succ]
  have h1 := key a k
  rw [h, key b m] at h1
  simp at h1
  exact h1.symm

theorem close_last (bs : List Bool) : (pack (bs ++ [true])).length = bs.length / 8 + 1 ∧ (pack (bs ++ [true])).getD ((pack (bs ++ [true])).length - 1) 0 ≠ 0 ∧ pack (bs ++ [true]) ≠ [] := by
  have el : (pack (bs ++ [true])).length = bs.length / 8 + 1 := by rw [pack_length]; simp; omega
  refine ⟨el, ?_, fun h => by rw [h] at el; simp at el⟩
  rw [el, Nat.add_sub_cancel, List.getD_eq_getElem?_getD, pack_getElem? _ _ (by simp; omega), Option.getD_some]
  intro h
  have := mark_byte bs
  rw [h] at this; simp at this

theorem openB_close (bs : List Bool) : openB (pack (bs ++ [true])) = bs := by
  obtain ⟨el, hl, h0⟩ := close_last bs
  have hs := mark_split _ (pack_lt _) h0 hl
  rw [bitsB_pack, List.append_assoc] at hs
  exact (mark_unique _ _ _ _ hs).symm

theorem pack_openB (xs : List Nat) (hb : ∀ x ∈ xs, x < 256) (h0 : xs ≠ []) (hl : xs.getD (xs.length - 1) 0 ≠ 0) : pack (openB xs ++ [true]) = xs := by
  have hn : 0 < xs.length := List.length_pos_iff.2 h0
  have hs := mark_split xs hb h0 hl
  have hm := markPos_lt xs hb h0 hl
  have hlen := openB_length xs hb h0 hl
  have e := pack_bitsB xs hb
  rw [hs, show openB xs ++ true :: List.replicate (8 * xs.length - markPos xs - 1) false = (openB xs ++ [true]) ++ List.replicate (8 * xs.length - markPos xs - 1) false from by simp, pack_zeros _ _ (by simp [hlen]; omega)] at e
  exact e

/-- what Take tells, and what it leaves -/
def takeV (bs : List Bool) (n : Nat) : Nat := val (bs.drop (bs.length - n))
def takeR (bs : List Bool) (n : Nat) : List Bool := bs.take (bs.length - n)

theorem takeV_lt (bs : List Bool) (n : Nat) : takeV bs n < 2 ^ n := by
  have h := val_lt (bs.drop (bs.length - n))
  have h2 : 2 ^ (bs.drop (bs.length - n)).length ≤ 2 ^ n := Nat.pow_le_pow_right (by omega) (by simp; omega)
  unfold takeV; omega

theorem takeR_length (bs : List Bool) (n : Nat) : (takeR bs n).length = bs.length - n := by simp [takeR]

theorem drop_split (l : List Bool) (a b : Nat) (h : a ≤ b) (hb : b ≤ l.length) : l.drop a = (l.take b).drop a ++ l.drop b := by
  conv => lhs; rw [← List.take_append_drop b l, List.drop_append]
  rw [List.length_take, Nat.min_eq_left hb, Nat.sub_eq_zero_of_le h, List.drop_zero]

theorem take_split (bs : List Bool) (k c : Nat) (hk : k ≤ bs.length) (hc : c ≤ k) : takeV bs k = takeV (takeR bs c) (k - c) + 2 ^ (k - c) * takeV bs c ∧ takeR bs k = takeR (takeR bs c) (k - c) := by
  unfold takeV takeR
  rw [List.length_take, Nat.min_eq_left (by omega), show bs.length - c - (k - c) = bs.length - k from by omega]
  refine ⟨?_, by rw [List.take_take, Nat.min_eq_left (by omega)]⟩
  have e := drop_split bs (bs.length - k) (bs.length - c) (by omega) (by omega)
  rw [e, val_append]
  congr 2
  simp; congr 1; omega

theorem take_put (bs : List Bool) (v n : Nat) : takeV (bs ++ bitsOf v n) n = v % 2 ^ n ∧ takeR (bs ++ bitsOf v n) n = bs := by
  unfold takeV takeR
  rw [List.length_append, bitsOf_length, Nat.add_sub_cancel]
  rw [List.drop_left, List.take_left]
  exact ⟨val_bitsOf v n, rfl⟩

end Go.Proofs.Ythghlfghdmifoaa

/- A bitr.Reader in memory; what bitr's Len8, bitAt, markAt, Left do. -/
namespace Go.Proofs.Ythghlfghdmifoaa
open Go.RowKit

theorem len8_le (x : Nat) (h : x < 256) : len8 x ≤ 8 := bitLen_le8 x h

theorem and_one (y : Nat) (hy : y < 4294967296) : bits BinOp.and IntKind.u32 (y : Int) 1 = ((y % 2 : Nat) : Int) := by
  have h := bits_mask .u32 32 (by decide) wraps_u32 1 (by decide) (y : Int) (by omega) (by omega)
  rw [show (1 : Int) = 2 ^ 1 - 1 from by decide, h]
  simp

theorem row_cells {w : World} {g : Nat} {t : TypeId} {xs : List Nat} (h : w.heap[g]? = some (.cells (bv xs).toArray t (0, 0))) (j : Nat) (hj : j < xs.length) : w.cell? ⟨g, j, none⟩ = some (.int .u8 ((xs.getD j 0 : Nat) : Int)) := by
  rw [cell_of_row w g j _ t _ h, List.getElem?_toArray, bv_get xs j hj]

theorem bits_or_nat (k : IntKind) (hk : ∀ n : Int, 0 ≤ n → n < 2 ^ k.bits → k.wrap n = n) (a b : Nat) (ha : a < 2 ^ k.bits) (hb : b < 2 ^ k.bits) : bits .or k a b = ((a ||| b : Nat) : Int) := by
  simp only [bits, BitVec.ofInt_natCast, BitVec.toNat_or, BitVec.toNat_ofNat, Nat.mod_eq_of_lt ha, Nat.mod_eq_of_lt hb]
  exact hk _ (Int.natCast_nonneg _) (by exact_mod_cast Nat.or_lt_two_pow ha hb)

theorem or_shift (v i y : Nat) (hv : v < 2 ^ i) (hi : i ≤ 24) (hy : y < 2) : bits .or .u32 (v : Int) ((y : Int) * 2 ^ i % 4294967296) = ((v + y * 2 ^ i : Nat) : Int) := by
  have hp : 2 ^ i ≤ 2 ^ 24 := Nat.pow_le_pow_right (by omega) hi
  have hlt : y * 2 ^ i ≤ 2 ^ 24 := by
    have : y * 2 ^ i ≤ 1 * 2 ^ i := Nat.mul_le_mul_right _ (by omega)
    omega
  have e : ((y : Int) * 2 ^ i % 4294967296) = ((y * 2 ^ i : Nat) : Int) := by
    have e1 : ((y : Int) * 2 ^ i) = ((y * 2 ^ i : Nat) : Int) := by simp
    rw [e1]
    generalize y * 2 ^ i = z at *
    omega
  rw [e, bits_or_nat .u32 wraps_u32 v _ (by simp only [IntKind.bits]; omega) (by simp only [IntKind.bits]; omega)]
  congr 1
  have := Nat.two_pow_add_eq_or_of_lt hv y
  rw [Nat.or_comm, Nat.mul_comm y, ← this, Nat.add_comm]

theorem val_take_succ (D : List Bool) (i : Nat) (h : i < D.length) : val (D.take (i + 1)) = val (D.take i) + (D[i]).toNat * 2 ^ i := by
  rw [List.take_succ_eq_append_getElem h, val_append]
  simp only [val, List.length_take, Nat.min_eq_left (Nat.le_of_lt h)]
  simp [Nat.mul_comm]

theorem val_take_lt (D : List Bool) (i : Nat) : val (D.take i) < 2 ^ i := by
  have h := val_lt (D.take i)
  have h2 : 2 ^ (D.take i).length ≤ 2 ^ i := Nat.pow_le_pow_right (by omega) (List.length_take_le _ _)
  omega

theorem toNat_bit (y : Nat) (b : Bool) (h : b = decide (y % 2 = 1)) : y % 2 = b.toNat := by
  subst h
  have := Nat.mod_two_eq_zero_or_one y
  rcases this with h | h <;> simp [h]

end Go.Proofs.Ythghlfghdmifoaa

/- What bitr.New tells. -/
namespace Go.Proofs.Ythghlfghdmifoaa
open Go.RowKit

/-- there is a mark -/
def Marked (xs : List Nat) : Prop := xs ≠ [] ∧ xs.getD (xs.length - 1) 0 ≠ 0

instance (xs : List Nat) : Decidable (Marked xs) := by unfold Marked; infer_instance

end Go.Proofs.Ythghlfghdmifoaa

/- What puncheonlaw02.awake tells: the chapter's example holds. -/
namespace Go.Proofs.Ythghlfghdmifoaa
open Go.RowKit

theorem ex_open : openB [45] = [true, false, true, true, false] := by decide +kernel
theorem ex_take : takeV [true, false, true, true, false] 2 = 1 ∧ takeR [true, false, true, true, false] 2 = [true, false, true] ∧ takeV [true, false, true] 3 = 5 ∧ takeR [true, false, true] 3 = [] := by decide +kernel

theorem one_rdb (w : World) (x : Nat) : RdB (w.alloc (.cells #[.int .u8 (x : Int)] 5)) (.slice (some ⟨w.heap.size, 0, none⟩) 1 1) [x] := by
  refine .inr ⟨w.heap.size, 0, 1, rfl, fun j hj => ?_⟩
  have : j = 0 := by simpa using hj
  subst this
  rw [cell_of_row _ _ 0 _ _ _ (heap_alloc_new w _)]; rfl

end Go.Proofs.Ythghlfghdmifoaa

/- The walk of BitrSplits. -/
namespace Go.Proofs.Ythghlfghdmifoaa
open Go.RowKit

theorem RdB.form {w : World} {v : Value} {xs : List Nat} (h : RdB w v xs) : ∃ ao cap, v = .slice ao xs.length cap := by
  rcases h with ⟨rfl, ao, c, rfl⟩ | ⟨g, off, cap, rfl, _⟩
  · exact ⟨ao, c, rfl⟩
  · exact ⟨_, cap, rfl⟩

theorem or_high (hi lo j : Nat) (hlo : lo < 2 ^ j) (hb : lo + 2 ^ j * hi < 4294967296) : bits .or .u32 ((hi : Int) * 2 ^ j % 4294967296) (lo : Int) = ((lo + 2 ^ j * hi : Nat) : Int) := by
  have e : ((hi : Int) * 2 ^ j % 4294967296) = ((2 ^ j * hi : Nat) : Int) := by
    have e1 : ((hi : Int) * 2 ^ j) = ((2 ^ j * hi : Nat) : Int) := by simp [Int.mul_comm]
    rw [e1]
    generalize 2 ^ j * hi = z at *
    omega
  rw [e, bits_or_nat .u32 wraps_u32 _ lo (by simp only [IntKind.bits]; omega) (by simp only [IntKind.bits]; omega)]
  congr 1
  have := Nat.two_pow_add_eq_or_of_lt hlo hi
  omega

end Go.Proofs.Ythghlfghdmifoaa

/- Rows of numbers (int) in memory: read, or of one's own; what puncheonref01.Ints tells. -/
namespace Go.Proofs.Ythghlfghdmifoaa
open Go.RowKit

/-- numbers as values -/
def iw (zs : List Int) : List Value := zs.map fun z => .int .i64 z
theorem iw_length (zs : List Int) : (iw zs).length = zs.length := by simp [iw]
theorem iw_set (zs : List Int) (i : Nat) (z : Int) : (iw zs).set i (.int .i64 z) = iw (zs.set i z) := by simp [iw, List.map_set]
theorem iw_snoc (zs : List Int) (z : Int) : iw zs ++ [.int .i64 z] = iw (zs ++ [z]) := by simp [iw]
theorem iw_get (zs : List Int) (i : Nat) (h : i < zs.length) : (iw zs)[i]? = some (.int .i64 (zs.getD i 0)) := by
  simp [iw, List.getElem?_eq_getElem h]

theorem RdI.form {w : World} {v : Value} {zs : List Int} (h : RdI w v zs) : ∃ ao cap, v = .slice ao zs.length cap := by
  rcases h with ⟨rfl, ao, c, rfl⟩ | ⟨g, off, cap, rfl, _⟩
  · exact ⟨ao, c, rfl⟩
  · exact ⟨_, cap, rfl⟩

theorem RdI.at {w : World} {ao : Option Addr} {n cap : Nat} {zs : List Int} (h : RdI w (.slice ao n cap) zs) (k : Nat) (hk : k < zs.length) : ∃ g off, ao = some ⟨g, off, none⟩ ∧ w.cell? ⟨g, off + k, none⟩ = some (.int .i64 (zs.getD k 0)) := by
  rcases h with ⟨h0, _⟩ | ⟨g, off, cap', he, hc⟩
  · rw [h0] at hk; simp at hk
  · simp only [Value.slice.injEq] at he
    exact ⟨g, off, he.1, hc _ hk⟩

theorem RdB.at {w : World} {ao : Option Addr} {n cap : Nat} {xs : List Nat} (h : RdB w (.slice ao n cap) xs) (k : Nat) (hk : k < xs.length) : ∃ g off, ao = some ⟨g, off, none⟩ ∧ w.cell? ⟨g, off + k, none⟩ = some (.int .u8 ((xs.getD k 0 : Nat) : Int)) := by
  rcases h with ⟨h0, _⟩ | ⟨g, off, cap', he, hc⟩
  · rw [h0] at hk; simp at hk
  · simp only [Value.slice.injEq] at he
    exact ⟨g, off, he.1, hc _ hk⟩

/-- A block that is a row of numbers, of any kind (a slice's, or an array's). -/
def RowI (w : World) (g : Nat) (t : TypeId) (zs : List Int) : Prop := w.heap[g]? = some (.cells (iw zs).toArray t (0, 0))

theorem RowI.cell {w : World} {g : Nat} {t : TypeId} {zs : List Int} (h : RowI w g t zs) (k : Nat) (hk : k < zs.length) : w.cell? ⟨g, k, none⟩ = some (.int .i64 (zs.getD k 0)) := by
  rw [cell_of_row w g k _ _ _ h, List.getElem?_toArray, iw_get zs k hk]
theorem RowI.free {w : World} {g : Nat} {t : TypeId} {zs : List Int} (h : RowI w g t zs) (k : Nat) : w.frozen? ⟨g, k, none⟩ = false := frozen_of_row w g k _ _ h
theorem RowI.kept {S : Nat → Prop} {w w' : World} {g : Nat} {t : TypeId} {zs : List Int} (h : RowI w g t zs) (hc : Chg S w w') (hS : ¬ S g) : RowI w' g t zs := (hc.block g (lt_of_block h) hS).trans h
theorem RowI.lt {w : World} {g : Nat} {t : TypeId} {zs : List Int} (h : RowI w g t zs) : g < w.heap.size := lt_of_block h
theorem RowI.set {w : World} {g : Nat} {t : TypeId} {zs : List Int} (h : RowI w g t zs) (i : Nat) (z : Int) : RowI (w.setCell ⟨g, i, none⟩ (.int .i64 z)) g t (zs.set i z) := by
  have := heap_setCell_same w g i _ _ (.int .i64 z) h
  unfold RowI
  rw [this, List.setIfInBounds_toArray, iw_set]
theorem RowI.rd {w : World} {g : Nat} {t : TypeId} {zs : List Int} (h : RowI w g t zs) (cap : Nat) : RdI w (.slice (some ⟨g, 0, none⟩) zs.length cap) zs :=
  .inr ⟨g, 0, cap, rfl, fun j hj => by rw [Nat.zero_add]; exact h.cell j hj⟩

/-- The value v is a slice of the numbers zs, in memory from block base on, that may be written. -/
def OwnI (w : World) (base : Nat) (v : Value) (zs : List Int) : Prop :=
  ∃ g off cap, v = .slice (some ⟨g, off, none⟩) zs.length cap ∧ base ≤ g ∧ g < w.heap.size ∧ (∀ j, j < zs.length → w.cell? ⟨g, off + j, none⟩ = some (.int .i64 (zs.getD j 0))) ∧ ∀ j, w.frozen? ⟨g, off + j, none⟩ = false

theorem OwnI.rd {w : World} {base : Nat} {v : Value} {zs : List Int} (h : OwnI w base v zs) : RdI w v zs := by
  obtain ⟨g, off, cap, rfl, _, _, hc, _⟩ := h
  exact .inr ⟨g, off, cap, rfl, hc⟩
theorem OwnI.kept {S : Nat → Prop} {w w' : World} {base : Nat} {v : Value} {zs : List Int} (h : OwnI w base v zs) (hc : Chg S w w') (hS : ∀ k, v.ownBlock = some k → ¬ S k) : OwnI w' base v zs := by
  obtain ⟨g, off, cap, rfl, hb, hl, hcell, hf⟩ := h
  have hblk := hc.block g hl (hS g rfl)
  refine ⟨g, off, cap, rfl, hb, Nat.lt_of_lt_of_le hl hc.size, fun j hj => ?_, fun j => ?_⟩
  · rw [World.cell?_of_block (w := w) hblk]; exact hcell j hj
  · have := hf j
    unfold World.frozen? at this ⊢
    simp only [hblk]; exact this
theorem OwnI.mono {w : World} {base base' : Nat} {v : Value} {zs : List Int} (h : OwnI w base v zs) (hb : base' ≤ base) : OwnI w base' v zs := by
  obtain ⟨g, off, cap, rfl, h1, h2, h3⟩ := h
  exact ⟨g, off, cap, rfl, Nat.le_trans hb h1, h2, h3⟩
theorem OwnI.drew {w : World} {base : Nat} {v : Value} {zs : List Int} (h : OwnI w base v zs) : OwnI w.drew base v zs := h.kept ((Chg.refl (fun _ => False) w).drew) (by simp)
theorem RowI.own {w : World} {g : Nat} {t : TypeId} {zs : List Int} (h : RowI w g t zs) (cap base : Nat) (hb : base ≤ g) : OwnI w base (.slice (some ⟨g, 0, none⟩) zs.length cap) zs :=
  ⟨g, 0, cap, rfl, hb, h.lt, fun j hj => by rw [Nat.zero_add]; exact h.cell j hj, fun j => h.free _⟩

theorem OwnI.store {w : World} {base g off n cap : Nat} {zs : List Int} (h : OwnI w base (.slice (some ⟨g, off, none⟩) n cap) zs) (i : Nat) (hi : i < zs.length) (z : Int) :
    OwnI (w.setCell ⟨g, off + i, none⟩ (.int .i64 z)) base (.slice (some ⟨g, off, none⟩) n cap) (zs.set i z) := by
  obtain ⟨g', off', cap', he, hb, hl, hcell, hf⟩ := h
  simp only [Value.slice.injEq, Option.some.injEq, Addr.mk.injEq] at he
  obtain ⟨⟨rfl, rfl, -⟩, rfl, rfl⟩ := he
  refine ⟨g, off, cap, by simp, hb, by simpa [World.setCell] using hl, fun j hj => ?_, fun j => ?_⟩
  · rw [List.length_set] at hj
    by_cases hij : i = j
    · subst hij
      rw [World.cell?_setCell_same _ _ _ (hcell i hi), List.getD_eq_getElem?_getD, List.getElem?_set_self hi]; rfl
    · rw [World.cell?_setCell_other _ _ _ _ (by simp), hcell j hj, List.getD_eq_getElem?_getD, List.getD_eq_getElem?_getD, List.getElem?_set_ne hij]
  · rw [World.frozen?_setCell]; exact hf j

theorem drewN2 (w : World) (m n : Nat) : (w.drewN m).drewN n = w.drewN (m + n) := by
  simp [World.drewN, Nat.add_assoc]

theorem iw_zeros (n : Nat) : iw (List.replicate n 0) = List.replicate n (.int .i64 0) := by simp [iw]

theorem Try.infoInt : (Try.prog.info? 3).map (fun i => (i.zero, i.size, i.bytes)) = some (some (.int .i64 0), 1, 8) := by kernel_rfl

theorem zeros_iw (n : Nat) : (madeCells (Value.int .i64 0).cells (n * 1)).toList = iw (List.replicate n 0) := by
  rw [iw_zeros, Nat.mul_one]
  apply List.ext_getElem (by simp [madeCells])
  intro i h1 h2
  simp [madeCells, Value.cells, Nat.mod_one]

theorem RowI.of_own {w : World} {base g n : Nat} {zs : List Int} (h : w.ownsRow base 3 1 (.slice (some ⟨g, 0, none⟩) n n) n (iw zs)) : RowI w g 3 zs := by
  rcases h.2 with ⟨h0, _⟩ | ⟨g', cap, cur, he, _, hg, _, _, hs, ht⟩
  · simp at h0
  · simp only [Value.slice.injEq, Option.some.injEq, Addr.mk.injEq, and_true, true_and] at he
    obtain ⟨rfl, rfl⟩ := he
    have : cur = (iw zs).toArray := by
      apply Array.ext'
      rw [← ht, List.take_of_length_le (by rw [Array.length_toList, hs]; exact Nat.le_refl _)]
    rw [this] at hg
    exact hg

theorem wpList_make_ints {ops : Array Oper} {rest : List Oper} {o : Oper} {a : Act} {w : World} {Q : Exit → Act → World → Prop} (hg : o.guard = none) (l c : Operand) (hop : o.op = Op.makeSlice 35 l c)
    (L C : Int) (n : Nat) (hl : a.eval l = .int .i64 L) (hc : a.eval c = .int .i64 C) (hL : L = (n : Int)) (hC : C = (n : Int)) (hn : n < 100000000000) (Z : List Int) (hZ : Z = List.replicate n 0)
    (hK : ∀ w', RowI w' w.heap.size 3 Z → Chg (fun _ => False) w w' → wpList Try.prog ops Q rest (a.put o.dst (.slice (some ⟨w.heap.size, 0, none⟩) n n)) w') : wpList Try.prog ops Q (o :: rest) a w := by
  obtain ⟨i, hi, hz0, hz1, hz2⟩ := info_parts Try.infoInt
  refine wpList_make_full w hg l c 35 hop w.heap.size 3 i (.int .i64 0) 1 Try.underlying35 hi hz0 hz1 .i64 .i64 L C n hl hc hL hC (by rw [hz2]; omega) (by unfold maxLen; omega) (Nat.le_refl _) ?_
  intro w1 h1 h2
  rw [zeros_iw, ← hZ] at h1
  exact hK w1 (RowI.of_own h1) ((Chg.of_grown h2).mono fun k _ hk => by simp at hk)

/-- bytes that the call has laid -/
theorem rdb_new (w : World) (xs : List Nat) (cs : Array Value) (n : Nat) (fr : Nat × Nat) (h : cs.toList = bv xs) (hn : n = xs.length) : RdB (w.alloc (.cells cs 5 fr)) (.slice (some ⟨w.heap.size, 0, none⟩) n n) xs := by
  subst hn
  refine .inr ⟨w.heap.size, 0, xs.length, rfl, fun j hj => ?_⟩
  rw [cell_of_row _ _ _ _ _ _ (heap_alloc_new w _), Nat.zero_add, ← Array.getElem?_toList, h, bv_get xs j hj]

theorem eq_upTo {a b : List Int} (hl : a.length = b.length) (h : ∀ j, j < a.length → a.getD j 0 = b.getD j 0) : a = b := ext_getD hl h

set_option maxHeartbeats 1000000 in
theorem ints_any (v u : Value) (ps bs : List Int) (w : World) (h : RdI w v ps) (h2 : RdI w u bs) (hl : ps.length < 100000000000) (_hl2 : bs.length < 100000000000) :
    Calls Try.prog 17 #[v, u] w fun e w' => e = .returned (.bool (decide (ps = bs))) ∧ ∃ m, w' = w.drewN m := by
  obtain ⟨ao, cap, rfl⟩ := h.form
  obtain ⟨au, capu, rfl⟩ := h2.form
  have H := Lib.hid h; have H2 := Lib.hid h2
  clear h h2
  by_cases hlen : ps.length = bs.length
  · have hq : ((ps.length : Int) != (bs.length : Int)) = false := by rw [hlen]; simp
    go_enter Try.func17, Try.ntmps17
    go_wp2
    go_loopw [5] (fun o5 wr => ∃ k : Nat, k ≤ ps.length ∧ o5 = .int .i64 (k : Int) ∧ (∀ j, j < k → ps.getD j 0 = bs.getD j 0) ∧ ∃ m, wr = w.drewN m) (fun o5 _ => ps.length - (intOf o5).toNat)
    case atStart => exact ⟨0, Nat.zero_le _, rfl, fun j hj => by omega, 0, rfl⟩
    case round =>
      obtain ⟨k, hk, rfl, heq, m, rfl⟩ := hrel
      have HEQ := Lib.hid heq
      clear heq
      by_cases hlt : k < ps.length
      · obtain ⟨g, off, rfl, c1⟩ := H.out.at k hlt
        obtain ⟨g2, off2, rfl, c2⟩ := H2.out.at k (by omega)
        have hlt2 : k < bs.length := by omega
        obtain ⟨x, hx⟩ : ∃ x, ps.getD k 0 = x := ⟨_, rfl⟩
        obtain ⟨y, hy⟩ : ∃ y, bs.getD k 0 = y := ⟨_, rfl⟩
        rw [hx] at c1
        rw [hy] at c2
        have HXX := Lib.hid hx; have HYY := Lib.hid hy
        clear hx hy
        by_cases hxy : x = y
        · subst hxy
          go_wp2
          go_quiet (fail)
          go_wp2
          go_roundw
          case rel =>
            refine ⟨k + 1, by omega, by go_num, fun j hj => ?_, m + nq, rfl⟩
            by_cases hjk : j = k
            · rw [hjk, HXX.out, HYY.out]
            · exact HEQ.out j (by omega)
          case measure => simp [intOf]; omega
        · have hne : (x != y) = true := by simp [hxy]
          go_wp2
          go_quiet (fail)
          go_wp2
          go_ret
          have hd : decide (ps = bs) = false := decide_eq_false fun he => hxy (by rw [← HXX.out, ← HYY.out, he])
          rw [hd]
          exact ⟨rfl, m + nq, drewN2 w m nq⟩
      · obtain rfl : k = ps.length := by omega
        go_wp2
        go_ret
        rw [decide_eq_true (eq_upTo hlen HEQ.out)]
        exact ⟨rfl, m, rfl⟩
  · have hq : ((ps.length : Int) != (bs.length : Int)) = true := by simp; omega
    go_enter Try.func17, Try.ntmps17
    go_wp2
    go_ret
    have hd : decide (ps = bs) = false := decide_eq_false fun he => hlen (by rw [he])
    rw [hd]
    exact ⟨rfl, 0, rfl⟩

theorem ints_c (v u : Value) (ps bs : List Int) (w : World) (h : RdI w v ps) (h2 : RdI w u bs) (hl : ps.length < 100000000000) (hl2 : bs.length < 100000000000) :
    Calls Try.prog 17 #[v, u] w fun e w' => e = .returned (.bool (decide (ps = bs))) ∧ Chg (fun _ => False) w w' :=
  (ints_any v u ps bs w h h2 hl hl2).mono fun e w' ⟨h1, m, h2⟩ => ⟨h1, by rw [h2]; exact (Chg.refl _ _).drewN m⟩

/-- no more than there is room for -/
def RoomOk (v : Value) : Prop := ∀ ao len cap, v = .slice ao len cap → len ≤ cap

theorem RoomOk.of {ao : Option Addr} {len cap : Nat} (h : len ≤ cap) : RoomOk (.slice ao len cap) := fun _ _ _ e => by cases e; exact h

/-- a slice of the numbers zs, with room for them -/
def RdIr (w : World) (v : Value) (zs : List Int) : Prop := RdI w v zs ∧ RoomOk v
theorem RdIr.kept {S : Nat → Prop} {w w' : World} {v : Value} {zs : List Int} (h : RdIr w v zs) (hc : Chg S w w') (hS : ∀ k, v.ownBlock = some k → ¬ S k) : RdIr w' v zs := ⟨h.1.kept hc hS, h.2⟩
theorem RdIr.rd {w : World} {v : Value} {zs : List Int} (h : RdIr w v zs) : RdI w v zs := h.1
theorem RdIr.nil (w : World) : RdIr w (.slice none 0 0) [] := ⟨.inl ⟨rfl, none, 0, rfl⟩, .of (Nat.le_refl _)⟩

/-- the first of two results has room for what it holds -/
def RoomE (e : Ending) : Prop := ∀ v x, e = .returned (.tuple #[v, x]) → RoomOk v
theorem RoomE.of {ao : Option Addr} {len cap : Nat} {x : Value} (h : len ≤ cap) : RoomE (.returned (.tuple #[.slice ao len cap, x])) := fun v y he => by
  simp only [Ending.returned.injEq, Value.tuple.injEq] at he
  have := congrArg (fun a => a[0]?) he
  simp at this
  subst this
  exact .of h

end Go.Proofs.Ythghlfghdmifoaa

/- What the document's own hist (puncheonref05) tells. -/
namespace Go.Proofs.Ythghlfghdmifoaa
open Go.RowKit

set_option maxHeartbeats 1000000 in
set_option maxRecDepth 100000 in
theorem r5right_any (v : Value) (cs : List Int) (w : World) (h : RdI w v cs) (hb : ∀ z ∈ cs, -9223372036854775808 ≤ z ∧ z ≤ 9223372036854775807) (_hl : cs.length < 100000000000) :
    Calls Try.prog 56 #[v] w fun e w' => e = .returned (.bool (decide (isRight cs))) ∧ w' = w := by
  obtain ⟨ao, cap, rfl⟩ := h.form
  have H := Lib.hid h; have HB := Lib.hid hb
  clear h hb
  by_cases hlen : cs.length = 256
  · have hq : ((cs.length : Int) != 256) = false := by rw [hlen]; rfl
    have HLEN := Lib.hid hlen
    clear hlen
    go_enter Try.func56, Try.ntmps56
    go_wp2
    go_loopw [3, 4] (fun o3 o4 wr => ∃ k : Nat, k ≤ 256 ∧ o4 = .int .i64 (k : Int) ∧ o3 = .int .i64 (tot (cs.take k)) ∧ upTo cs k ∧ tot (cs.take k) ≤ 1073741824 * (k : Int) ∧ wr = w) (fun _ o4 _ => 256 - (intOf o4).toNat)
    case atStart => exact ⟨0, Nat.zero_le _, rfl, rfl, upTo_zero _, by simp [tot], rfl⟩
    case round =>
      obtain ⟨k, hk, rfl, rfl, hup, hle, rfl⟩ := hrel
      have h0 := upTo_take hup
      have HUP := Lib.hid hup
      clear hup
      by_cases hlt : k < 256
      · have hkl : k < cs.length := by rw [HLEN.out]; exact hlt
        obtain ⟨g, off, rfl, hc⟩ := H.out.at k hkl
        have hsu := tot_take_succ cs k hkl
        have hat : isRight cs → _ := fun h => h.one k hkl
        have hbk := HB.out _ (getD_mem hkl)
        obtain ⟨x, hx⟩ : ∃ x, cs.getD k 0 = x := ⟨_, rfl⟩
        obtain ⟨t, ht⟩ : ∃ t, tot (cs.take k) = t := ⟨_, rfl⟩
        rw [hx] at hc hsu hat hbk
        rw [ht] at hsu hle h0 ⊢
        have hle2 : t ≤ 274877906944 := by omega
        have HXX := Lib.hid hx; have HSU := Lib.hid hsu; have HAT := Lib.hid hat; have HLE := Lib.hid hle
        clear hx ht hsu hat hle
        by_cases hneg : x < 0
        · have d1 : decide (x < 0) = true := decide_eq_true hneg
          go_wp2
          go_ret
          have hd : decide (isRight cs) = false := decide_eq_false fun h => by have := HAT.out h; omega
          rw [hd]
          exact ⟨rfl, rfl⟩
        · have d1 : decide (x < 0) = false := decide_eq_false hneg
          by_cases hbig : 1073741824 < x
          · have d2 : decide (1073741824 < x) = true := decide_eq_true hbig
            go_wp2
            go_ret
            have hd : decide (isRight cs) = false := decide_eq_false fun h => by have := HAT.out h; omega
            rw [hd]
            exact ⟨rfl, rfl⟩
          · have d2 : decide (1073741824 < x) = false := decide_eq_false hbig
            go_wp2
            go_roundw
            case rel => exact ⟨k + 1, by omega, by go_num, by rw [HSU.out], upTo_succ HUP.out (by rw [HXX.out]; omega), by rw [HSU.out]; have := HLE.out; omega, trivial⟩
            case measure => simp [intOf]; omega
      · obtain rfl : k = 256 := by omega
        have hall : cs.take 256 = cs := by rw [← HLEN.out, List.take_length]
        rw [hall] at h0 hle ⊢
        have hd : decide (isRight cs) = decide (tot cs ≤ 1073741824) := by
          rw [Bool.eq_iff_iff, decide_eq_true_iff, decide_eq_true_iff]
          exact ⟨fun h => h.2.2, fun h => ⟨HLEN.out, upTo_all HLEN.out HUP.out, h⟩⟩
        have HD := Lib.hid hd
        clear hd hall
        go_wp2
        go_ret
        rw [HD.out]
        exact ⟨rfl, rfl⟩
  · have hq : ((cs.length : Int) != 256) = true := by simp; omega
    go_enter Try.func56, Try.ntmps56
    go_wp2
    go_ret
    have hd : decide (isRight cs) = false := decide_eq_false fun h => hlen h.1
    rw [hd]
    exact ⟨rfl, rfl⟩

set_option maxHeartbeats 1000000 in
theorem r5many_any (v : Value) (cs : List Int) (w : World) (h : RdI w v cs) (hb : ∀ z ∈ cs, -9223372036854775808 ≤ z ∧ z ≤ 9223372036854775807) (hl : cs.length < 100000000000) :
    Calls Try.prog 34 #[v] w fun e w' => e = .returned (.int .i64 ((manyI cs : Nat) : Int)) ∧ w' = w := by
  have HR := Lib.hid (r5right_any v cs w h hb hl)
  obtain ⟨ao, cap, rfl⟩ := h.form
  have H := Lib.hid h; have HB := Lib.hid hb
  clear h hb
  go_enter Try.func34, Try.ntmps34
  go_wp2_with fail
  refine HR.out.mono ?_
  rintro e w' ⟨rfl, rfl⟩
  clear HR
  by_cases hr : isRight cs
  · rw [decide_eq_true hr]
    have hlen : cs.length ≤ 256 := by rw [hr.1]; exact Nat.le_refl _
    have HRR := Lib.hid hr
    clear hr
    go_wp2
    go_loopw [3, 5] (fun o3 o5 wr => ∃ k : Nat, k ≤ cs.length ∧ o5 = .int .i64 (k : Int) ∧ o3 = .int .i64 ((pos (cs.take k) : Nat) : Int) ∧ wr = w') (fun _ o5 _ => cs.length - (intOf o5).toNat)
    case atStart => exact ⟨0, Nat.zero_le _, rfl, rfl, rfl⟩
    case round =>
      obtain ⟨k, hk, rfl, rfl, rfl⟩ := hrel
      have hp : pos (cs.take k) ≤ 256 := by have := pos_le (cs.take k); rw [List.length_take] at this; omega
      by_cases hlt : k < cs.length
      · obtain ⟨g, off, rfl, hc⟩ := H.out.at k hlt
        have hsu := pos_take_succ cs k hlt
        obtain ⟨x, hx⟩ : ∃ x, cs.getD k 0 = x := ⟨_, rfl⟩
        obtain ⟨t, ht⟩ : ∃ t, pos (cs.take k) = t := ⟨_, rfl⟩
        rw [hx] at hc hsu
        rw [ht] at hsu hp ⊢
        clear hx ht
        by_cases hx0 : 0 < x
        · have d1 : decide (0 < x) = true := decide_eq_true hx0
          rw [if_pos hx0] at hsu
          have HSU := Lib.hid hsu
          clear hsu
          go_wp2
          go_roundw
          case rel => exact ⟨k + 1, by omega, by go_num, by rw [HSU.out]; go_num, trivial⟩
          case measure => simp [intOf]; omega
        · have d1 : decide (0 < x) = false := decide_eq_false hx0
          rw [if_neg hx0] at hsu
          have HSU := Lib.hid hsu
          clear hsu
          go_wp2
          go_roundw
          case rel => exact ⟨k + 1, by omega, by go_num, by rw [HSU.out]; go_num, trivial⟩
          case measure => simp [intOf]; omega
      · obtain rfl : k = cs.length := by omega
        rw [List.take_length] at hp ⊢
        have hm : manyI cs = pos cs := by unfold manyI; rw [if_pos HRR.out]
        have HM := Lib.hid hm
        clear hm
        go_wp2
        go_ret
        rw [HM.out]
        exact ⟨rfl, rfl⟩
  · rw [decide_eq_false hr]
    have hm : manyI cs = 0 := by unfold manyI; rw [if_neg hr]
    have HM := Lib.hid hm
    clear hm hr
    go_wp2
    go_loopw [3, 5] (fun o3 o5 wr => o5 = .int .i64 0 ∧ o3 = .int .i64 0 ∧ wr = w') (fun _ _ _ => 0)
    case atStart => exact ⟨rfl, rfl, rfl⟩
    case round =>
      obtain ⟨rfl, rfl, rfl⟩ := hrel
      by_cases hlt : 0 < cs.length
      · go_wp2
        go_ret
        rw [HM.out]
        exact ⟨rfl, rfl⟩
      · have h0 : cs.length = 0 := by omega
        rw [h0]
        go_wp2
        go_ret
        rw [HM.out]
        exact ⟨rfl, rfl⟩

set_option maxHeartbeats 1000000 in
theorem r5total_any (v : Value) (cs : List Int) (w : World) (h : RdI w v cs) (hb : ∀ z ∈ cs, -9223372036854775808 ≤ z ∧ z ≤ 9223372036854775807) (hl : cs.length < 100000000000) :
    Calls Try.prog 57 #[v] w fun e w' => e = .returned (.int .i64 (totalI cs)) ∧ w' = w := by
  have HR := Lib.hid (r5right_any v cs w h hb hl)
  obtain ⟨ao, cap, rfl⟩ := h.form
  have H := Lib.hid h; have HB := Lib.hid hb
  clear h hb
  go_enter Try.func57, Try.ntmps57
  go_wp2_with fail
  refine HR.out.mono ?_
  rintro e w' ⟨rfl, rfl⟩
  clear HR
  by_cases hr : isRight cs
  · rw [decide_eq_true hr]
    have hlen : cs.length ≤ 256 := by rw [hr.1]; exact Nat.le_refl _
    have HRR := Lib.hid hr
    clear hr
    go_wp2
    go_loopw [3, 5] (fun o3 o5 wr => ∃ k : Nat, k ≤ cs.length ∧ o5 = .int .i64 (k : Int) ∧ o3 = .int .i64 (tot (cs.take k)) ∧ wr = w') (fun _ o5 _ => cs.length - (intOf o5).toNat)
    case atStart => exact ⟨0, Nat.zero_le _, rfl, rfl, rfl⟩
    case round =>
      obtain ⟨k, hk, rfl, rfl, rfl⟩ := hrel
      by_cases hlt : k < cs.length
      · obtain ⟨g, off, rfl, hc⟩ := H.out.at k hlt
        have hsu := tot_take_succ cs k hlt
        have hat := HRR.out.at k hlt
        have h0 : 0 ≤ tot (cs.take k) := tot_nonneg _ fun c hc => HRR.out.2.1 c (List.mem_of_mem_take hc)
        obtain ⟨x, hx⟩ : ∃ x, cs.getD k 0 = x := ⟨_, rfl⟩
        obtain ⟨t, ht⟩ : ∃ t, tot (cs.take k) = t := ⟨_, rfl⟩
        rw [hx] at hc hsu hat
        rw [ht] at hsu hat h0 ⊢
        have HSU := Lib.hid hsu
        clear hx ht hsu
        go_wp2
        go_roundw
        case rel => exact ⟨k + 1, by omega, by go_num, by rw [HSU.out], trivial⟩
        case measure => simp [intOf]; omega
      · obtain rfl : k = cs.length := by omega
        rw [List.take_length]
        have hm : totalI cs = tot cs := by unfold totalI; rw [if_pos HRR.out]
        have HM := Lib.hid hm
        clear hm
        go_wp2
        go_ret
        rw [HM.out]
        exact ⟨rfl, rfl⟩
  · rw [decide_eq_false hr]
    have hm : totalI cs = 0 := by unfold totalI; rw [if_neg hr]
    have HM := Lib.hid hm
    clear hm hr
    go_wp2
    go_loopw [3, 5] (fun o3 o5 wr => o5 = .int .i64 0 ∧ o3 = .int .i64 0 ∧ wr = w') (fun _ _ _ => 0)
    case atStart => exact ⟨rfl, rfl, rfl⟩
    case round =>
      obtain ⟨rfl, rfl, rfl⟩ := hrel
      by_cases hlt : 0 < cs.length
      · go_wp2
        go_ret
        rw [HM.out]
        exact ⟨rfl, rfl⟩
      · have h0 : cs.length = 0 := by omega
        rw [h0]
        go_wp2
        go_ret
        rw [HM.out]
        exact ⟨rfl, rfl⟩

/-- counts of values below v whole, of v itself by the first k bytes -/
def cntTo (xs : List Nat) (v k : Nat) : List Int := (List.range 256).map fun u => if u < v then ((xs.count u : Nat) : Int) else if u = v then (((xs.take k).count u : Nat) : Int) else 0
theorem cntTo_length (xs : List Nat) (v k : Nat) : (cntTo xs v k).length = 256 := by simp [cntTo]
theorem cntTo_getD (xs : List Nat) (v k u : Nat) (h : u < 256) : (cntTo xs v k).getD u 0 = if u < v then ((xs.count u : Nat) : Int) else if u = v then (((xs.take k).count u : Nat) : Int) else 0 := by
  simp [cntTo, List.getD_eq_getElem?_getD, h]
theorem cntTo_zero (xs : List Nat) : cntTo xs 0 0 = List.replicate 256 0 := by
  apply ext_getD (by rw [cntTo_length, List.length_replicate])
  intro k hk
  rw [cntTo_length] at hk
  rw [cntTo_getD _ _ _ _ hk, List.getD_eq_getElem?_getD, List.getElem?_replicate, if_pos hk]
  simp
theorem cntTo_eq (xs : List Nat) (v k : Nat) (hv : v < 256) (hk : k < xs.length) (h : xs.getD k 0 = v) : (cntTo xs v k).set v ((cntTo xs v k).getD v 0 + 1) = cntTo xs v (k + 1) := by
  apply ext_getD (by rw [List.length_set, cntTo_length, cntTo_length])
  intro u hu
  rw [List.length_set, cntTo_length] at hu
  rw [cntTo_getD _ _ _ _ hu]
  have ht : xs.take (k + 1) = xs.take k ++ [v] := by
    rw [List.take_succ_eq_append_getElem hk, ← h, List.getD_eq_getElem?_getD, List.getElem?_eq_getElem hk]; rfl
  by_cases huv : v = u
  · subst huv
    rw [List.getD_eq_getElem?_getD, List.getElem?_set_self (by rw [cntTo_length]; exact hv), cntTo_getD _ _ _ _ hv, ht, List.count_append]
    simp
  · rw [List.getD_eq_getElem?_getD, List.getElem?_set_ne huv, ← List.getD_eq_getElem?_getD, cntTo_getD _ _ _ _ hu]
    rw [if_neg (show ¬ u = v by omega), if_neg (show ¬ u = v by omega)]
theorem cntTo_ne (xs : List Nat) (v k : Nat) (hk : k < xs.length) (h : ¬ xs.getD k 0 = v) : cntTo xs v (k + 1) = cntTo xs v k := by
  apply ext_getD (by rw [cntTo_length, cntTo_length])
  intro u hu
  rw [cntTo_length] at hu
  rw [cntTo_getD _ _ _ _ hu, cntTo_getD _ _ _ _ hu]
  by_cases huv : u = v
  · subst huv
    rw [List.take_succ_eq_append_getElem hk, List.count_append]
    rw [List.getD_eq_getElem?_getD, List.getElem?_eq_getElem hk] at h
    have : List.count u [xs[k]] = 0 := by rw [List.count_eq_zero]; simp; exact fun he => h he.symm
    rw [this]; rfl
  · rw [if_neg huv, if_neg huv]
theorem cntTo_next (xs : List Nat) (v : Nat) : cntTo xs v xs.length = cntTo xs (v + 1) 0 := by
  apply ext_getD (by rw [cntTo_length, cntTo_length])
  intro u hu
  rw [cntTo_length] at hu
  rw [cntTo_getD _ _ _ _ hu, cntTo_getD _ _ _ _ hu, List.take_length]
  by_cases h1 : u < v
  · rw [if_pos h1, if_pos (by omega)]
  · rw [if_neg h1]
    by_cases h2 : u = v
    · rw [if_pos h2, if_pos (by omega)]
    · rw [if_neg h2, if_neg (by omega)]; simp
theorem cntTo_all (xs : List Nat) : cntTo xs 256 0 = cnt xs := by
  apply ext_getD (by rw [cntTo_length, cnt_length])
  intro u hu
  rw [cntTo_length] at hu
  rw [cntTo_getD _ _ _ _ hu, cnt_getD _ _ hu, if_pos hu]
theorem cntTo_bound (xs : List Nat) (v k u : Nat) (hu : u < 256) : 0 ≤ (cntTo xs v k).getD u 0 ∧ (cntTo xs v k).getD u 0 ≤ xs.length := by
  rw [cntTo_getD _ _ _ _ hu]
  have h1 := List.count_le_length (l := xs) (a := u)
  have h2 := List.count_le_length (l := xs.take k) (a := u)
  rw [List.length_take] at h2
  split
  · omega
  · split <;> omega

set_option maxHeartbeats 1000000 in
set_option maxRecDepth 100000 in
theorem r5of_any (v : Value) (xs : List Nat) (w : World) (h : RdB w v xs) (hx : ∀ x ∈ xs, x < 256) (hl : xs.length < 100000000000) :
    Calls Try.prog 32 #[v] w fun e w' => ∃ v', e = .returned v' ∧ OwnI w' w.heap.size v' (cnt xs) ∧ Chg (fun _ => False) w w' := by
  obtain ⟨ao, cap, rfl⟩ := h.form
  have H := Lib.hid h; have HX := Lib.hid hx
  clear h hx
  go_enter Try.func32, Try.ntmps32
  go_wp2_with (at_make; refine wpList_make_ints rfl _ _ rfl 256 256 256 rfl rfl rfl rfl (by omega) (cntTo xs 0 0) (cntTo_zero xs) ?_)
  intro w1 h1 hc1
  have H1 := Lib.hid h1; have HC1 := Lib.hid hc1
  clear h1 hc1
  go_wp2
  go_loopw [4] (fun o4 wr => ∃ v : Nat, v ≤ 256 ∧ o4 = .int .i64 (v : Int) ∧ RowI wr w.heap.size 3 (cntTo xs v 0) ∧ Chg (fun _ => False) w wr) (fun o4 _ => 256 - (intOf o4).toNat)
  case atStart => exact ⟨0, Nat.zero_le _, rfl, H1.out, HC1.out⟩
  case round =>
    obtain ⟨u, hu, rfl, hrow, hc⟩ := hrel
    clear H1 HC1
    obtain ⟨wa, hwa⟩ : ∃ wa, wa = wr := ⟨_, rfl⟩
    subst hwa
    by_cases hlt : u < 256
    · have HROW := Lib.hid hrow; have HC := Lib.hid hc
      clear hrow hc
      go_wp2
      go_loopw [5] (fun o5 wr => ∃ k : Nat, k ≤ xs.length ∧ o5 = .int .i64 (k : Int) ∧ RowI wr w.heap.size 3 (cntTo xs u k) ∧ Chg (fun _ => False) w wr) (fun o5 _ => xs.length - (intOf o5).toNat)
      case atStart => exact ⟨0, Nat.zero_le _, rfl, HROW.out, HC.out⟩
      case round =>
        obtain ⟨k, hk, rfl, hrow, hc⟩ := hrel
        clear HROW HC
        by_cases hkl : k < xs.length
        · obtain ⟨g, off, hao, hcell⟩ : ∃ g off, ao = some ⟨g, off, none⟩ ∧ wr.cell? ⟨g, off + k, none⟩ = some (.int .u8 ((xs.getD k 0 : Nat) : Int)) := by
            rcases H.out.kept hc (by simp) with ⟨h0, _⟩ | ⟨g, off, cap', he, hc⟩
            · rw [h0] at hkl; simp at hkl
            · simp only [Value.slice.injEq] at he
              exact ⟨g, off, he.1, hc _ hkl⟩
          subst hao
          have hy := getD_lt xs HX.out k
          by_cases heq : xs.getD k 0 = u
          · have hst := cntTo_eq xs u k hlt hkl heq
            have hcu := hrow.cell u (by rw [cntTo_length]; exact hlt)
            have hfu := hrow.free u
            have hbd := cntTo_bound xs u k u hlt
            have hr2 := hrow.set u ((cntTo xs u k).getD u 0 + 1)
            rw [hst] at hr2
            have hc2 : Chg (fun _ => False) w (wr.setCell ⟨w.heap.size, u, none⟩ (.int .i64 ((cntTo xs u k).getD u 0 + 1))) := hc.trans (Chg.setCell wr ⟨w.heap.size, u, none⟩ _) (fun q hq h => by simp at h; omega)
            obtain ⟨y, hye⟩ : ∃ y, (cntTo xs u k).getD u 0 = y := ⟨_, rfl⟩
            rw [hye] at hcu hbd hr2 hc2
            rw [heq] at hcell
            have HR2 := Lib.hid hr2; have HC2 := Lib.hid hc2
            clear hst hr2 hc2 hrow hc hye heq
            go_wp2
            go_roundw
            case rel => exact ⟨k + 1, by omega, by go_num, HR2.out, HC2.out⟩
            case measure => simp [intOf]; omega
          · have hst := cntTo_ne xs u k hkl heq
            obtain ⟨y, hye⟩ : ∃ y, xs.getD k 0 = y := ⟨_, rfl⟩
            rw [hye] at hcell heq hy
            have hne : ((y : Int) == (u : Int)) = false := by rw [beq_eq_false_iff_ne]; omega
            have HST := Lib.hid hst; have HROW := Lib.hid hrow; have HC := Lib.hid hc
            clear hst hye hrow hc
            go_wp2
            go_roundw
            case rel => exact ⟨k + 1, by omega, by go_num, by rw [HST.out]; exact HROW.out, HC.out⟩
            case measure => simp [intOf]; omega
        · obtain rfl : k = xs.length := by omega
          rw [cntTo_next] at hrow
          go_wp2
          go_roundw
          case rel => exact ⟨u + 1, by omega, by go_num, hrow, hc⟩
          case measure => simp [intOf]; omega
    · obtain rfl : u = 256 := by omega
      rw [cntTo_all] at hrow
      go_wp2
      go_ret
      exact ⟨_, rfl, by have := hrow.own 256 w.heap.size (Nat.le_refl _); rw [cnt_length] at this; exact this, hc⟩

end Go.Proofs.Ythghlfghdmifoaa

/- Plain mathematics of chapter 8: counts whose sum is a power of two. -/
namespace Go.Proofs.Ythghlfghdmifoaa
open Go

/-- who has one more next -/
def needyTo (rest : List Int) (had : List Bool) : Nat → Option Nat
  | 0 => none
  | s + 1 => match needyTo rest had s with
    | none => if had.getD s false then none else some s
    | some b => if had.getD s false = false ∧ rest.getD b 0 < rest.getD s 0 then some s else some b

theorem needy_none (rest : List Int) (had : List Bool) (k : Nat) (h : needyTo rest had k = none) : ∀ s, s < k → had.getD s false = true := by
  induction k with
  | zero => intro s hs; omega
  | succ k ih =>
    simp only [needyTo] at h
    cases hn : needyTo rest had k with
    | none =>
      rw [hn] at h
      simp only at h
      intro s hs
      by_cases hsk : s = k
      · subst hsk
        cases hh : had.getD s false with
        | true => rfl
        | false => rw [hh] at h; simp at h
      · exact ih hn s (by omega)
    | some b =>
      rw [hn] at h
      simp only at h
      split at h <;> simp at h

theorem needy_some (rest : List Int) (had : List Bool) (k b : Nat) (h : needyTo rest had k = some b) :
    b < k ∧ had.getD b false = false ∧ ∀ s, s < k → had.getD s false = false → rest.getD s 0 < rest.getD b 0 ∨ (rest.getD s 0 = rest.getD b 0 ∧ b ≤ s) := by
  induction k generalizing b with
  | zero => simp [needyTo] at h
  | succ k ih =>
    simp only [needyTo] at h
    cases hn : needyTo rest had k with
    | none =>
      rw [hn] at h
      simp only at h
      have hall := needy_none rest had k hn
      cases hh : had.getD k false with
      | true => rw [hh] at h; simp at h
      | false =>
        rw [hh] at h
        simp at h
        subst h
        refine ⟨by omega, hh, fun s hs h1 => ?_⟩
        by_cases hsk : s = k
        · subst hsk; right; exact ⟨rfl, Nat.le_refl _⟩
        · have := hall s (by omega); rw [this] at h1; simp at h1
    | some b' =>
      rw [hn] at h
      simp only at h
      obtain ⟨i1, i2, i3⟩ := ih b' hn
      by_cases hc : had.getD k false = false ∧ rest.getD b' 0 < rest.getD k 0
      · rw [if_pos hc] at h
        simp at h
        subst h
        refine ⟨by omega, hc.1, fun s hs h1 => ?_⟩
        by_cases hsk : s = k
        · subst hsk; right; exact ⟨rfl, Nat.le_refl _⟩
        · left
          rcases i3 s (by omega) h1 with h2 | h2
          · omega
          · omega
      · rw [if_neg hc] at h
        simp at h
        subst h
        refine ⟨by omega, i2, fun s hs h1 => ?_⟩
        by_cases hsk : s = k
        · subst hsk
          have : ¬ rest.getD b' 0 < rest.getD s 0 := fun hlt => hc ⟨h1, hlt⟩
          rcases Int.lt_or_eq_of_le (Int.not_lt.1 this) with h2 | h2
          · left; exact h2
          · right; exact ⟨h2, by omega⟩
        · exact i3 s (by omega) h1

theorem needy_times (rest : List Int) (had : List Bool) (f : Int) (hf : 0 < f) (k : Nat) : needyTo (rest.map (· * f)) had k = needyTo rest had k := by
  have hg : ∀ s, (rest.map (· * f)).getD s 0 = rest.getD s 0 * f := by
    intro s
    simp only [List.getD_eq_getElem?_getD, List.getElem?_map]
    cases rest[s]? <;> simp
  induction k with
  | zero => rfl
  | succ k ih =>
    simp only [needyTo, ih]
    cases needyTo rest had k with
    | none => rfl
    | some b =>
      simp only [hg]
      have : (rest.getD b 0 * f < rest.getD k 0 * f) ↔ (rest.getD b 0 < rest.getD k 0) := Int.mul_lt_mul_right hf
      simp only [this]

/-- one more for the neediest -/
def giveStep (rest : List Int) (p : List Int × List Bool) : List Int × List Bool := match needyTo rest p.2 256 with
  | none => p
  | some s => (p.1.set s (p.1.getD s 0 + 1), p.2.set s true)
theorem giveStep_some {rest : List Int} {p : List Int × List Bool} {s : Nat} (h : needyTo rest p.2 256 = some s) : giveStep rest p = (p.1.set s (p.1.getD s 0 + 1), p.2.set s true) := by
  unfold giveStep; rw [h]
theorem giveStep_times (rest : List Int) (f : Int) (hf : 0 < f) (p : List Int × List Bool) : giveStep (rest.map (· * f)) p = giveStep rest p := by
  unfold giveStep; rw [needy_times rest _ f hf]

/-- so k times -/
def giveN (rest : List Int) : Nat → List Int → List Bool → List Int × List Bool
  | 0, q, h => (q, h)
  | k + 1, q, h => giveStep rest (giveN rest k q h)
theorem giveN_succ (rest : List Int) (k : Nat) (q : List Int) (h : List Bool) : giveN rest (k + 1) q h = giveStep rest (giveN rest k q h) := rfl

theorem give_times (rest : List Int) (f : Int) (hf : 0 < f) (k : Nat) (q : List Int) (h : List Bool) : giveN (rest.map (· * f)) k q h = giveN rest k q h := by
  induction k with
  | zero => rfl
  | succ k ih => rw [giveN_succ, giveN_succ, ih, giveStep_times rest f hf]

/-- how many have had none and have some left -/
def cntN : List Int → List Bool → Nat
  | r :: rs, h :: hs => (if h = false ∧ 0 < r then 1 else 0) + cntN rs hs
  | _, _ => 0

theorem cntN_set : ∀ (rest : List Int) (had : List Bool) (s : Nat), s < rest.length → s < had.length → had.getD s false = false → 0 < rest.getD s 0 → cntN rest (had.set s true) + 1 = cntN rest had
  | [], _, s, h, _, _, _ => by simp at h
  | _ :: _, [], s, _, h, _, _ => by simp at h
  | r :: rs, h :: hs, 0, _, _, h1, h2 => by
    simp only [List.getD_cons_zero] at h1 h2
    subst h1
    simp [cntN, h2]; omega
  | r :: rs, h :: hs, s + 1, hl, hl2, h1, h2 => by
    have ih := cntN_set rs hs s (by simpa using hl) (by simpa using hl2) (by simpa using h1) (by simpa using h2)
    simp only [List.set_cons_succ, cntN]
    omega

theorem cntN_pos : ∀ (rest : List Int) (had : List Bool), 0 < cntN rest had → ∃ s, s < rest.length ∧ s < had.length ∧ had.getD s false = false ∧ 0 < rest.getD s 0
  | [], _, h => by simp [cntN] at h
  | _ :: _, [], h => by simp [cntN] at h
  | r :: rs, h :: hs, hp => by
    by_cases hc : h = false ∧ 0 < r
    · exact ⟨0, by simp, by simp, by simpa using hc.1, by simpa using hc.2⟩
    · simp only [cntN, if_neg hc, Nat.zero_add] at hp
      obtain ⟨s, h1, h2, h3, h4⟩ := cntN_pos rs hs hp
      exact ⟨s + 1, by simp; omega, by simp; omega, by simpa using h3, by simpa using h4⟩

/-- what is known behind k gifts -/
structure Gave (rest q : List Int) (had : List Bool) (k : Nat) (p : List Int × List Bool) : Prop where
  len1 : p.1.length = 256
  len2 : p.2.length = 256
  sum : tot p.1 = tot q + (k : Int)
  left : cntN rest p.2 + k = cntN rest had
  keep : ∀ s, had.getD s false = true → p.2.getD s false = true
  val : ∀ s, s < 256 → p.1.getD s 0 = q.getD s 0 + if had.getD s false = false ∧ p.2.getD s false = true then 1 else 0
  some : ∀ s, s < 256 → had.getD s false = false → p.2.getD s false = true → 0 < rest.getD s 0
  first : ∀ s t, s < 256 → t < 256 → had.getD s false = false → p.2.getD s false = true → p.2.getD t false = false → rest.getD t 0 < rest.getD s 0 ∨ (rest.getD t 0 = rest.getD s 0 ∧ s ≤ t)

theorem bset_getD (l : List Bool) (i j : Nat) (z : Bool) (hi : i < l.length) : (l.set i z).getD j false = if i = j then z else l.getD j false := by
  by_cases h : i = j
  · subst h; rw [if_pos rfl, List.getD_eq_getElem?_getD, List.getElem?_set_self hi]; rfl
  · rw [if_neg h, List.getD_eq_getElem?_getD, List.getElem?_set_ne h, ← List.getD_eq_getElem?_getD]
theorem iset_getD (l : List Int) (i j : Nat) (z : Int) (hi : i < l.length) : (l.set i z).getD j 0 = if i = j then z else l.getD j 0 := by
  by_cases h : i = j
  · subst h; rw [if_pos rfl, List.getD_eq_getElem?_getD, List.getElem?_set_self hi]; rfl
  · rw [if_neg h, List.getD_eq_getElem?_getD, List.getElem?_set_ne h, ← List.getD_eq_getElem?_getD]

theorem gave_step {rest q : List Int} {had : List Bool} (hr : rest.length = 256) {k : Nat} {p : List Int × List Bool} (g : Gave rest q had k p) (hk : k < cntN rest had) :
    ∃ s, needyTo rest p.2 256 = some s ∧ s < 256 ∧ p.2.getD s false = false ∧ Gave rest q had (k + 1) (p.1.set s (p.1.getD s 0 + 1), p.2.set s true) := by
  have hp : 0 < cntN rest p.2 := by have := g.left; omega
  obtain ⟨t, ht1, ht2, ht3, ht4⟩ := cntN_pos rest p.2 hp
  cases hn : needyTo rest p.2 256 with
  | none =>
    have := needy_none rest p.2 256 hn t (by omega)
    rw [this] at ht3; simp at ht3
  | some s =>
    obtain ⟨h1, h2, h3⟩ := needy_some rest p.2 256 s hn
    have hs0 : 0 < rest.getD s 0 := by
      rcases h3 t (by omega) ht3 with h | h <;> omega
    have hhs : had.getD s false = false := by
      cases hh : had.getD s false with
      | false => rfl
      | true => have := g.keep s hh; rw [this] at h2; simp at h2
    have l1 := g.len1; have l2 := g.len2
    refine ⟨s, rfl, h1, h2, ?_⟩
    constructor
    · simp [l1]
    · simp [l2]
    · have := tot_set p.1 s (p.1.getD s 0 + 1) (by omega)
      have := g.sum
      simp only; omega
    · have := cntN_set rest p.2 s (by omega) (by omega) h2 hs0
      have := g.left
      simp only; omega
    · intro u hu
      simp only
      rw [bset_getD _ _ _ _ (by omega)]
      split
      · rfl
      · exact g.keep u hu
    · intro u hu
      simp only
      rw [iset_getD _ _ _ _ (by omega), bset_getD _ _ _ _ (by omega)]
      by_cases hus : s = u
      · subst hus
        rw [if_pos rfl, if_pos rfl, if_pos ⟨hhs, rfl⟩, g.val s hu, if_neg (by rw [h2]; simp)]
        omega
      · rw [if_neg hus, if_neg hus]; exact g.val u hu
    · intro u hu hu1 hu2
      simp only at hu2
      rw [bset_getD _ _ _ _ (by omega)] at hu2
      by_cases hus : s = u
      · subst hus; exact hs0
      · rw [if_neg hus] at hu2; exact g.some u hu hu1 hu2
    · intro u t hu ht hu1 hu2 ht2
      simp only at hu2 ht2
      rw [bset_getD _ _ _ _ (by omega)] at hu2 ht2
      by_cases hst : s = t
      · subst hst; simp at ht2
      · rw [if_neg hst] at ht2
        by_cases hus : s = u
        · subst hus; exact h3 t ht ht2
        · rw [if_neg hus] at hu2
          exact g.first u t hu ht hu1 hu2 ht2

theorem gave_zero (rest q : List Int) (had : List Bool) (hq : q.length = 256) (hh : had.length = 256) : Gave rest q had 0 (q, had) := by
  refine ⟨hq, hh, by simp, by simp, fun s h => h, fun s hs => ?_, fun s hs h1 h2 => ?_, fun s t hs ht h1 h2 => ?_⟩
  · show q.getD s 0 = _
    rw [if_neg]
    · omega
    · rintro ⟨h1, h2⟩; simp only at h2; rw [h1] at h2; simp at h2
  · simp only at h2; rw [h1] at h2; simp at h2
  · simp only at h2; rw [h1] at h2; simp at h2

theorem gave {rest q : List Int} {had : List Bool} (hr : rest.length = 256) (hq : q.length = 256) (hh : had.length = 256) (k : Nat) (hk : k ≤ cntN rest had) : Gave rest q had k (giveN rest k q had) := by
  induction k with
  | zero => exact gave_zero rest q had hq hh
  | succ k ih =>
    obtain ⟨s, hs, _, _, g⟩ := gave_step hr (ih (by omega)) (by omega)
    rw [giveN_succ, giveStep_some hs]
    exact g

/-- who has one less next -/
def richTo (q c : List Int) : Nat → Nat
  | 0 => 0
  | s + 1 => if q.getD (richTo q c s) 0 < q.getD (s + 1) 0 ∨ (q.getD (s + 1) 0 = q.getD (richTo q c s) 0 ∧ c.getD (s + 1) 0 ≤ c.getD (richTo q c s) 0) then s + 1 else richTo q c s

theorem rich_spec (q c : List Int) (k : Nat) : richTo q c k ≤ k ∧ ∀ s, s ≤ k → q.getD s 0 < q.getD (richTo q c k) 0 ∨ (q.getD s 0 = q.getD (richTo q c k) 0 ∧ (c.getD (richTo q c k) 0 < c.getD s 0 ∨ (c.getD (richTo q c k) 0 = c.getD s 0 ∧ s ≤ richTo q c k))) := by
  induction k with
  | zero => exact ⟨Nat.le_refl _, fun s hs => by obtain rfl : s = 0 := by omega
                                                 right; exact ⟨rfl, .inr ⟨rfl, Nat.le_refl _⟩⟩⟩
  | succ k ih =>
    obtain ⟨i1, i2⟩ := ih
    simp only [richTo]
    by_cases hc : q.getD (richTo q c k) 0 < q.getD (k + 1) 0 ∨ (q.getD (k + 1) 0 = q.getD (richTo q c k) 0 ∧ c.getD (k + 1) 0 ≤ c.getD (richTo q c k) 0)
    · rw [if_pos hc]
      refine ⟨Nat.le_refl _, fun s hs => ?_⟩
      by_cases hsk : s = k + 1
      · subst hsk; right; exact ⟨rfl, .inr ⟨rfl, Nat.le_refl _⟩⟩
      · rcases i2 s (by omega) with h | ⟨h, h'⟩
        · left; omega
        · rcases hc with hc | ⟨hc, hc'⟩
          · left; omega
          · right
            refine ⟨by omega, ?_⟩
            rcases h' with h' | ⟨h', _⟩
            · left; omega
            · rcases Int.lt_or_eq_of_le hc' with h3 | h3
              · left; omega
              · right; exact ⟨by omega, by omega⟩
    · rw [if_neg hc]
      refine ⟨by omega, fun s hs => ?_⟩
      by_cases hsk : s = k + 1
      · subst hsk
        have n1 : ¬ q.getD (richTo q c k) 0 < q.getD (k + 1) 0 := fun h => hc (.inl h)
        rcases Int.lt_or_eq_of_le (Int.not_lt.1 n1) with h | h
        · left; exact h
        · right
          refine ⟨h, .inl ?_⟩
          have n2 : ¬ c.getD (k + 1) 0 ≤ c.getD (richTo q c k) 0 := fun h2 => hc (.inr ⟨h, h2⟩)
          omega
      · exact i2 s (by omega)

theorem rich_times (q c : List Int) (f : Int) (hf : 0 < f) (k : Nat) : richTo q (c.map (· * f)) k = richTo q c k := by
  have hg : ∀ s, (c.map (· * f)).getD s 0 = c.getD s 0 * f := by
    intro s
    simp only [List.getD_eq_getElem?_getD, List.getElem?_map]
    cases c[s]? <;> simp
  induction k with
  | zero => rfl
  | succ k ih =>
    simp only [richTo, ih, hg]
    have : (c.getD (k + 1) 0 * f ≤ c.getD (richTo q c k) 0 * f) ↔ (c.getD (k + 1) 0 ≤ c.getD (richTo q c k) 0) := Int.mul_le_mul_right hf
    simp only [this]

/-- one less for the richest -/
def takeStep (c q : List Int) : List Int := q.set (richTo q c 255) (q.getD (richTo q c 255) 0 - 1)
theorem takeStep_times (c q : List Int) (f : Int) (hf : 0 < f) : takeStep (c.map (· * f)) q = takeStep c q := by
  unfold takeStep; rw [rich_times _ _ f hf]
/-- so k times -/
def takeN (c : List Int) : Nat → List Int → List Int
  | 0, q => q
  | k + 1, q => takeStep c (takeN c k q)
theorem takeN_succ (c : List Int) (k : Nat) (q : List Int) : takeN c (k + 1) q = takeStep c (takeN c k q) := rfl

theorem takeN_times (c : List Int) (f : Int) (hf : 0 < f) (k : Nat) (q : List Int) : takeN (c.map (· * f)) k q = takeN c k q := by
  induction k with
  | zero => rfl
  | succ k ih => rw [takeN_succ, takeN_succ, ih, takeStep_times _ _ f hf]

theorem tot_le_pos (l : List Int) (h : ∀ c ∈ l, c ≤ 1) : tot l ≤ (pos l : Int) := by
  induction l with
  | nil => simp [tot, pos]
  | cons x r ih =>
    have := h x (by simp)
    have := ih (fun c hc => h c (by simp [hc]))
    simp only [tot, pos]
    split <;> omega

theorem pos_same : ∀ (a b : List Int), a.length = b.length → (∀ k, k < a.length → (0 < a.getD k 0 ↔ 0 < b.getD k 0)) → pos a = pos b
  | [], [], _, _ => by simp [pos]
  | [], _ :: _, h, _ => by simp at h
  | _ :: _, [], h, _ => by simp at h
  | x :: a, y :: b, h, hk => by
    have ih := pos_same a b (by simpa using h) (fun k hk1 => by have := hk (k + 1) (by simpa using hk1); simpa only [List.getD_cons_succ] using this)
    have h0 := hk 0 (by simp)
    simp only [List.getD_cons_zero] at h0
    simp only [pos]
    by_cases hx : 0 < x
    · rw [if_pos hx, if_pos (h0.1 hx)]; omega
    · rw [if_neg hx, if_neg (fun h => hx (h0.2 h))]; omega

/-- what is known behind k takings -/
structure Took (c q : List Int) (k : Nat) (p : List Int) : Prop where
  len : p.length = 256
  sum : tot p = tot q - (k : Int)
  low : ∀ s, s < 256 → 0 ≤ p.getD s 0 ∧ (0 < p.getD s 0 ↔ 0 < c.getD s 0)
  top : ∀ s, s < 256 → p.getD s 0 ≤ q.getD s 0
  order : ∀ a b, a < 256 → b < 256 → c.getD b 0 < c.getD a 0 → p.getD b 0 ≤ p.getD a 0

theorem took_step {c q : List Int} {k : Nat} {p : List Int} (hc : c.length = 256) (t : Took c q k p) (hp : (pos c : Int) < tot p) :
    richTo p c 255 < 256 ∧ 1 < p.getD (richTo p c 255) 0 ∧ Took c q (k + 1) (p.set (richTo p c 255) (p.getD (richTo p c 255) 0 - 1)) := by
  obtain ⟨r1, r2⟩ := rich_spec p c 255
  have hl := t.len
  have h2 : 1 < p.getD (richTo p c 255) 0 := by
    rcases Int.lt_or_le 1 (p.getD (richTo p c 255) 0) with h | h
    · exact h
    · exfalso
      have hall : ∀ z ∈ p, z ≤ 1 := by
        intro z hz
        obtain ⟨i, hi, rfl⟩ := List.mem_iff_getElem.1 hz
        have := r2 i (by omega)
        rw [List.getD_eq_getElem?_getD (i := i), List.getElem?_eq_getElem hi] at this
        simp only [Option.getD_some] at this
        rcases this with h3 | h3 <;> omega
      have h4 := tot_le_pos p hall
      have h5 := pos_same p c (by omega) (fun k hk => (t.low k (by omega)).2)
      omega
  refine ⟨by omega, h2, ?_⟩
  generalize richTo p c 255 = b at *
  have hb : b < 256 := by omega
  constructor
  · simp [hl]
  · have := tot_set p b (p.getD b 0 - 1) (by omega)
    have := t.sum
    omega
  · intro s hs
    rw [iset_getD _ _ _ _ (by omega)]
    have := t.low s hs
    by_cases hbs : b = s
    · subst hbs
      rw [if_pos rfl]
      refine ⟨by omega, ?_⟩
      rw [← this.2]; omega
    · rw [if_neg hbs]; exact this
  · intro s hs
    rw [iset_getD _ _ _ _ (by omega)]
    have := t.top s hs
    by_cases hbs : b = s
    · subst hbs; rw [if_pos rfl]; omega
    · rw [if_neg hbs]; exact this
  · intro x y hx hy hxy
    rw [iset_getD _ _ _ _ (by omega), iset_getD _ _ _ _ (by omega)]
    have ho := t.order x y hx hy hxy
    by_cases hbx : b = x
    · subst hbx
      rw [if_pos rfl]
      by_cases hby : b = y
      · subst hby; omega
      · rw [if_neg hby]
        rcases r2 y (by omega) with h | ⟨h, h'⟩
        · omega
        · rcases h' with h' | ⟨h', _⟩ <;> omega
    · rw [if_neg hbx]
      by_cases hby : b = y
      · subst hby; rw [if_pos rfl]; omega
      · rw [if_neg hby]; exact ho

theorem took {c q : List Int} (hc : c.length = 256) (t : Took c q 0 q) (k : Nat) (hk : (pos c : Int) ≤ tot q - (k : Int)) : Took c q k (takeN c k q) := by
  induction k with
  | zero => exact t
  | succ k ih =>
    have t' := ih (by omega)
    rw [takeN_succ]
    exact (took_step hc t' (by rw [t'.sum]; omega)).2.2

end Go.Proofs.Ythghlfghdmifoaa

/- Plain: normalized counts, and what chapter 8 promises of them. -/
namespace Go.Proofs.Ythghlfghdmifoaa
open Go

def q0L (c : List Int) (size n : Int) : List Int := c.map fun x => x * size / n
def qBase (c : List Int) (size n : Int) : List Int := c.map fun x => if x * size / n = 0 then min x 1 else x * size / n
def rest0 (c : List Int) (size n : Int) : List Int := c.map fun x => x * size % n
def had0 (c : List Int) (size n : Int) : List Bool := c.map fun x => decide (x * size / n = 0)
def gaveC (c : List Int) (size n : Int) : List Int := (giveN (rest0 c size n) (size - tot (qBase c size n)).toNat (qBase c size n) (had0 c size n)).1
/-- the counts c, normalized to the sum size -/
def normC (c : List Int) (size : Int) : List Int := takeN c (tot (gaveC c size (tot c)) - size).toNat (gaveC c size (tot c))

/-- how many are raised to 1 -/
def zc (size n : Int) : List Int → Nat
  | [] => 0
  | x :: r => (if 0 < x ∧ x * size / n = 0 then 1 else 0) + zc size n r

theorem sum_parts (size n : Int) (c : List Int) : tot c * size = n * tot (q0L c size n) + tot (rest0 c size n) := by
  induction c with
  | nil => simp [q0L, rest0, tot]
  | cons x r ih =>
    have h := Int.mul_ediv_add_emod (x * size) n
    simp only [q0L, rest0, List.map_cons, tot] at ih ⊢
    rw [Int.add_mul, ih, Int.mul_add]
    omega

theorem base_sum (size n : Int) (c : List Int) (h0 : ∀ x ∈ c, 0 ≤ x) : tot (qBase c size n) = tot (q0L c size n) + (zc size n c : Int) := by
  induction c with
  | nil => simp [qBase, q0L, tot, zc]
  | cons x r ih =>
    have ih := ih (fun y hy => h0 y (by simp [hy]))
    have hx := h0 x (by simp)
    simp only [qBase, q0L, List.map_cons, tot, zc] at ih ⊢
    by_cases hq : x * size / n = 0
    · by_cases hp : 0 < x
      · rw [if_pos hq, if_pos ⟨hp, hq⟩]; omega
      · rw [if_pos hq, if_neg (fun h => hp h.1)]; omega
    · rw [if_neg hq, if_neg (fun h => hq h.2)]; omega

theorem rest_sum (size n : Int) (hn : 0 < n) (c : List Int) (h0 : ∀ x ∈ c, 0 ≤ x) : tot (rest0 c size n) ≤ (n - 1) * ((cntN (rest0 c size n) (had0 c size n) : Int) + (zc size n c : Int)) := by
  induction c with
  | nil => simp [rest0, had0, tot, zc, cntN]
  | cons x r ih =>
    have ih := ih (fun y hy => h0 y (by simp [hy]))
    have hx := h0 x (by simp)
    have e1 := Int.emod_nonneg (x * size) (show n ≠ 0 by omega)
    have e2 := Int.emod_lt_of_pos (x * size) hn
    simp only [rest0, had0, List.map_cons, tot, zc, cntN] at ih ⊢
    generalize hN : cntN (List.map (fun x => x * size % n) r) (List.map (fun x => decide (x * size / n = 0)) r) = N at *
    generalize hZ : zc size n r = Z at *
    have hstep : (n - 1) * ((N : Int) + (Z : Int) + 1) = (n - 1) * ((N : Int) + (Z : Int)) + (n - 1) := by rw [Int.mul_add, Int.mul_one]
    by_cases hq : x * size / n = 0
    · by_cases hp : 0 < x
      · rw [if_pos (show 0 < x ∧ x * size / n = 0 from ⟨hp, hq⟩), if_neg (by simp [hq])]
        rw [show (((0 + N : Nat)) : Int) + ((1 + Z : Nat) : Int) = (N : Int) + (Z : Int) + 1 by omega, hstep]
        omega
      · have : x = 0 := by omega
        subst this
        rw [if_neg (by simp), if_neg (by simp)]
        simp only [Int.zero_mul, Int.zero_emod] at *
        rw [show (((0 + N : Nat)) : Int) + ((0 + Z : Nat) : Int) = (N : Int) + (Z : Int) by omega]
        omega
    · rw [if_neg (show ¬ (0 < x ∧ x * size / n = 0) from fun h => hq h.2)]
      by_cases hr : 0 < x * size % n
      · rw [if_pos ⟨by simp [hq], hr⟩]
        rw [show (((1 + N : Nat)) : Int) + ((0 + Z : Nat) : Int) = (N : Int) + (Z : Int) + 1 by omega, hstep]
        omega
      · rw [if_neg (fun h => hr h.2)]
        rw [show (((0 + N : Nat)) : Int) + ((0 + Z : Nat) : Int) = (N : Int) + (Z : Int) by omega]
        omega

theorem give_room {c : List Int} {size n : Int} (h0 : ∀ x ∈ c, 0 ≤ x) (hn : tot c = n) (hn0 : 0 < n) : (size - tot (qBase c size n)).toNat ≤ cntN (rest0 c size n) (had0 c size n) := by
  have h1 := sum_parts size n c
  have h2 := base_sum size n c h0
  have h3 := rest_sum size n hn0 c h0
  rw [hn] at h1
  generalize cntN (rest0 c size n) (had0 c size n) = N at *
  generalize zc size n c = Z at *
  generalize tot (qBase c size n) = B at *
  generalize tot (q0L c size n) = Q at *
  generalize tot (rest0 c size n) = R at *
  rcases Nat.lt_or_ge N (size - B).toNat with hlt | hge
  · exfalso
    have hA : (N : Int) + Z ≤ size - Q - 1 := by omega
    have hR : R = n * (size - Q) := by rw [Int.mul_sub]; omega
    have h4 : (n - 1) * ((N : Int) + Z) ≤ (n - 1) * (size - Q - 1) := Int.mul_le_mul_of_nonneg_left hA (by omega)
    have h5 : (n - 1) * (size - Q - 1) = n * (size - Q) - n - (size - Q) + 1 := by
      rw [Int.sub_mul, Int.mul_sub n (size - Q) 1, Int.mul_one, Int.one_mul]; omega
    omega
  · exact hge

theorem mapI_getD (c : List Int) (f : Int → Int) (s : Nat) (h : s < c.length) : (c.map f).getD s 0 = f (c.getD s 0) := by
  simp [List.getD_eq_getElem?_getD, List.getElem?_map, List.getElem?_eq_getElem h]
theorem mapB_getD (c : List Int) (f : Int → Bool) (s : Nat) (h : s < c.length) : (c.map f).getD s false = f (c.getD s 0) := by
  simp [List.getD_eq_getElem?_getD, List.getElem?_map, List.getElem?_eq_getElem h]

/-- counts that can be normalized to the sum size -/
structure Fit (c : List Int) (size : Int) : Prop where
  len : c.length = 256
  low : ∀ x ∈ c, 0 ≤ x
  some : 0 < tot c
  sz : 0 < size
  many : (pos c : Int) ≤ size

theorem Fit.at {c : List Int} {size : Int} (h : Fit c size) (s : Nat) (hs : s < 256) : 0 ≤ c.getD s 0 := h.low _ (getD_mem (by rw [h.len]; exact hs))

theorem Fit.gave {c : List Int} {size : Int} (h : Fit c size) : Gave (rest0 c size (tot c)) (qBase c size (tot c)) (had0 c size (tot c)) (size - tot (qBase c size (tot c))).toNat (giveN (rest0 c size (tot c)) (size - tot (qBase c size (tot c))).toNat (qBase c size (tot c)) (had0 c size (tot c))) :=
  Go.Proofs.Ythghlfghdmifoaa.gave (by simp [rest0, h.len]) (by simp [qBase, h.len]) (by simp [had0, h.len]) _ (give_room h.low rfl h.some)

theorem div_parts (x size n : Int) (hn : 0 < n) (hx : 0 ≤ x) (hs : 0 < size) : 0 ≤ x * size / n ∧ n * (x * size / n) + x * size % n = x * size ∧ 0 ≤ x * size % n ∧ x * size % n < n ∧ 0 ≤ x * size :=
  have hp : 0 ≤ x * size := Int.mul_nonneg hx (by omega)
  ⟨Int.ediv_nonneg hp (by omega), Int.mul_ediv_add_emod _ _, Int.emod_nonneg _ (by omega), Int.emod_lt_of_pos _ hn, hp⟩

theorem base_at {c : List Int} {size n : Int} (s : Nat) (hs : s < c.length) : (qBase c size n).getD s 0 = if c.getD s 0 * size / n = 0 then min (c.getD s 0) 1 else c.getD s 0 * size / n := by
  unfold qBase; rw [mapI_getD c _ s hs]
theorem rest_at {c : List Int} {size n : Int} (s : Nat) (hs : s < c.length) : (rest0 c size n).getD s 0 = c.getD s 0 * size % n := by
  unfold rest0; rw [mapI_getD c _ s hs]
theorem had_at {c : List Int} {size n : Int} (s : Nat) (hs : s < c.length) : (had0 c size n).getD s false = decide (c.getD s 0 * size / n = 0) := by
  unfold had0; rw [mapB_getD c _ s hs]

/-- behind the gifts: a count, and what it was -/
theorem Fit.given {c : List Int} {size : Int} (h : Fit c size) (s : Nat) (hs : s < 256) :
    ((gaveC c size (tot c)).getD s 0 = 0 ∧ c.getD s 0 = 0) ∨ ((gaveC c size (tot c)).getD s 0 = 1 ∧ 0 < c.getD s 0 ∧ c.getD s 0 * size / tot c = 0) ∨
    (0 < c.getD s 0 ∧ 0 < c.getD s 0 * size / tot c ∧ ((gaveC c size (tot c)).getD s 0 = c.getD s 0 * size / tot c ∨ ((gaveC c size (tot c)).getD s 0 = c.getD s 0 * size / tot c + 1 ∧ 0 < c.getD s 0 * size % tot c))) := by
  have g := h.gave
  have hl : s < c.length := by rw [h.len]; exact hs
  have hv := g.val s hs
  have hso := g.some s hs
  rw [base_at s hl, had_at s hl] at hv
  rw [had_at s hl, rest_at s hl] at hso
  have hx := h.at s hs
  obtain ⟨d1, d2, d3, d4, d5⟩ := div_parts (c.getD s 0) size (tot c) h.some hx h.sz
  unfold gaveC
  generalize giveN (rest0 c size (tot c)) (size - tot (qBase c size (tot c))).toNat (qBase c size (tot c)) (had0 c size (tot c)) = p at *
  by_cases hq : c.getD s 0 * size / tot c = 0
  · rw [if_pos hq, if_neg (fun hh => by rw [decide_eq_true hq] at hh; exact Bool.noConfusion hh.1)] at hv
    by_cases hc0 : c.getD s 0 = 0
    · left; exact ⟨by rw [hv]; omega, hc0⟩
    · right; left; exact ⟨by rw [hv]; omega, by omega, hq⟩
  · right; right
    have hcp : 0 < c.getD s 0 := by
      rcases Int.lt_or_eq_of_le hx with h1 | h1
      · exact h1
      · rw [← h1] at hq; simp at hq
    refine ⟨hcp, by omega, ?_⟩
    rw [if_neg hq] at hv
    cases hp2 : p.2.getD s false with
    | false => left; rw [if_neg (fun hh => by rw [hp2] at hh; exact Bool.noConfusion hh.2)] at hv; omega
    | true =>
      right
      rw [if_pos ⟨decide_eq_false hq, hp2⟩] at hv
      exact ⟨hv, hso (decide_eq_false hq) hp2⟩

theorem div_mono {x y size n : Int} (hn : 0 < n) (hs : 0 < size) (h : x ≤ y) : x * size / n ≤ y * size / n :=
  Int.ediv_le_ediv hn (Int.mul_le_mul_of_nonneg_right h (by omega))

theorem Fit.givenOrder {c : List Int} {size : Int} (h : Fit c size) (a b : Nat) (ha : a < 256) (hb : b < 256) (hab : c.getD b 0 < c.getD a 0) : (gaveC c size (tot c)).getD b 0 ≤ (gaveC c size (tot c)).getD a 0 := by
  have ga := h.given a ha
  have gb := h.given b hb
  have hm := div_mono (n := tot c) h.some h.sz (Int.le_of_lt hab)
  have hxa := h.at a ha
  have hxb := h.at b hb
  by_cases hq : c.getD b 0 * size / tot c = c.getD a 0 * size / tot c ∧ 0 < c.getD b 0 * size / tot c
  · -- like quotients: who has more left is first
    have hla : a < c.length := by rw [h.len]; exact ha
    have hlb : b < c.length := by rw [h.len]; exact hb
    have g := h.gave
    have hva := g.val a ha
    have hvb := g.val b hb
    have hfi := g.first b a hb ha
    rw [base_at a hla, had_at a hla] at hva
    rw [base_at b hlb, had_at b hlb] at hvb
    rw [had_at b hlb, rest_at a hla, rest_at b hlb] at hfi
    obtain ⟨a1, a2, a3, a4, a5⟩ := div_parts (c.getD a 0) size (tot c) h.some hxa h.sz
    obtain ⟨b1, b2, b3, b4, b5⟩ := div_parts (c.getD b 0) size (tot c) h.some hxb h.sz
    have hlt : c.getD b 0 * size < c.getD a 0 * size := Int.mul_lt_mul_of_pos_right hab h.sz
    unfold gaveC
    generalize giveN (rest0 c size (tot c)) (size - tot (qBase c size (tot c))).toNat (qBase c size (tot c)) (had0 c size (tot c)) = p at *
    rw [if_neg (by omega)] at hva hvb
    rw [hva, hvb]
    cases hpb : p.2.getD b false with
    | false => rw [if_neg (show ¬ (_ ∧ false = true) from fun hh => Bool.noConfusion hh.2)]; split <;> omega
    | true =>
      cases hpa : p.2.getD a false with
      | true =>
        rw [if_pos ⟨decide_eq_false (by omega), rfl⟩, if_pos ⟨decide_eq_false (by omega), rfl⟩]; omega
      | false =>
        exfalso
        have := hfi (decide_eq_false (by omega)) hpb hpa
        rw [hq.1] at b2
        rcases this with h1 | h1 <;> omega
  · rcases ga with ⟨ga, ga'⟩ | ⟨ga, ga', ga''⟩ | ⟨ga, ga', ga''⟩ <;> rcases gb with ⟨gb, gb'⟩ | ⟨gb, gb', gb''⟩ | ⟨gb, gb', gb''⟩ <;> omega

theorem Fit.took0 {c : List Int} {size : Int} (h : Fit c size) : Took c (gaveC c size (tot c)) 0 (gaveC c size (tot c)) := by
  refine ⟨h.gave.len1, by simp, fun s hs => ?_, fun s _ => Int.le_refl _, fun a b ha hb hab => h.givenOrder a b ha hb hab⟩
  have := h.given s hs
  rcases this with ⟨g, g'⟩ | ⟨g, g', _⟩ | ⟨g, g', g''⟩ <;> omega

theorem Fit.gaveSum {c : List Int} {size : Int} (h : Fit c size) : tot (gaveC c size (tot c)) = max size (tot (qBase c size (tot c))) := by
  have := h.gave.sum
  unfold gaveC
  rw [this]; omega

theorem Fit.took {c : List Int} {size : Int} (h : Fit c size) : Took c (gaveC c size (tot c)) (tot (gaveC c size (tot c)) - size).toNat (normC c size) := by
  have hg := h.gaveSum
  have hm := h.many
  exact Go.Proofs.Ythghlfghdmifoaa.took h.len h.took0 _ (by omega)

theorem norm_len {c : List Int} {size : Int} (h : Fit c size) : (normC c size).length = 256 := h.took.len
theorem norm_sum {c : List Int} {size : Int} (h : Fit c size) : tot (normC c size) = size := by
  have := h.took.sum
  have := h.gaveSum
  omega
theorem norm_pos {c : List Int} {size : Int} (h : Fit c size) (s : Nat) (hs : s < 256) : 0 ≤ (normC c size).getD s 0 ∧ (0 < (normC c size).getD s 0 ↔ 0 < c.getD s 0) := h.took.low s hs
theorem norm_order {c : List Int} {size : Int} (h : Fit c size) (a b : Nat) (ha : a < 256) (hb : b < 256) (hab : c.getD b 0 < c.getD a 0) : (normC c size).getD b 0 ≤ (normC c size).getD a 0 := h.took.order a b ha hb hab
theorem norm_nonneg {c : List Int} {size : Int} (h : Fit c size) : ∀ x ∈ normC c size, 0 ≤ x := by
  intro x hx
  obtain ⟨i, hi, rfl⟩ := List.mem_iff_getElem.1 hx
  rw [norm_len h] at hi
  have := (norm_pos h i hi).1
  rwa [List.getD_eq_getElem?_getD, List.getElem?_eq_getElem (by rw [norm_len h]; exact hi)] at this

/-- none has its part and one, or more -/
theorem norm_near {c : List Int} {size : Int} (h : Fit c size) (s : Nat) (hs : s < 256) : (normC c size).getD s 0 * tot c < c.getD s 0 * size + tot c := by
  have ht := h.took.top s hs
  have hg := h.given s hs
  have hx := h.at s hs
  have hn := h.some
  obtain ⟨d1, d2, d3, d4, d5⟩ := div_parts (c.getD s 0) size (tot c) h.some hx h.sz
  have hle : (normC c size).getD s 0 * tot c ≤ (gaveC c size (tot c)).getD s 0 * tot c := Int.mul_le_mul_of_nonneg_right ht (by omega)
  rcases hg with ⟨g, g'⟩ | ⟨g, g', g''⟩ | ⟨g, g', g''⟩
  · rw [g, Int.zero_mul] at hle; omega
  · have : 0 < c.getD s 0 * size := Int.mul_pos g' h.sz
    rw [g, Int.one_mul] at hle; omega
  · rcases g'' with g2 | ⟨g2, g3⟩
    · rw [g2, Int.mul_comm (c.getD s 0 * size / tot c)] at hle; omega
    · rw [g2, Int.add_mul, Int.one_mul, Int.mul_comm (c.getD s 0 * size / tot c)] at hle; omega

theorem zc_zero (size n : Int) (c : List Int) (h : ∀ x ∈ c, 0 < x → ¬ x * size / n = 0) : zc size n c = 0 := by
  induction c with
  | nil => rfl
  | cons x r ih =>
    simp only [zc]
    rw [ih (fun y hy => h y (by simp [hy])), if_neg (fun hh => h x (by simp) hh.1 hh.2)]

theorem tot_rest_nonneg (size n : Int) (hn : 0 < n) (c : List Int) : 0 ≤ tot (rest0 c size n) := by
  refine tot_nonneg _ fun x hx => ?_
  simp only [rest0, List.mem_map] at hx
  obtain ⟨y, _, rfl⟩ := hx
  exact Int.emod_nonneg _ (by omega)

/-- where none is raised, none lacks one or more -/
theorem norm_near2 {c : List Int} {size : Int} (h : Fit c size) (hr : ∀ s, s < 256 → 0 < c.getD s 0 → tot c ≤ c.getD s 0 * size) (s : Nat) (hs : s < 256) : c.getD s 0 * size - tot c < (normC c size).getD s 0 * tot c := by
  have hn := h.some
  have hz : zc size (tot c) c = 0 := zc_zero size (tot c) c fun x hx h0 hq => by
    obtain ⟨i, hi, rfl⟩ := List.mem_iff_getElem.1 hx
    have h1 := hr i (by rw [← h.len]; exact hi)
    rw [List.getD_eq_getElem?_getD, List.getElem?_eq_getElem hi] at h1
    simp only [Option.getD_some] at h1
    have h2 := h1 h0
    have h3 := Int.mul_ediv_add_emod (c[i] * size) (tot c)
    have h4 := Int.emod_lt_of_pos (c[i] * size) hn
    rw [hq, Int.mul_zero] at h3
    omega
  have hb := base_sum size (tot c) c h.low
  have hp := sum_parts size (tot c) c
  have hrn := tot_rest_nonneg size (tot c) hn c
  rw [hz] at hb
  have hle : tot (qBase c size (tot c)) ≤ size := by
    have h1 : tot c * tot (q0L c size (tot c)) ≤ tot c * size := by omega
    have := Int.le_of_mul_le_mul_left h1 hn
    omega
  have hgs := h.gaveSum
  have hN : normC c size = gaveC c size (tot c) := by
    unfold normC
    rw [show (tot (gaveC c size (tot c)) - size).toNat = 0 by omega]; rfl
  rw [hN]
  have hg := h.given s hs
  have hx := h.at s hs
  obtain ⟨d1, d2, d3, d4, d5⟩ := div_parts (c.getD s 0) size (tot c) h.some hx h.sz
  rcases hg with ⟨g, g'⟩ | ⟨g, g', g''⟩ | ⟨g, g', g''⟩
  · rw [g, g', Int.zero_mul, Int.zero_mul]; omega
  · have := hr s hs g'
    rw [g'', Int.mul_zero] at d2; omega
  · rcases g'' with g2 | ⟨g2, g3⟩
    · rw [g2, Int.mul_comm (c.getD s 0 * size / tot c)]; omega
    · rw [g2, Int.add_mul, Int.one_mul, Int.mul_comm (c.getD s 0 * size / tot c)]; omega

/-- what is normalized stays as it is -/
theorem norm_again {q : List Int} (_h0 : ∀ x ∈ q, 0 ≤ x) (hp : 0 < tot q) : normC q (tot q) = q := by
  have hb : qBase q (tot q) (tot q) = q := by
    have hid : q.map (fun x => if x * tot q / tot q = 0 then min x 1 else x * tot q / tot q) = q.map id := by
      apply List.map_congr_left
      intro x hx
      have hd : x * tot q / tot q = x := Int.mul_ediv_cancel x (by omega)
      rw [hd]
      by_cases hx0 : x = 0
      · rw [if_pos hx0, hx0]; rfl
      · rw [if_neg hx0]; rfl
    unfold qBase
    rw [hid, List.map_id]
  have hg : gaveC q (tot q) (tot q) = q := by
    unfold gaveC
    rw [hb, show (tot q - tot q).toNat = 0 by omega]; rfl
  unfold normC
  rw [hg, show (tot q - tot q).toNat = 0 by omega]; rfl

theorem tot_times (c : List Int) (f : Int) : tot (c.map (· * f)) = tot c * f := by
  induction c with
  | nil => simp [tot]
  | cons x r ih => simp only [List.map_cons, tot, ih, Int.add_mul]

/-- so many times as great, they are the same -/
theorem norm_times {c : List Int} {size f : Int} (h0 : ∀ x ∈ c, 0 ≤ x) (hf : 0 < f) : normC (c.map (· * f)) size = normC c size := by
  have hb : qBase (c.map (· * f)) size (tot c * f) = qBase c size (tot c) := by
    unfold qBase
    rw [List.map_map]
    apply List.map_congr_left
    intro x hx
    have hx0 := h0 x hx
    have hd : x * f * size / (tot c * f) = x * size / tot c := by
      rw [show x * f * size = x * size * f by rw [Int.mul_assoc, Int.mul_comm f size, ← Int.mul_assoc], Int.mul_ediv_mul_of_pos_left _ _ hf]
    simp only [Function.comp]
    rw [hd]
    by_cases hx1 : x = 0
    · subst hx1; simp
    · have hxf : 1 ≤ x * f := by
        have := Int.mul_pos (show 0 < x by omega) hf
        omega
      rw [show min (x * f) 1 = min x 1 by omega]
  have hr : rest0 (c.map (· * f)) size (tot c * f) = (rest0 c size (tot c)).map (· * f) := by
    unfold rest0
    rw [List.map_map, List.map_map]
    apply List.map_congr_left
    intro x hx
    simp only [Function.comp]
    rw [show x * f * size = f * (x * size) by rw [Int.mul_assoc, Int.mul_comm f size, ← Int.mul_assoc, Int.mul_comm], Int.mul_comm (tot c) f, Int.mul_emod_mul_of_pos _ _ hf, Int.mul_comm]
  have hh : had0 (c.map (· * f)) size (tot c * f) = had0 c size (tot c) := by
    unfold had0
    rw [List.map_map]
    apply List.map_congr_left
    intro x hx
    have hd : x * f * size / (tot c * f) = x * size / tot c := by
      rw [show x * f * size = x * size * f by rw [Int.mul_assoc, Int.mul_comm f size, ← Int.mul_assoc], Int.mul_ediv_mul_of_pos_left _ _ hf]
    simp only [Function.comp]
    rw [hd]
  have hg : gaveC (c.map (· * f)) size (tot c * f) = gaveC c size (tot c) := by
    unfold gaveC
    rw [hb, hr, hh, give_times _ f hf]
  unfold normC
  rw [tot_times, hg, takeN_times c f hf]

end Go.Proofs.Ythghlfghdmifoaa

/- Plain mathematics of chapter 7: logs to the base of two. -/
namespace Go.Proofs.Ythghlfghdmifoaa
open Go

def floorI (n : Int) : Nat := Nat.log2 n.toNat
def ceilI (n : Int) : Nat := if n < 2 then 0 else Nat.log2 (n.toNat - 1) + 1
def widthI (n : Int) : Nat := if n < 1 then 0 else Nat.log2 n.toNat + 1
def pickI (n m most : Int) : Int := max (max (min ((floorI n : Int) - 2) most) 5) ((ceilI m : Nat) : Int)

theorem pow_le {a b : Nat} (h : a ≤ b) : 2 ^ a ≤ 2 ^ b := Nat.pow_le_pow_right (by omega) h
theorem lt_of_pow {a b : Nat} (h : 2 ^ a < 2 ^ b) : a < b := by
  rcases Nat.lt_or_ge a b with h1 | h1
  · exact h1
  · have := pow_le h1; omega
theorem two_pow_succ (k : Nat) : 2 ^ (k + 1) = 2 * 2 ^ k := by rw [Nat.pow_succ]; omega

theorem floor_spec {n : Int} (h : 1 ≤ n) : ((2 ^ floorI n : Nat) : Int) ≤ n ∧ n < ((2 ^ (floorI n + 1) : Nat) : Int) := by
  have h1 := Nat.log2_self_le (n := n.toNat) (by omega)
  have h2 := Nat.lt_log2_self (n := n.toNat)
  unfold floorI
  omega
theorem floor_unique {n : Int} {k : Nat} (h1 : ((2 ^ k : Nat) : Int) ≤ n) (h2 : n < ((2 ^ (k + 1) : Nat) : Int)) : floorI n = k := by
  have hp := Nat.two_pow_pos k
  have hs := floor_spec (n := n) (by omega)
  have a := lt_of_pow (a := floorI n) (b := k + 1) (by omega)
  have b := lt_of_pow (a := k) (b := floorI n + 1) (by omega)
  omega
theorem floor_small {n : Int} (h : n < 2) : floorI n = 0 := by
  by_cases h1 : n = 1
  · subst h1; decide
  · unfold floorI
    rw [show n.toNat = 0 by omega]; decide
theorem ceil_small {n : Int} (h : n < 2) : ceilI n = 0 := by unfold ceilI; rw [if_pos h]

theorem ceil_spec {n : Int} (h : 1 ≤ n) : n ≤ ((2 ^ ceilI n : Nat) : Int) ∧ (ceilI n = 0 ∨ ((2 ^ (ceilI n - 1) : Nat) : Int) < n) := by
  by_cases h1 : n < 2
  · rw [ceil_small h1]; exact ⟨by simp; omega, .inl rfl⟩
  · have a := Nat.log2_self_le (n := n.toNat - 1) (by omega)
    have b := Nat.lt_log2_self (n := n.toNat - 1)
    unfold ceilI
    rw [if_neg h1]
    refine ⟨by omega, .inr ?_⟩
    rw [Nat.add_sub_cancel]; omega
theorem ceil_unique {n : Int} {k : Nat} (h : 1 ≤ n) (h1 : n ≤ ((2 ^ k : Nat) : Int)) (h2 : k = 0 ∨ ((2 ^ (k - 1) : Nat) : Int) < n) : ceilI n = k := by
  obtain ⟨s1, s2⟩ := ceil_spec h
  have a : ceilI n ≤ k := by
    rcases s2 with s2 | s2
    · omega
    · have := lt_of_pow (a := ceilI n - 1) (b := k) (by omega); omega
  have b : k ≤ ceilI n := by
    rcases h2 with h2 | h2
    · omega
    · have := lt_of_pow (a := k - 1) (b := ceilI n) (by omega); omega
  omega

theorem floor_mono {n m : Int} (h : n ≤ m) : floorI n ≤ floorI m := by
  by_cases h1 : n < 2
  · rw [floor_small h1]; omega
  · have a := floor_spec (n := n) (by omega)
    have b := floor_spec (n := m) (by omega)
    have := lt_of_pow (a := floorI n) (b := floorI m + 1) (by omega)
    omega
theorem ceil_mono {n m : Int} (h : n ≤ m) : ceilI n ≤ ceilI m := by
  by_cases h1 : n < 2
  · rw [ceil_small h1]; omega
  · have a := ceil_spec (n := n) (by omega)
    have b := ceil_spec (n := m) (by omega)
    rcases a.2 with a2 | a2
    · omega
    · have := lt_of_pow (a := ceilI n - 1) (b := ceilI m) (by omega); omega

theorem floor_at (k : Nat) : floorI ((2 ^ k : Nat) : Int) = k := floor_unique (Int.le_refl _) (by have := Nat.two_pow_pos k; rw [two_pow_succ]; omega)
theorem ceil_at (k : Nat) : ceilI ((2 ^ k : Nat) : Int) = k := by
  have := Nat.two_pow_pos k
  refine ceil_unique (by omega) (Int.le_refl _) ?_
  cases k with
  | zero => exact .inl rfl
  | succ k => right; rw [Nat.add_sub_cancel, two_pow_succ]; have := Nat.two_pow_pos k; omega

theorem floor_le40 {n : Int} (h : n ≤ 1099511627776) : floorI n ≤ 40 := by
  have := floor_mono (n := n) (m := ((2 ^ 40 : Nat) : Int)) (by simpa using h)
  rwa [floor_at] at this
theorem ceil_le40 {n : Int} (h : n ≤ 1099511627776) : ceilI n ≤ 40 := by
  have := ceil_mono (n := n) (m := ((2 ^ 40 : Nat) : Int)) (by simpa using h)
  rwa [ceil_at] at this

theorem width_small {n : Int} (h : n < 1) : widthI n = 0 := by unfold widthI; rw [if_pos h]
theorem width_floor {n : Int} (h : 1 ≤ n) : widthI n = floorI n + 1 := by unfold widthI floorI; rw [if_neg (by omega)]
theorem width_le41 {n : Int} (h : n ≤ 1099511627776) : widthI n ≤ 41 := by
  by_cases h1 : n < 1
  · rw [width_small h1]; omega
  · rw [width_floor (by omega)]; have := floor_le40 h; omega

theorem floor_double {n : Int} (h : 1 ≤ n) : floorI (2 * n) = floorI n + 1 ∧ floorI (2 * n + 1) = floorI n + 1 := by
  have a := floor_spec h
  have e1 := two_pow_succ (floorI n)
  have e2 := two_pow_succ (floorI n + 1)
  exact ⟨floor_unique (by omega) (by omega), floor_unique (by omega) (by omega)⟩
theorem ceil_double {n : Int} (h : 1 ≤ n) : ceilI (2 * n) = ceilI n + 1 := by
  have a := ceil_spec h
  have e1 := two_pow_succ (ceilI n)
  refine ceil_unique (by omega) (by omega) (.inr ?_)
  rw [Nat.add_sub_cancel]
  rcases a.2 with a2 | a2
  · rw [a2]; simp; omega
  · by_cases h0 : ceilI n = 0
    · rw [h0]; simp; omega
    · have e2 := two_pow_succ (ceilI n - 1)
      rw [show ceilI n - 1 + 1 = ceilI n by omega] at e2
      omega
theorem width_double {n : Int} (h : 1 ≤ n) : widthI (2 * n) = widthI n + 1 ∧ widthI (2 * n + 1) = widthI n + 1 := by
  have := floor_double h
  rw [width_floor h, width_floor (by omega), width_floor (by omega)]; omega
theorem width_half {n : Int} (h : 1 ≤ n) : widthI n = widthI (n / 2) + 1 := by
  by_cases h1 : n = 1
  · subst h1; decide
  · have := width_double (n := n / 2) (by omega)
    by_cases h2 : n % 2 = 0
    · rw [show 2 * (n / 2) = n by omega] at this; exact this.1
    · rw [show 2 * (n / 2) + 1 = n by omega] at this; exact this.2

theorem both_at {n : Int} (h : 1 ≤ n) : ceilI n = floorI n ↔ n = ((2 ^ floorI n : Nat) : Int) := by
  have a := floor_spec h
  have b := ceil_spec h
  constructor
  · intro e; rw [e] at b; omega
  · intro e
    have := ceil_at (floorI n)
    rw [← e] at this; exact this

theorem pick_ge5 (n m most : Int) : 5 ≤ pickI n m most := by unfold pickI; omega
theorem pick_le40 {n m most : Int} (h : n ≤ 1099511627776) (h2 : m ≤ 1099511627776) : pickI n m most ≤ 40 := by
  have := floor_le40 h; have := ceil_le40 h2
  unfold pickI; omega
theorem pick_mono {n m most n' m' most' : Int} (h1 : n ≤ n') (h2 : m ≤ m') (h3 : most ≤ most') : pickI n m most ≤ pickI n' m' most' := by
  have := floor_mono h1; have := ceil_mono h2
  unfold pickI; omega

/-- a table has room -/
theorem pick_room {n m t : Int} (hm : 1 ≤ m) (ht : 5 ≤ t) (k : Nat) (hk : pickI n m t = (k : Int)) :
    m ≤ ((2 ^ k : Nat) : Int) ∧ ((k : Int) ≤ t ∨ ((2 ^ (k - 1) : Nat) : Int) < m) ∧ (k = 5 ∨ k ≤ floorI n ∨ ((2 ^ (k - 1) : Nat) : Int) < m) := by
  have c := ceil_spec hm
  unfold pickI at hk
  have hck : ceilI m ≤ k := by omega
  have hp := pow_le hck
  by_cases he : ceilI m = k
  · rw [he] at c
    refine ⟨c.1, ?_, ?_⟩
    · rcases c.2 with c2 | c2
      · left; omega
      · right; exact c2
    · rcases c.2 with c2 | c2
      · exfalso; omega
      · right; right; exact c2
  · refine ⟨by omega, by left; omega, ?_⟩
    by_cases h5 : k = 5
    · left; exact h5
    · right; left; omega

end Go.Proofs.Ythghlfghdmifoaa

/- Bits as a row of bools in memory. -/
namespace Go.Proofs.Ythghlfghdmifoaa
open Go.RowKit

def bl (bs : List Bool) : List Value := bs.map Value.bool
theorem bl_length (bs : List Bool) : (bl bs).length = bs.length := by simp [bl]
theorem bl_one (bs : List Bool) : ∀ u ∈ bl bs, u.oneCell' = true := by
  intro u hu
  simp only [bl, List.mem_map] at hu
  obtain ⟨x, _, rfl⟩ := hu
  rfl
theorem bl_get (bs : List Bool) (i : Nat) (h : i < bs.length) : (bl bs)[i]? = some (.bool bs[i]) := by simp [bl, List.getElem?_eq_getElem h]
theorem Try.infoBool : (Try.prog.info? 4).map (fun i => (i.zero, i.size, i.bytes)) = some (some (.bool false), 1, 1) := by kernel_rfl

end Go.Proofs.Ythghlfghdmifoaa

/- A block that is a row of bools. -/
namespace Go.Proofs.Ythghlfghdmifoaa
open Go.RowKit

/-- A block that is a row of bools. -/
def RowT (w : World) (g : Nat) (t : TypeId) (hs : List Bool) : Prop := w.heap[g]? = some (.cells (bl hs).toArray t (0, 0))
theorem bl_getD (hs : List Bool) (k : Nat) (hk : k < hs.length) : (bl hs)[k]? = some (.bool (hs.getD k false)) := by simp [bl, List.getElem?_eq_getElem hk]
theorem bl_setT (hs : List Bool) (i : Nat) (z : Bool) : (bl hs).set i (.bool z) = bl (hs.set i z) := by simp [bl, List.map_set]
theorem RowT.cell {w : World} {g : Nat} {t : TypeId} {hs : List Bool} (h : RowT w g t hs) (k : Nat) (hk : k < hs.length) : w.cell? ⟨g, k, none⟩ = some (.bool (hs.getD k false)) := by
  rw [cell_of_row w g k _ _ _ h, List.getElem?_toArray, bl_getD hs k hk]
theorem RowT.free {w : World} {g : Nat} {t : TypeId} {hs : List Bool} (h : RowT w g t hs) (k : Nat) : w.frozen? ⟨g, k, none⟩ = false := frozen_of_row w g k _ _ h
theorem RowT.kept {S : Nat → Prop} {w w' : World} {g : Nat} {t : TypeId} {hs : List Bool} (h : RowT w g t hs) (hc : Chg S w w') (hS : ¬ S g) : RowT w' g t hs := (hc.block g (lt_of_block h) hS).trans h
theorem RowT.lt {w : World} {g : Nat} {t : TypeId} {hs : List Bool} (h : RowT w g t hs) : g < w.heap.size := lt_of_block h
theorem RowT.set {w : World} {g : Nat} {t : TypeId} {hs : List Bool} (h : RowT w g t hs) (i : Nat) (z : Bool) : RowT (w.setCell ⟨g, i, none⟩ (.bool z)) g t (hs.set i z) := by
  have := heap_setCell_same w g i _ _ (.bool z) h
  unfold RowT
  rw [this, List.setIfInBounds_toArray, bl_setT]

end Go.Proofs.Ythghlfghdmifoaa

/- What the document's own norm (puncheonref08) tells: power, sum, neediest, richest. -/
namespace Go.Proofs.Ythghlfghdmifoaa
open Go.RowKit

set_option maxHeartbeats 1000000 in
theorem r8power_any (r : Nat) (w : World) (hr : r ≤ 40) : Calls Try.prog 58 #[.int .i64 (r : Int)] w fun e w' => e = .returned (.int .i64 ((2 ^ r : Nat) : Int)) ∧ w' = w := by
  have HR := Lib.hid hr
  have hrI : (r : Int) ≤ 40 := by omega
  clear hr
  go_enter Try.func58, Try.ntmps58
  go_wp2
  go_loopw [3, 4] (fun o3 o4 wr => ∃ k P : Nat, k ≤ r ∧ o4 = .int .i64 (k : Int) ∧ o3 = .int .i64 (P : Int) ∧ P = 2 ^ k ∧ wr = w) (fun _ o4 _ => r - (intOf o4).toNat)
  case atStart => exact ⟨0, 1, Nat.zero_le _, rfl, rfl, rfl, rfl⟩
  case round =>
    obtain ⟨k, P, hk, rfl, rfl, hP, rfl⟩ := hrel
    have hP2 : P ≤ 2 ^ 40 := by rw [hP]; exact pow_le (by have := HR.out; omega)
    have hP3 : (P : Int) ≤ 1099511627776 := by
      have : (2 : Nat) ^ 40 = 1099511627776 := by decide
      omega
    by_cases hlt : k < r
    · have hsu : 2 * P = 2 ^ (k + 1) := by rw [hP, two_pow_succ k]
      have HS := Lib.hid hsu
      clear hsu hP hP2
      go_wp2
      go_roundw
      case rel => exact ⟨k + 1, 2 * P, by omega, by go_num, by go_num, HS.out, trivial⟩
      case measure => simp [intOf]; omega
    · obtain rfl : k = r := by omega
      have HP := Lib.hid hP
      clear hP hP2
      go_wp2
      go_ret
      rw [← HP.out]
      exact ⟨rfl, rfl⟩

set_option maxHeartbeats 1000000 in
theorem r8sum_any (v : Value) (q : List Int) (w : World) (h : RdI w v q) (hb : ∀ z ∈ q, 0 ≤ z ∧ z ≤ 4294967296) (hl : q.length ≤ 1000) :
    Calls Try.prog 59 #[v] w fun e w' => e = .returned (.int .i64 (tot q)) ∧ w' = w := by
  obtain ⟨ao, cap, rfl⟩ := h.form
  have H := Lib.hid h; have HB := Lib.hid hb
  have hlI : (q.length : Int) ≤ 1000 := by omega
  have HL := Lib.hid hl
  clear h hb hl
  go_enter Try.func59, Try.ntmps59
  go_wp2
  go_loopw [3, 4] (fun o3 o4 wr => ∃ k : Nat, k ≤ q.length ∧ o4 = .int .i64 (k : Int) ∧ o3 = .int .i64 (tot (q.take k)) ∧ 0 ≤ tot (q.take k) ∧ tot (q.take k) ≤ 4294967296 * (k : Int) ∧ wr = w) (fun _ o4 _ => q.length - (intOf o4).toNat)
  case atStart => exact ⟨0, Nat.zero_le _, rfl, rfl, by simp [tot], by simp [tot], rfl⟩
  case round =>
    obtain ⟨k, hk, rfl, rfl, h0, h1, rfl⟩ := hrel
    by_cases hlt : k < q.length
    · obtain ⟨g, off, rfl, hc⟩ := H.out.at k hlt
      have hsu := tot_take_succ q k hlt
      have hbk := HB.out _ (getD_mem hlt)
      obtain ⟨x, hx⟩ : ∃ x, q.getD k 0 = x := ⟨_, rfl⟩
      obtain ⟨t, ht⟩ : ∃ t, tot (q.take k) = t := ⟨_, rfl⟩
      rw [hx] at hc hsu hbk
      rw [ht] at hsu h0 h1 ⊢
      have hkl := HL.out
      have ht2 : t ≤ 4294967296000 := by omega
      obtain ⟨hx0, hx1⟩ := hbk
      have HSU := Lib.hid hsu; have H1 := Lib.hid h1
      clear hx ht hsu h1 hkl
      go_wp2
      go_roundw
      case rel => exact ⟨k + 1, by omega, by go_num, by rw [HSU.out], by rw [HSU.out]; omega, by rw [HSU.out]; have := H1.out; omega, trivial⟩
      case measure => simp [intOf]; omega
    · obtain rfl : k = q.length := by omega
      rw [List.take_length]
      clear h0 h1
      go_wp2
      go_ret
      exact ⟨rfl, rfl⟩

/-- an index, or -1 -/
def idx : Option Nat → Int
  | none => -1
  | some b => (b : Int)

set_option maxHeartbeats 2000000 in
set_option maxRecDepth 100000 in
theorem r8neediest_any (g h : Nat) (t u : TypeId) (rest : List Int) (had : List Bool) (w : World) (hr : RowI w g t rest) (hh : RowT w h u had) (hl : rest.length = 256) (hl2 : had.length = 256) :
    Calls Try.prog 60 #[.slice (some ⟨g, 0, none⟩) 256 256, .slice (some ⟨h, 0, none⟩) 256 256] w fun e w' => e = .returned (.int .i64 (idx (needyTo rest had 256))) ∧ ∃ m, w' = w.drewN m := by
  obtain ⟨N, hN⟩ : ∃ N, needyTo rest had 256 = N := ⟨_, rfl⟩
  rw [hN]
  have HN := Lib.hid hN; have HR := Lib.hid hr; have HH := Lib.hid hh; have HL := Lib.hid hl; have HL2 := Lib.hid hl2
  clear hN hr hh hl hl2
  go_enter Try.func60, Try.ntmps60
  go_wp2
  go_loopw [5, 6] (fun o5 o6 wr => ∃ s : Nat, s ≤ 256 ∧ o6 = .int .i64 (s : Int) ∧ o5 = .int .i64 (idx (needyTo rest had s)) ∧ ∃ m, wr = w.drewN m) (fun _ o6 _ => 256 - (intOf o6).toNat)
  case atStart => exact ⟨0, Nat.zero_le _, rfl, rfl, 0, rfl⟩
  case round =>
    obtain ⟨s, hs, rfl, rfl, m, rfl⟩ := hrel
    by_cases hlt : s < 256
    · have d8 : decide ((s : Int) < 256) = true := by simp; omega
      have hsI : (s : Int) < 256 := by omega
      have c1 := HH.out.cell s (by rw [HL2.out]; exact hlt)
      have c2 := HR.out.cell s (by rw [HL.out]; exact hlt)
      have hst : needyTo rest had (s + 1) = match needyTo rest had s with
        | none => if had.getD s false then none else some s
        | some b => if had.getD s false = false ∧ rest.getD b 0 < rest.getD s 0 then some s else some b := rfl
      cases hn : needyTo rest had s with
      | none =>
        rw [hn] at hst
        simp only at hst
        cases hhs : had.getD s false with
        | true =>
          rw [hhs] at hst c1
          have HST := Lib.hid hst
          clear hst hn hhs
          simp only [idx]
          go_wp2
          go_quiet (fail)
          go_wp2
          go_roundw
          case rel => exact ⟨s + 1, by omega, by go_num, by rw [HST.out] <;> rfl, m + nq, rfl⟩
          case measure => simp [intOf]; omega
        | false =>
          rw [hhs] at hst c1
          have HST := Lib.hid hst
          clear hst hn hhs
          simp only [idx]
          go_wp2
          go_quiet (fail)
          go_wp2
          go_roundw
          case rel => exact ⟨s + 1, by omega, by go_num, by rw [HST.out] <;> rfl, m + nq, rfl⟩
          case measure => simp [intOf]; omega
      | some b =>
        have hb := (needy_some rest had s b hn).1
        have hb256 : b < 256 := by omega
        have hbI : (b : Int) < 256 := by omega
        have c3 := HR.out.cell b (by rw [HL.out]; exact hb256)
        rw [hn] at hst
        simp only at hst
        have hneg : decide ((b : Int) < 0) = false := by simp
        obtain ⟨x, hx⟩ : ∃ x, rest.getD s 0 = x := ⟨_, rfl⟩
        obtain ⟨y, hy⟩ : ∃ y, rest.getD b 0 = y := ⟨_, rfl⟩
        rw [hx] at hst c2
        rw [hy] at hst c3
        clear hx hy hn
        cases hhs : had.getD s false with
        | true =>
          rw [hhs] at hst c1
          rw [if_neg (by simp)] at hst
          have HST := Lib.hid hst
          clear hst hhs
          simp only [idx]
          go_wp2
          go_quiet (fail)
          go_wp2
          go_roundw
          case rel => exact ⟨s + 1, by omega, by go_num, by rw [HST.out] <;> rfl, m + nq, rfl⟩
          case measure => simp [intOf]; omega
        | false =>
          rw [hhs] at hst c1
          by_cases hyx : y < x
          · have d1 : decide (y < x) = true := decide_eq_true hyx
            rw [if_pos ⟨rfl, hyx⟩] at hst
            have HST := Lib.hid hst
            clear hst hhs
            simp only [idx]
            go_wp2
            go_quiet (fail)
            go_wp2
            go_roundw
            case rel => exact ⟨s + 1, by omega, by go_num, by rw [HST.out] <;> rfl, m + nq, rfl⟩
            case measure => simp [intOf]; omega
          · have d1 : decide (y < x) = false := decide_eq_false hyx
            rw [if_neg (fun hh => hyx hh.2)] at hst
            have HST := Lib.hid hst
            clear hst hhs
            simp only [idx]
            go_wp2
            go_quiet (fail)
            go_wp2
            go_roundw
            case rel => exact ⟨s + 1, by omega, by go_num, by rw [HST.out] <;> rfl, m + nq, rfl⟩
            case measure => simp [intOf]; omega
    · obtain rfl : s = 256 := by omega
      rw [HN.out]
      go_wp2
      go_ret
      exact ⟨rfl, m, rfl⟩

set_option maxHeartbeats 2000000 in
set_option maxRecDepth 100000 in
theorem r8richest_any (g h o cap : Nat) (t : TypeId) (q c : List Int) (w : World) (hr : RowI w g t q) (hh : RdI w (.slice (some ⟨h, o, none⟩) 256 cap) c) (hl : q.length = 256) (hl2 : c.length = 256) :
    Calls Try.prog 61 #[.slice (some ⟨g, 0, none⟩) 256 256, .slice (some ⟨h, o, none⟩) 256 cap] w fun e w' => e = .returned (.int .i64 ((richTo q c 255 : Nat) : Int)) ∧ ∃ m, w' = w.drewN m := by
  obtain ⟨N, hN⟩ : ∃ N, richTo q c 255 = N := ⟨_, rfl⟩
  rw [hN]
  have hcell : ∀ k, k < 256 → w.cell? ⟨h, o + k, none⟩ = some (.int .i64 (c.getD k 0)) := fun k hk => by
    obtain ⟨g', o', he, hc⟩ := hh.at k (by omega)
    simp only [Option.some.injEq, Addr.mk.injEq] at he
    obtain ⟨rfl, rfl, -⟩ := he
    exact hc
  have HN := Lib.hid hN; have HR := Lib.hid hr; have HC := Lib.hid hcell; have HL := Lib.hid hl
  clear hN hr hh hl hl2 hcell
  go_enter Try.func61, Try.ntmps61
  go_wp2
  go_loopw [5, 6] (fun o5 o6 wr => ∃ s : Nat, s ≤ 255 ∧ o6 = .int .i64 ((s + 1 : Nat) : Int) ∧ o5 = .int .i64 ((richTo q c s : Nat) : Int) ∧ ∃ m, wr = w.drewN m) (fun _ o6 _ => 256 - (intOf o6).toNat)
  case atStart => exact ⟨0, Nat.zero_le _, rfl, rfl, 0, rfl⟩
  case round =>
    obtain ⟨s, hs, rfl, rfl, m, rfl⟩ := hrel
    have hb := (rich_spec q c s).1
    by_cases hlt : s < 255
    · have d8 : decide ((((s + 1 : Nat)) : Int) < 256) = true := by simp; omega
      have hsI : (s : Int) + 1 < 256 := by omega
      have hst : richTo q c (s + 1) = if q.getD (richTo q c s) 0 < q.getD (s + 1) 0 ∨ (q.getD (s + 1) 0 = q.getD (richTo q c s) 0 ∧ c.getD (s + 1) 0 ≤ c.getD (richTo q c s) 0) then s + 1 else richTo q c s := rfl
      have c1 := HR.out.cell (s + 1) (by rw [HL.out]; omega)
      have c2 := HR.out.cell (richTo q c s) (by rw [HL.out]; omega)
      have c3 := HC.out (s + 1) (by omega)
      have c4 := HC.out (richTo q c s) (by omega)
      obtain ⟨b, hbe⟩ : ∃ b, richTo q c s = b := ⟨_, rfl⟩
      rw [hbe] at hst c2 c4 hb ⊢
      clear hbe
      obtain ⟨x, hx⟩ : ∃ x, q.getD (s + 1) 0 = x := ⟨_, rfl⟩
      obtain ⟨y, hy⟩ : ∃ y, q.getD b 0 = y := ⟨_, rfl⟩
      obtain ⟨x2, hx2⟩ : ∃ x2, c.getD (s + 1) 0 = x2 := ⟨_, rfl⟩
      obtain ⟨y2, hy2⟩ : ∃ y2, c.getD b 0 = y2 := ⟨_, rfl⟩
      rw [hx] at hst c1
      rw [hy] at hst c2
      rw [hx2] at hst c3
      rw [hy2] at hst c4
      have hbI : (b : Int) < 256 := by omega
      clear hx hy hx2 hy2
      by_cases h1 : y < x
      · have d1 : decide (y < x) = true := decide_eq_true h1
        rw [if_pos (.inl h1)] at hst
        have HST := Lib.hid hst
        clear hst
        go_wp2
        go_quiet (fail)
        go_wp2
        go_roundw
        case rel => exact ⟨s + 1, by omega, by go_num, by rw [HST.out] <;> go_num, m + nq, rfl⟩
        case measure => simp [intOf]; omega
      · have d1 : decide (y < x) = false := decide_eq_false h1
        by_cases h2 : x = y
        · subst h2
          by_cases h3 : x2 ≤ y2
          · have d3 : decide (x2 ≤ y2) = true := decide_eq_true h3
            rw [if_pos (.inr ⟨rfl, h3⟩)] at hst
            have HST := Lib.hid hst
            clear hst
            go_wp2
            go_quiet (fail)
            go_wp2
            go_roundw
            case rel => exact ⟨s + 1, by omega, by go_num, by rw [HST.out] <;> go_num, m + nq, rfl⟩
            case measure => simp [intOf]; omega
          · have d3 : decide (x2 ≤ y2) = false := decide_eq_false h3
            rw [if_neg (fun hh => hh.elim h1 (fun hh => h3 hh.2))] at hst
            have HST := Lib.hid hst
            clear hst
            go_wp2
            go_quiet (fail)
            go_wp2
            go_roundw
            case rel => exact ⟨s + 1, by omega, by go_num, by rw [HST.out], m + nq, rfl⟩
            case measure => simp [intOf]; omega
        · have d2 : (x == y) = false := by simp [h2]
          rw [if_neg (fun hh => hh.elim h1 (fun hh => h2 hh.1))] at hst
          have HST := Lib.hid hst
          clear hst
          go_wp2
          go_quiet (fail)
          go_wp2
          go_roundw
          case rel => exact ⟨s + 1, by omega, by go_num, by rw [HST.out], m + nq, rfl⟩
          case measure => simp [intOf]; omega
    · obtain rfl : s = 255 := by omega
      rw [HN.out]
      go_wp2
      go_ret
      exact ⟨rfl, m, rfl⟩

end Go.Proofs.Ythghlfghdmifoaa

/- What the document's own Counts (puncheonref08) tells. -/
namespace Go.Proofs.Ythghlfghdmifoaa
open Go.RowKit

/-- filled up to the k-th -/
def fillI (f : Nat → Int) (k : Nat) : List Int := (List.range 256).map fun i => if i < k then f i else 0
def fillB (f : Nat → Bool) (k : Nat) : List Bool := (List.range 256).map fun i => if i < k then f i else false
theorem fillI_length (f : Nat → Int) (k : Nat) : (fillI f k).length = 256 := by simp [fillI]
theorem fillB_length (f : Nat → Bool) (k : Nat) : (fillB f k).length = 256 := by simp [fillB]
theorem fillI_getD (f : Nat → Int) (k i : Nat) (h : i < 256) : (fillI f k).getD i 0 = if i < k then f i else 0 := by simp [fillI, List.getD_eq_getElem?_getD, h]
theorem fillB_getD (f : Nat → Bool) (k i : Nat) (h : i < 256) : (fillB f k).getD i false = if i < k then f i else false := by simp [fillB, List.getD_eq_getElem?_getD, h]
theorem extB_getD {a b : List Bool} (hl : a.length = b.length) (h : ∀ k, k < a.length → a.getD k false = b.getD k false) : a = b := by
  apply List.ext_getElem hl
  intro i h1 h2
  have := h i h1
  rwa [List.getD_eq_getElem?_getD, List.getD_eq_getElem?_getD, List.getElem?_eq_getElem h1, List.getElem?_eq_getElem h2] at this
theorem fillI_zero (f : Nat → Int) : fillI f 0 = List.replicate 256 0 := by
  apply ext_getD (by rw [fillI_length, List.length_replicate])
  intro k hk
  rw [fillI_length] at hk
  rw [fillI_getD _ _ _ hk, if_neg (by omega), List.getD_eq_getElem?_getD, List.getElem?_replicate, if_pos hk]; rfl
theorem fillB_zero (f : Nat → Bool) : fillB f 0 = List.replicate 256 false := by
  apply extB_getD (by rw [fillB_length, List.length_replicate])
  intro k hk
  rw [fillB_length] at hk
  rw [fillB_getD _ _ _ hk, if_neg (by omega), List.getD_eq_getElem?_getD, List.getElem?_replicate, if_pos hk]; rfl
theorem fillI_set (f : Nat → Int) (k : Nat) (hk : k < 256) : (fillI f k).set k (f k) = fillI f (k + 1) := by
  apply ext_getD (by rw [List.length_set, fillI_length, fillI_length])
  intro u hu
  rw [List.length_set, fillI_length] at hu
  rw [fillI_getD _ _ _ hu, iset_getD _ _ _ _ (by rw [fillI_length]; exact hk), fillI_getD _ _ _ hu]
  by_cases h : k = u
  · subst h; rw [if_pos rfl, if_pos (by omega)]
  · rw [if_neg h]
    by_cases h2 : u < k
    · rw [if_pos h2, if_pos (by omega)]
    · rw [if_neg h2, if_neg (by omega)]
theorem fillB_set (f : Nat → Bool) (k : Nat) (hk : k < 256) : (fillB f k).set k (f k) = fillB f (k + 1) := by
  apply extB_getD (by rw [List.length_set, fillB_length, fillB_length])
  intro u hu
  rw [List.length_set, fillB_length] at hu
  rw [fillB_getD _ _ _ hu, bset_getD _ _ _ _ (by rw [fillB_length]; exact hk), fillB_getD _ _ _ hu]
  by_cases h : k = u
  · subst h; rw [if_pos rfl, if_pos (by omega)]
  · rw [if_neg h]
    by_cases h2 : u < k
    · rw [if_pos h2, if_pos (by omega)]
    · rw [if_neg h2, if_neg (by omega)]
theorem fillB_skip (f : Nat → Bool) (k : Nat) (hk : k < 256) (hf : f k = false) : fillB f k = fillB f (k + 1) := by
  rw [← fillB_set f k hk, hf]
  apply extB_getD (by rw [List.length_set])
  intro u hu
  rw [fillB_length] at hu
  rw [bset_getD _ _ _ _ (by rw [fillB_length]; exact hk)]
  by_cases h : k = u
  · subst h; rw [if_pos rfl, fillB_getD _ _ _ hu, if_neg (by omega)]
  · rw [if_neg h]
theorem fillI_all (f : Nat → Int) (l : List Int) (hl : l.length = 256) (h : ∀ s, s < 256 → l.getD s 0 = f s) : fillI f 256 = l := by
  apply ext_getD (by rw [fillI_length, hl])
  intro u hu
  rw [fillI_length] at hu
  rw [fillI_getD _ _ _ hu, if_pos hu, h u hu]
theorem fillB_all (f : Nat → Bool) (l : List Bool) (hl : l.length = 256) (h : ∀ s, s < 256 → l.getD s false = f s) : fillB f 256 = l := by
  apply extB_getD (by rw [fillB_length, hl])
  intro u hu
  rw [fillB_length] at hu
  rw [fillB_getD _ _ _ hu, if_pos hu, h u hu]

theorem setset (l : List Int) (i : Nat) (x y : Int) : (l.set i x).set i y = l.set i y := by simp

/-- a row of bools is made -/
theorem zeros_bl (n : Nat) : (madeCells (Value.bool false).cells (n * 1)).toList = bl (List.replicate n false) := by
  rw [Nat.mul_one]
  apply List.ext_getElem (by simp [madeCells, bl])
  intro i h1 h2
  simp [madeCells, Value.cells, Nat.mod_one, bl]
theorem RowT.of_own {w : World} {base g n : Nat} {hs : List Bool} (h : w.ownsRow base 4 1 (.slice (some ⟨g, 0, none⟩) n n) n (bl hs)) : RowT w g 4 hs := by
  rcases h.2 with ⟨h0, _⟩ | ⟨g', cap, cur, he, _, hg, _, _, hs', ht⟩
  · simp at h0
  · simp only [Value.slice.injEq, Option.some.injEq, Addr.mk.injEq, and_true, true_and] at he
    obtain ⟨rfl, rfl⟩ := he
    have : cur = (bl hs).toArray := by
      apply Array.ext'
      rw [← ht, List.take_of_length_le (by rw [Array.length_toList, hs']; exact Nat.le_refl _)]
    rw [this] at hg
    exact hg
theorem wpList_make_bools {ops : Array Oper} {rest : List Oper} {o : Oper} {a : Act} {w : World} {Q : Exit → Act → World → Prop} (hg : o.guard = none) (l c : Operand) (hop : o.op = Op.makeSlice 67 l c)
    (L C : Int) (n : Nat) (hl : a.eval l = .int .i64 L) (hc : a.eval c = .int .i64 C) (hL : L = (n : Int)) (hC : C = (n : Int)) (hn : n < 100000000000) (Z : List Bool) (hZ : Z = List.replicate n false)
    (hK : ∀ w', RowT w' w.heap.size 4 Z → Chg (fun _ => False) w w' → wpList Try.prog ops Q rest (a.put o.dst (.slice (some ⟨w.heap.size, 0, none⟩) n n)) w') : wpList Try.prog ops Q (o :: rest) a w := by
  obtain ⟨i, hi, hz0, hz1, hz2⟩ := info_parts Try.infoBool
  refine wpList_make_full w hg l c 67 hop w.heap.size 4 i (.bool false) 1 Try.underlying67 hi hz0 hz1 .i64 .i64 L C n hl hc hL hC (by rw [hz2]; omega) (by unfold maxLen; omega) (Nat.le_refl _) ?_
  intro w1 h1 h2
  rw [zeros_bl, ← hZ] at h1
  exact hK w1 (RowT.of_own h1) ((Chg.of_grown h2).mono fun k _ hk => by simp at hk)

/-- whether counts can be normalized to the log r -/
def normOk (c : List Int) (r : Int) : Prop := isRight c ∧ 0 < tot c ∧ 1 ≤ r ∧ r ≤ 12 ∧ (pos c : Int) ≤ ((2 ^ r.toNat : Nat) : Int)
instance normOk_dec (c : List Int) (r : Int) : Decidable (normOk c r) := by unfold normOk; infer_instance
/-- what they are -/
def normR (c : List Int) (r : Int) : List Int := normC c ((2 ^ r.toNat : Nat) : Int)

theorem normOk.fit {c : List Int} {r : Int} (h : normOk c r) : Fit c ((2 ^ r.toNat : Nat) : Int) :=
  ⟨h.1.1, h.1.2.1, h.2.1, by have := Nat.two_pow_pos r.toNat; omega, h.2.2.2.2⟩
theorem pow12 {k : Nat} (h : k ≤ 12) : (2 ^ k : Nat) ≤ 4096 := by
  have := pow_le h
  have : (2 : Nat) ^ 12 = 4096 := by decide
  omega

/-- what Counts tells -/
def NormSays (w : World) (c : List Int) (r : Int) (e : Ending) (w' : World) : Prop :=
  ∃ v', e = .returned (.tuple #[v', .int .i64 (if normOk c r then 0 else 1)]) ∧ (normOk c r → OwnI w' w.heap.size v' (normR c r)) ∧ (¬ normOk c r → RdI w' v' []) ∧ Chg (fun _ => False) w w'

theorem total_pos {c : List Int} : totalI c = 0 ↔ ¬ (isRight c ∧ 0 < tot c) := by
  unfold totalI
  by_cases h : isRight c
  · rw [if_pos h]
    have := tot_nonneg c h.2.1
    constructor
    · rintro h0 ⟨_, h1⟩; omega
    · intro h1
      have : ¬ 0 < tot c := fun h2 => h1 ⟨h, h2⟩
      omega
  · rw [if_neg h]
    exact ⟨fun _ h1 => h h1.1, fun _ => rfl⟩

end Go.Proofs.Ythghlfghdmifoaa

/- Logs of normalized counts; what the document's own Log (puncheonref08) tells. -/
namespace Go.Proofs.Ythghlfghdmifoaa
open Go.RowKit

/-- the log of which the sum t is; 0, if of none -/
def logI (t : Int) : Nat := if 1 ≤ floorI t ∧ floorI t ≤ 12 ∧ t = ((2 ^ floorI t : Nat) : Int) then floorI t else 0
theorem logI_pow {r : Nat} (h1 : 1 ≤ r) (h2 : r ≤ 12) : logI ((2 ^ r : Nat) : Int) = r := by
  unfold logI
  rw [floor_at, if_pos ⟨h1, h2, rfl⟩]
theorem logI_none {t : Int} (h : ∀ r : Nat, 1 ≤ r → r ≤ 12 → ¬ t = ((2 ^ r : Nat) : Int)) : logI t = 0 := by
  unfold logI
  rw [if_neg (fun hh => h _ hh.1 hh.2.1 hh.2.2)]
theorem logI_le (t : Int) : logI t ≤ 12 := by
  unfold logI
  split
  · next h => exact h.2.1
  · omega
theorem logI_spec (t : Int) : logI t = 0 ∨ (1 ≤ logI t ∧ t = ((2 ^ logI t : Nat) : Int)) := by
  by_cases h : 1 ≤ floorI t ∧ floorI t ≤ 12 ∧ t = ((2 ^ floorI t : Nat) : Int)
  · right
    have : logI t = floorI t := by unfold logI; rw [if_pos h]
    rw [this]; exact ⟨h.1, h.2.2⟩
  · left; unfold logI; rw [if_neg h]

set_option maxHeartbeats 1000000 in
theorem r8log_of (v : Value) (q : List Int) (w : World) (h : RdI w v q) (hTT : Calls Try.prog 57 #[v] w fun e w' => e = .returned (.int .i64 (totalI q)) ∧ w' = w) :
    Calls Try.prog 42 #[v] w fun e w' => e = .returned (.int .i64 ((logI (totalI q) : Nat) : Int)) ∧ w' = w := by
  have HT := Lib.hid hTT
  obtain ⟨ao, cap, rfl⟩ := h.form
  clear h hTT
  have htl := totalI_le q
  obtain ⟨t, ht⟩ : ∃ t, totalI q = t := ⟨_, rfl⟩
  rw [ht] at HT htl ⊢
  obtain ⟨ht0, ht1⟩ := htl
  obtain ⟨L, hL⟩ : ∃ L, logI t = L := ⟨_, rfl⟩
  rw [hL]
  have HL := Lib.hid hL
  clear ht hL
  go_enter Try.func42, Try.ntmps42
  go_wp2_with fail
  refine HT.out.mono ?_
  rintro e w' ⟨rfl, rfl⟩
  clear HT
  go_wp2
  go_loopw [4] (fun o4 wr => ∃ r : Nat, 1 ≤ r ∧ r ≤ 13 ∧ o4 = .int .i64 (r : Int) ∧ (∀ j, 1 ≤ j → j < r → ¬ t = ((2 ^ j : Nat) : Int)) ∧ wr = w') (fun o4 _ => 13 - (intOf o4).toNat)
  case atStart => exact ⟨1, Nat.le_refl _, by omega, rfl, fun j h1 h2 => by omega, rfl⟩
  case round =>
    obtain ⟨r, hr1, hr2, rfl, hno, rfl⟩ := hrel
    have HNO := Lib.hid hno
    clear hno
    by_cases hlt : r ≤ 12
    · have d1 : decide ((r : Int) ≤ 12) = true := by simp; omega
      have hlI : (r : Int) ≤ 12 := by omega
      have HP := Lib.hid (r8power_any r wr (by omega))
      have hpw := pow12 hlt
      obtain ⟨P, hP⟩ : ∃ P, 2 ^ r = P := ⟨_, rfl⟩
      rw [hP] at HP hpw
      have HPP := Lib.hid hP
      clear hP
      by_cases heq : t = (P : Int)
      · have hLr : L = r := by
          rw [← HL.out, heq, ← HPP.out]
          exact logI_pow hr1 hlt
        subst hLr
        subst heq
        go_wp2_with fail
        refine HP.out.mono ?_
        rintro e w2 ⟨rfl, rfl⟩
        go_wp2
        go_ret
        exact ⟨rfl, rfl⟩
      · have hne : (t == (P : Int)) = false := by simp [heq]
        go_wp2_with fail
        refine HP.out.mono ?_
        rintro e w2 ⟨rfl, rfl⟩
        go_wp2
        go_roundw
        case rel =>
          refine ⟨r + 1, by omega, by omega, by go_num, fun j h1 h2 => ?_, trivial⟩
          by_cases hjr : j = r
          · subst hjr; rw [HPP.out]; exact heq
          · exact HNO.out j h1 (by omega)
        case measure => simp [intOf]; omega
    · have hr13 : r = 13 := by omega
      have hrI : (r : Int) = 13 := by omega
      rw [hrI]
      have hL0 : L = 0 := by
        rw [← HL.out]
        exact logI_none fun j h1 h2 => HNO.out j h1 (by omega)
      subst hL0
      clear hr13 hrI hlt hr1 hr2
      go_wp2
      go_ret
      exact ⟨rfl, rfl⟩

theorem r8log_any (v : Value) (q : List Int) (w : World) (h : RdI w v q) (hb : ∀ z ∈ q, -9223372036854775808 ≤ z ∧ z ≤ 9223372036854775807) (hl : q.length < 100000000000) :
    Calls Try.prog 42 #[v] w fun e w' => e = .returned (.int .i64 ((logI (totalI q) : Nat) : Int)) ∧ w' = w := r8log_of v q w h (r5total_any v q w h hb hl)

/-- numbers of any length: none but 256 are right -/
theorem r5right_all (v : Value) (cs : List Int) (w : World) (h : RdI w v cs) (hb : ∀ z ∈ cs, -9223372036854775808 ≤ z ∧ z ≤ 9223372036854775807) :
    Calls Try.prog 56 #[v] w fun e w' => e = .returned (.bool (decide (isRight cs))) ∧ w' = w := by
  by_cases hlen : cs.length = 256
  · exact r5right_any v cs w h hb (by omega)
  · obtain ⟨ao, cap, rfl⟩ := h.form
    have hq : ((cs.length : Int) != 256) = true := by simp; omega
    clear h hb
    go_enter Try.func56, Try.ntmps56
    go_wp2
    go_ret
    have hd : decide (isRight cs) = false := decide_eq_false fun h => hlen h.1
    rw [hd]
    exact ⟨rfl, rfl⟩
theorem r5total_all (v : Value) (cs : List Int) (w : World) (h : RdI w v cs) (hb : ∀ z ∈ cs, -9223372036854775808 ≤ z ∧ z ≤ 9223372036854775807) :
    Calls Try.prog 57 #[v] w fun e w' => e = .returned (.int .i64 (totalI cs)) ∧ w' = w := by
  by_cases hlen : cs.length = 256
  · exact r5total_any v cs w h hb (by omega)
  · have HR := Lib.hid (r5right_all v cs w h hb)
    obtain ⟨ao, cap, rfl⟩ := h.form
    have hr : ¬ isRight cs := fun h => hlen h.1
    have hm : totalI cs = 0 := by unfold totalI; rw [if_neg hr]
    have HM := Lib.hid hm
    clear h hb hm
    go_enter Try.func57, Try.ntmps57
    go_wp2_with fail
    refine HR.out.mono ?_
    rintro e w' ⟨rfl, rfl⟩
    rw [decide_eq_false hr]
    clear HR hr hlen
    go_wp2
    go_loopw [3, 5] (fun o3 o5 wr => o5 = .int .i64 0 ∧ o3 = .int .i64 0 ∧ wr = w') (fun _ _ _ => 0)
    case atStart => exact ⟨rfl, rfl, rfl⟩
    case round =>
      obtain ⟨rfl, rfl, rfl⟩ := hrel
      by_cases hlt : 0 < cs.length
      · go_wp2
        go_ret
        rw [HM.out]
        exact ⟨rfl, rfl⟩
      · have h0 : cs.length = 0 := by omega
        rw [h0]
        go_wp2
        go_ret
        rw [HM.out]
        exact ⟨rfl, rfl⟩
theorem r8log_all (v : Value) (q : List Int) (w : World) (h : RdI w v q) (hb : ∀ z ∈ q, -9223372036854775808 ≤ z ∧ z ≤ 9223372036854775807) :
    Calls Try.prog 42 #[v] w fun e w' => e = .returned (.int .i64 ((logI (totalI q) : Nat) : Int)) ∧ w' = w := r8log_of v q w h (r5total_all v q w h hb)

end Go.Proofs.Ythghlfghdmifoaa

/- Plain mathematics of chapter 6: bytes by the byte ahead of each. -/
namespace Go.Proofs.Ythghlfghdmifoaa
open Go

/-- each byte with its context, c being the first one's -/
def prs : Nat → List Nat → List (Nat × Nat)
  | _, [] => []
  | c, x :: r => (c, x) :: prs x r

/-- the last byte; c, if there is none -/
def lst : Nat → List Nat → Nat
  | c, [] => c
  | _, x :: r => lst x r

theorem prs_append (c : Nat) (xs ys : List Nat) : prs c (xs ++ ys) = prs c xs ++ prs (lst c xs) ys := by
  induction xs generalizing c with
  | nil => rfl
  | cons x r ih => simp only [List.cons_append, prs, lst, ih]

theorem prs_snd (c : Nat) (xs : List Nat) : (prs c xs).map (·.2) = xs := by
  induction xs generalizing c with
  | nil => rfl
  | cons x r ih => simp only [prs, List.map_cons, ih]

theorem prs_fst_lt (c : Nat) (xs : List Nat) (hc : c < 256) (hx : ∀ x ∈ xs, x < 256) : ∀ p ∈ prs c xs, p.1 < 256 := by
  induction xs generalizing c with
  | nil => simp [prs]
  | cons x r ih =>
    intro p hp
    simp only [prs, List.mem_cons] at hp
    rcases hp with rfl | hp
    · exact hc
    · exact ih x (hx x (by simp)) (fun y hy => hx y (by simp [hy])) p hp

theorem lst_lt (c : Nat) (xs : List Nat) (hc : c < 256) (hx : ∀ x ∈ xs, x < 256) : lst c xs < 256 := by
  induction xs generalizing c with
  | nil => exact hc
  | cons x r ih => exact ih x (hx x (by simp)) (fun y hy => hx y (by simp [hy]))

theorem lst_take (c : Nat) (xs : List Nat) (k : Nat) (h : k ≤ xs.length) : lst c (xs.take k) = (c :: xs).getD k 0 := by
  induction xs generalizing c k with
  | nil => simp at h; subst h; rfl
  | cons x r ih =>
    cases k with
    | zero => rfl
    | succ k =>
      rw [List.take_succ_cons, lst, ih x k (by simpa using h), List.getD_cons_succ]

theorem lst_last (c : Nat) (xs : List Nat) (h : 0 < xs.length) : lst c xs = xs.getD (xs.length - 1) 0 := by
  have := lst_take c xs xs.length (Nat.le_refl _)
  rw [List.take_length] at this
  rw [this]
  obtain ⟨k, hk⟩ : ∃ k, xs.length = k + 1 := ⟨xs.length - 1, by omega⟩
  rw [hk, List.getD_cons_succ]; rfl

/-- of pairs the bytes whose context is c -/
def selP (P : List (Nat × Nat)) (c : Int) : List Nat := (P.filter fun p => decide ((p.1 : Int) = c)).map (·.2)
/-- all bytes whose context is c -/
def sel (xs : List Nat) (c : Int) : List Nat := selP (prs 0 xs) c

theorem selP_append (P Q : List (Nat × Nat)) (c : Int) : selP (P ++ Q) c = selP P c ++ selP Q c := by simp [selP]
theorem selP_cons (p : Nat × Nat) (P : List (Nat × Nat)) (c : Int) : selP (p :: P) c = (if (p.1 : Int) = c then [p.2] else []) ++ selP P c := by
  unfold selP
  rw [List.filter_cons]
  by_cases h : (p.1 : Int) = c
  · rw [if_pos h, if_pos (decide_eq_true h)]; rfl
  · rw [if_neg h, if_neg (by simp [h])]; rfl

theorem sel_nil (c : Int) : sel [] c = [] := rfl
theorem sel_snoc (xs : List Nat) (x : Nat) (c : Int) : sel (xs ++ [x]) c = sel xs c ++ if ((lst 0 xs : Nat) : Int) = c then [x] else [] := by
  unfold sel
  rw [prs_append, selP_append]
  simp only [prs]
  rw [selP_cons]
  simp [selP]

theorem sel_sub (xs : List Nat) (c : Int) : List.Sublist (sel xs c) xs := by
  have h : List.Sublist ((prs 0 xs).filter fun p => decide ((p.1 : Int) = c)) (prs 0 xs) := List.filter_sublist
  have := h.map (·.2)
  rw [prs_snd] at this
  exact this

theorem sel_lt {xs : List Nat} (hx : ∀ x ∈ xs, x < 256) (c : Int) : ∀ x ∈ sel xs c, x < 256 := fun x h => hx x ((sel_sub xs c).subset h)
theorem sel_len (xs : List Nat) (c : Int) : (sel xs c).length ≤ xs.length := (sel_sub xs c).length_le

theorem sel_out {xs : List Nat} (hx : ∀ x ∈ xs, x < 256) (c : Int) (hc : c < 0 ∨ 255 < c) : sel xs c = [] := by
  unfold sel selP
  rw [List.filter_eq_nil_iff.2, List.map_nil]
  intro p hp
  have := prs_fst_lt 0 xs (by omega) hx p hp
  simp; omega

theorem sel_take_succ (xs : List Nat) (k : Nat) (h : k < xs.length) (c : Int) : sel (xs.take (k + 1)) c = sel (xs.take k) c ++ if (((0 :: xs).getD k 0 : Nat) : Int) = c then [xs.getD k 0] else [] := by
  have ht : xs.take (k + 1) = xs.take k ++ [xs.getD k 0] := by
    rw [List.take_succ_eq_append_getElem h, List.getD_eq_getElem?_getD, List.getElem?_eq_getElem h]; rfl
  rw [ht, sel_snoc, lst_take 0 xs k (by omega)]

/-- the context of the byte at i; -1, if there is none -/
def atI (xs : List Nat) (i : Int) : Int := if 0 ≤ i ∧ i < xs.length then (((0 :: xs).getD i.toNat 0 : Nat) : Int) else -1
theorem atI_nat (xs : List Nat) (k : Nat) (h : k < xs.length) : atI xs (k : Int) = (((0 :: xs).getD k 0 : Nat) : Int) := by
  unfold atI; rw [if_pos (by omega)]; simp
theorem atI_out (xs : List Nat) (i : Int) (h : i < 0 ∨ (xs.length : Int) ≤ i) : atI xs i = -1 := by
  unfold atI; rw [if_neg (by omega)]

/-- contexts below k that some byte has -/
def presTo (xs : List Nat) (k : Nat) : List Int := ((List.range k).filter fun c : Nat => decide (0 < (sel xs (c : Int)).length)).map fun c : Nat => (c : Int)
def pres (xs : List Nat) : List Int := presTo xs 256
theorem presTo_succ (xs : List Nat) (k : Nat) : presTo xs (k + 1) = presTo xs k ++ if 0 < (sel xs (k : Int)).length then [(k : Int)] else [] := by
  unfold presTo
  rw [List.range_succ, List.filter_append, List.map_append]
  congr 1
  by_cases h : 0 < (sel xs (k : Int)).length
  · rw [if_pos h]; simp [h]
  · rw [if_neg h]; simp [h]
theorem presTo_length (xs : List Nat) (k : Nat) : (presTo xs k).length ≤ k := by
  unfold presTo
  rw [List.length_map]
  exact Nat.le_trans (List.length_filter_le _ _) (by simp)
theorem pres_mem {xs : List Nat} {c : Int} : c ∈ pres xs ↔ 0 ≤ c ∧ c < 256 ∧ 0 < (sel xs c).length := by
  unfold pres presTo
  simp only [List.mem_map, List.mem_filter, List.mem_range, decide_eq_true_eq]
  constructor
  · rintro ⟨k, ⟨h1, h2⟩, rfl⟩
    exact ⟨by omega, by omega, h2⟩
  · rintro ⟨h1, h2, h3⟩
    refine ⟨c.toNat, ⟨by omega, ?_⟩, by omega⟩
    rw [Int.toNat_of_nonneg h1]; exact h3
theorem pres_rise (xs : List Nat) : (pres xs).Pairwise (· < ·) := by
  unfold pres presTo
  rw [List.pairwise_map]
  refine List.Pairwise.imp (fun h => by omega) (List.Pairwise.filter _ List.pairwise_lt_range)
theorem pres_step (xs : List Nat) (i : Nat) (h0 : 0 < i) (hi : i < (pres xs).length) : (pres xs).getD (i - 1) 0 < (pres xs).getD i 0 := by
  have := List.pairwise_iff_getElem.1 (pres_rise xs) (i - 1) i (by omega) hi (by omega)
  rwa [List.getD_eq_getElem?_getD, List.getD_eq_getElem?_getD, List.getElem?_eq_getElem (by omega), List.getElem?_eq_getElem hi]

/-- the greatest number of unlike bytes that a context below k has -/
def wid (xs : List Nat) : Nat → Nat
  | 0 => 0
  | k + 1 => max (wid xs k) (manyI (cnt (sel xs (k : Int))))
def widest (xs : List Nat) : Nat := wid xs 256
theorem wid_le (xs : List Nat) (k : Nat) : wid xs k ≤ 256 := by
  induction k with
  | zero => simp [wid]
  | succ k ih => have := manyI_le (cnt (sel xs (k : Int))); simp only [wid]; omega
theorem wid_ge (xs : List Nat) (k c : Nat) (h : c < k) : manyI (cnt (sel xs (c : Int))) ≤ wid xs k := by
  induction k with
  | zero => omega
  | succ k ih =>
    simp only [wid]
    by_cases hc : c = k
    · subst hc; omega
    · have := ih (by omega); omega
theorem wid_bound (xs : List Nat) (k m : Nat) (h : ∀ c, c < k → manyI (cnt (sel xs ((c : Nat) : Int))) ≤ m) : wid xs k ≤ m := by
  induction k with
  | zero => simp [wid]
  | succ k ih =>
    have h1 := ih (fun c hc => h c (by omega))
    have h2 := h k (by omega)
    simp only [wid]; omega

theorem pos_mono : ∀ (a b : List Int), a.length = b.length → (∀ k, k < a.length → 0 < a.getD k 0 → 0 < b.getD k 0) → pos a ≤ pos b
  | [], [], _, _ => by simp [pos]
  | [], _ :: _, h, _ => by simp at h
  | _ :: _, [], h, _ => by simp at h
  | x :: a, y :: b, h, hk => by
    have ih := pos_mono a b (by simpa using h) (fun k hk1 hk2 => by have := hk (k + 1) (by simpa using hk1); simp only [List.getD_cons_succ] at this; exact this hk2)
    have h0 := hk 0 (by simp)
    simp only [List.getD_cons_zero] at h0
    simp only [pos]
    by_cases hx : 0 < x
    · rw [if_pos hx, if_pos (h0 hx)]; omega
    · rw [if_neg hx]; omega

theorem many_mono (xs ys : List Nat) (h : ∀ v, xs.count v ≤ ys.count v) (hx : ∀ x ∈ xs, x < 256) (hy : ∀ x ∈ ys, x < 256) (hl : xs.length ≤ 1073741824) (hl2 : ys.length ≤ 1073741824) : manyI (cnt xs) ≤ manyI (cnt ys) := by
  unfold manyI
  rw [if_pos (cnt_right xs hx hl), if_pos (cnt_right ys hy hl2)]
  refine pos_mono _ _ (by rw [cnt_length, cnt_length]) fun k hk h0 => ?_
  rw [cnt_length] at hk
  rw [cnt_getD _ _ hk] at h0 ⊢
  have := h k
  omega

theorem widest_top (xs : List Nat) (hx : ∀ x ∈ xs, x < 256) (hl : xs.length ≤ 1073741824) : widest xs ≤ manyI (cnt xs) :=
  wid_bound xs 256 _ fun c _ => many_mono _ _ (fun v => (sel_sub xs (c : Int)).count_le v) (sel_lt hx _) hx (Nat.le_trans (sel_len xs _) hl) hl

theorem pos_zero_of (cs : List Int) (h : pos cs = 0) : ∀ c ∈ cs, ¬ 0 < c := by
  induction cs with
  | nil => simp
  | cons x r ih =>
    simp only [pos] at h
    intro c hc
    rcases List.mem_cons.1 hc with rfl | hc
    · intro h0; rw [if_pos h0] at h; omega
    · exact ih (by omega) c hc

theorem many_pos (xs : List Nat) (x : Nat) (hm : x ∈ xs) (hx : ∀ x ∈ xs, x < 256) (hl : xs.length ≤ 1073741824) : 0 < manyI (cnt xs) := by
  unfold manyI
  rw [if_pos (cnt_right xs hx hl)]
  rcases Nat.eq_zero_or_pos (pos (cnt xs)) with h | h
  · have h2 := pos_zero_of _ h _ (getD_mem (cs := cnt xs) (k := x) (by rw [cnt_length]; exact hx x hm))
    rw [cnt_getD _ _ (hx x hm)] at h2
    have := List.count_pos_iff.2 hm
    omega
  · exact h

theorem many_nil : manyI (cnt []) = 0 := by decide +kernel

theorem widest_pos (xs : List Nat) (hx : ∀ x ∈ xs, x < 256) (hl : xs.length ≤ 1073741824) : 0 < widest xs ↔ 0 < xs.length := by
  constructor
  · intro h
    cases xs with
    | nil =>
      have : widest [] ≤ 0 := wid_bound [] 256 0 fun c _ => by rw [sel_nil, many_nil]; exact Nat.le_refl _
      omega
    | cons x r => simp
  · intro h
    cases xs with
    | nil => simp at h
    | cons x r =>
      have hs : x ∈ sel (x :: r) ((0 : Nat) : Int) := by unfold sel; simp only [prs]; rw [selP_cons]; simp
      have h1 := many_pos (sel (x :: r) ((0 : Nat) : Int)) x hs (sel_lt hx _) (Nat.le_trans (sel_len _ _) hl)
      have h2 := wid_ge (x :: r) 256 0 (by omega)
      unfold widest; omega

/-- one byte more -/
theorem sel_more (xs : List Nat) (v : Nat) (c : Int) (hv : v < 256) : cnt (sel (xs ++ [v]) c) = if ((lst 0 xs : Nat) : Int) = c then (cnt (sel xs c)).set v ((cnt (sel xs c)).getD v 0 + 1) else cnt (sel xs c) := by
  rw [sel_snoc]
  by_cases h : ((lst 0 xs : Nat) : Int) = c
  · rw [if_pos h, if_pos h, cnt_snoc _ _ hv]
  · rw [if_neg h, if_neg h, List.append_nil]

theorem snoc_lt {xs : List Nat} {v : Nat} (hx : ∀ x ∈ xs, x < 256) (hv : v < 256) : ∀ x ∈ xs ++ [v], x < 256 := fun x h => by
  rcases List.mem_append.1 h with h | h
  · exact hx x h
  · simp at h; omega

theorem many_more (xs : List Nat) (v : Nat) (c : Int) (hx : ∀ x ∈ xs, x < 256) (hv : v < 256) (hl : xs.length < 1073741824) : manyI (cnt (sel xs c)) ≤ manyI (cnt (sel (xs ++ [v]) c)) ∧ manyI (cnt (sel (xs ++ [v]) c)) ≤ manyI (cnt (sel xs c)) + 1 := by
  rw [sel_snoc]
  by_cases h : ((lst 0 xs : Nat) : Int) = c
  · rw [if_pos h]
    have := many_snoc (sel xs c) v (sel_lt hx c) hv (Nat.lt_of_le_of_lt (sel_len xs c) hl)
    rw [this]
    split <;> omega
  · rw [if_neg h, List.append_nil]; omega

theorem wid_more (xs : List Nat) (v : Nat) (hx : ∀ x ∈ xs, x < 256) (hv : v < 256) (hl : xs.length < 1073741824) (k : Nat) : wid xs k ≤ wid (xs ++ [v]) k ∧ wid (xs ++ [v]) k ≤ wid xs k + 1 := by
  induction k with
  | zero => simp [wid]
  | succ k ih =>
    have := many_more xs v (k : Int) hx hv hl
    simp only [wid]; omega

/-- bytes behind bytes -/
def joinedC (X Y : List Int) (b0 last : Nat) (c : Nat) : List Int :=
  let w0 := addL X Y
  let w1 := if c = 0 then w0.set b0 (w0.getD b0 0 - 1) else w0
  if c = last then w1.set b0 (w1.getD b0 0 + 1) else w1

theorem set_getD (l : List Int) (i j : Nat) (z : Int) (hi : i < l.length) : (l.set i z).getD j 0 = if i = j then z else l.getD j 0 := by
  by_cases h : i = j
  · subst h; rw [if_pos rfl, List.getD_eq_getElem?_getD, List.getElem?_set_self hi]; rfl
  · rw [if_neg h, List.getD_eq_getElem?_getD, List.getElem?_set_ne h, ← List.getD_eq_getElem?_getD]

theorem count_opt (p : Prop) [Decidable p] (b v : Nat) : ((List.count v (if p then [b] else []) : Nat) : Int) = if p ∧ b = v then 1 else 0 := by
  by_cases h : p
  · rw [if_pos h]
    by_cases hb : b = v
    · subst hb; rw [if_pos ⟨h, rfl⟩]; simp
    · rw [if_neg (by simp [hb])]
      have : List.count v [b] = 0 := by rw [List.count_eq_zero]; simp; omega
      rw [this]; rfl
  · rw [if_neg h, if_neg (by simp [h])]; rfl

theorem sel_joins (a b : List Nat) (c : Nat) (ha : 0 < a.length) (hb : 0 < b.length) (hx : ∀ x ∈ b, x < 256) :
    cnt (sel (a ++ b) (c : Int)) = joinedC (cnt (sel a (c : Int))) (cnt (sel b (c : Int))) (b.getD 0 0) (a.getD (a.length - 1) 0) c := by
  cases b with
  | nil => simp at hb
  | cons b0 r =>
    have hb0 : b0 < 256 := hx b0 (by simp)
    rw [← lst_last 0 a ha, List.getD_cons_zero]
    have e1 : sel (a ++ b0 :: r) (c : Int) = sel a (c : Int) ++ ((if ((lst 0 a : Nat) : Int) = (c : Int) then [b0] else []) ++ selP (prs b0 r) (c : Int)) := by
      unfold sel
      rw [prs_append, selP_append]
      simp only [prs]
      rw [selP_cons]
    have e2 : sel (b0 :: r) (c : Int) = (if ((0 : Nat) : Int) = (c : Int) then [b0] else []) ++ selP (prs b0 r) (c : Int) := by
      unfold sel
      simp only [prs]
      rw [selP_cons]
    generalize lst 0 a = L at *
    generalize hA : sel a (c : Int) = A at *
    generalize hT : selP (prs b0 r) (c : Int) = T at *
    rw [e1, e2]
    have hl0 : (addL (cnt A) (cnt ((if ((0 : Nat) : Int) = (c : Int) then [b0] else []) ++ T))).length = 256 := by rw [addL_length _ _ (by rw [cnt_length, cnt_length]), cnt_length]
    unfold joinedC
    apply ext_getD
    · rw [cnt_length]
      simp only
      split <;> split <;> simp only [List.length_set, hl0]
    · intro v hv
      rw [cnt_length] at hv
      have g0 : ∀ u, u < 256 → (addL (cnt A) (cnt ((if ((0 : Nat) : Int) = (c : Int) then [b0] else []) ++ T))).getD u 0 = (A.count u : Int) + ((if ((0 : Nat) : Int) = (c : Int) ∧ b0 = u then 1 else 0) + (T.count u : Int)) := by
        intro u hu
        rw [addL_getD _ _ u (by rw [cnt_length]; exact hu) (by rw [cnt_length]; exact hu), cnt_getD _ _ hu, cnt_getD _ _ hu, List.count_append, Int.natCast_add, count_opt]
      rw [cnt_getD _ _ hv, List.count_append, List.count_append, Int.natCast_add, Int.natCast_add, count_opt]
      simp only
      generalize hw : addL (cnt A) (cnt ((if ((0 : Nat) : Int) = (c : Int) then [b0] else []) ++ T)) = w0 at *
      by_cases h0 : c = 0 <;> by_cases hL : c = L <;> by_cases hbv : b0 = v
      all_goals
        simp only [h0, hL, if_true, if_false]
        first
          | rw [set_getD _ _ _ _ (by rw [List.length_set, hl0]; exact hb0), set_getD _ _ _ _ (by rw [hl0]; exact hb0), set_getD _ _ _ _ (by rw [hl0]; exact hb0)]
          | rw [set_getD _ _ _ _ (by rw [hl0]; exact hb0)]
          | skip
        simp only [g0 v hv, g0 b0 hb0]
        subst_vars
        simp_all
        try omega

end Go.Proofs.Ythghlfghdmifoaa

/- Plain: contexts by what stands ahead; pairs that are new. -/
namespace Go.Proofs.Ythghlfghdmifoaa
open Go

theorem prs_fst (c : Nat) (xs : List Nat) : (prs c xs).map (·.1) = (c :: xs).take xs.length := by
  induction xs generalizing c with
  | nil => rfl
  | cons x r ih => simp only [prs, List.map_cons, ih, List.length_cons, List.take_succ_cons]

theorem selP_length (P : List (Nat × Nat)) (c : Nat) : (selP P (c : Int)).length = (P.map (·.1)).count c := by
  induction P with
  | nil => rfl
  | cons p P ih =>
    rw [selP_cons, List.length_append, ih, List.map_cons, List.count_cons]
    by_cases h : p.1 = c
    · rw [if_pos (by omega)]; simp [h]; omega
    · rw [if_neg (by omega)]; simp [h]

/-- a context is there just if it is 0, or a byte's that isn't the last one -/
theorem ahead_pos (xs : List Nat) (n c : Nat) (hn : xs.length = n + 1) (hc : c < 256) :
    0 < ((cnt (xs.take n)).set 0 ((cnt (xs.take n)).getD 0 0 + 1)).getD c 0 ↔ 0 < (sel xs (c : Int)).length := by
  rw [← cnt_snoc _ _ (by omega), cnt_getD _ _ hc]
  unfold sel
  rw [selP_length, prs_fst, hn, List.take_succ_cons, List.count_cons, List.count_append]
  simp only [List.count_cons, List.count_nil]
  omega

theorem sel_snoc_eq (ys : List Nat) (x : Nat) : sel (ys ++ [x]) ((lst 0 ys : Nat) : Int) = sel ys ((lst 0 ys : Nat) : Int) ++ [x] := by
  rw [sel_snoc, if_pos rfl]
theorem sel_snoc_ne (ys : List Nat) (x c : Nat) (h : c ≠ lst 0 ys) : sel (ys ++ [x]) (c : Int) = sel ys (c : Int) := by
  rw [sel_snoc, if_neg (by omega), List.append_nil]

/-- which pairs came -/
def SeenOk (ys : List Nat) (vs : List Bool) : Prop := vs.length = 65536 ∧ ∀ c x : Nat, c < 256 → x < 256 → vs.getD (c * 256 + x) false = decide (x ∈ sel ys (c : Int))
/-- how many unlike bytes each context has -/
def ManyOk (ys : List Nat) (ms : List Int) : Prop := ms.length = 256 ∧ ∀ c : Nat, c < 256 → ms.getD c 0 = ((manyI (cnt (sel ys (c : Int))) : Nat) : Int)

theorem SeenOk.nil {vs : List Bool} (hl : vs.length = 65536) (h : ∀ j, j < 65536 → vs.getD j false = false) : SeenOk [] vs :=
  ⟨hl, fun c x hc hx => by rw [h _ (by omega), sel_nil]; simp⟩
theorem ManyOk.nil : ManyOk [] (List.replicate 256 0) :=
  ⟨List.length_replicate, fun c hc => by rw [sel_nil, many_nil, List.getD_eq_getElem?_getD, List.getElem?_replicate, if_pos hc]; rfl⟩

theorem cnt_zero_iff (zs : List Nat) (x : Nat) (hx : x < 256) : (cnt zs).getD x 0 = 0 ↔ x ∉ zs := by
  rw [cnt_getD _ _ hx]
  have := @List.count_eq_zero _ _ _ x zs
  constructor
  · intro h; exact this.1 (by omega)
  · intro h; have := this.2 h; omega

theorem wid_snoc (ys : List Nat) (x : Nat) (hy : ∀ y ∈ ys, y < 256) (hx : x < 256) (hl : ys.length < 1073741824) (hc : lst 0 ys < 256) :
    widest (ys ++ [x]) = max (widest ys) (manyI (cnt (sel (ys ++ [x]) ((lst 0 ys : Nat) : Int)))) := by
  apply Nat.le_antisymm
  · refine wid_bound _ 256 _ fun c hc' => ?_
    by_cases h : c = lst 0 ys
    · subst h; omega
    · rw [sel_snoc_ne ys x c h]
      have := wid_ge ys 256 c hc'
      unfold widest; omega
  · have h1 := (wid_more ys x hy hx hl 256).1
    have h2 := wid_ge (ys ++ [x]) 256 (lst 0 ys) hc
    unfold widest; omega

/-- a pair that came already -/
theorem seen_old {ys : List Nat} {x : Nat} {vs : List Bool} {ms : List Int} (hs : SeenOk ys vs) (hm : ManyOk ys ms) (hy : ∀ y ∈ ys, y < 256) (hx : x < 256) (hl : ys.length < 1073741824)
    (h : vs.getD (lst 0 ys * 256 + x) false = true) : SeenOk (ys ++ [x]) vs ∧ ManyOk (ys ++ [x]) ms ∧ widest (ys ++ [x]) = widest ys := by
  have hc : lst 0 ys < 256 := lst_lt 0 ys (by omega) hy
  rw [hs.2 _ _ hc hx, decide_eq_true_iff] at h
  have hmany : manyI (cnt (sel (ys ++ [x]) ((lst 0 ys : Nat) : Int))) = manyI (cnt (sel ys ((lst 0 ys : Nat) : Int))) := by
    rw [sel_snoc_eq, many_snoc _ _ (sel_lt hy _) hx (Nat.lt_of_le_of_lt (sel_len _ _) hl), if_neg (by rw [cnt_zero_iff _ _ hx]; simpa using h)]
  refine ⟨⟨hs.1, fun c z hc' hz => ?_⟩, ⟨hm.1, fun c hc' => ?_⟩, ?_⟩
  · rw [hs.2 c z hc' hz]
    by_cases e : c = lst 0 ys
    · subst e
      rw [sel_snoc_eq]
      by_cases ez : z = x
      · subst ez; simp [h]
      · simp [ez]
    · rw [sel_snoc_ne _ _ _ e]
  · rw [hm.2 c hc']
    by_cases e : c = lst 0 ys
    · subst e; rw [hmany]
    · rw [sel_snoc_ne _ _ _ e]
  · rw [wid_snoc ys x hy hx hl hc, hmany]
    have := wid_ge ys 256 _ hc
    unfold widest; omega

theorem set_getD_B (l : List Bool) (i j : Nat) (z : Bool) (hi : i < l.length) : (l.set i z).getD j false = if i = j then z else l.getD j false := by
  by_cases h : i = j
  · subst h; rw [if_pos rfl, List.getD_eq_getElem?_getD, List.getElem?_set_self hi]; rfl
  · rw [if_neg h, List.getD_eq_getElem?_getD, List.getElem?_set_ne h, ← List.getD_eq_getElem?_getD]

/-- a pair that is new -/
theorem seen_new {ys : List Nat} {x : Nat} {vs : List Bool} {ms : List Int} (hs : SeenOk ys vs) (hm : ManyOk ys ms) (hy : ∀ y ∈ ys, y < 256) (hx : x < 256) (hl : ys.length < 1073741824)
    (h : vs.getD (lst 0 ys * 256 + x) false = false) : SeenOk (ys ++ [x]) (vs.set (lst 0 ys * 256 + x) true) ∧ ManyOk (ys ++ [x]) (ms.set (lst 0 ys) (ms.getD (lst 0 ys) 0 + 1)) ∧ ((widest (ys ++ [x]) : Nat) : Int) = max ((widest ys : Nat) : Int) (ms.getD (lst 0 ys) 0 + 1) := by
  have hc : lst 0 ys < 256 := lst_lt 0 ys (by omega) hy
  rw [hs.2 _ _ hc hx, decide_eq_false_iff_not] at h
  have hmany : manyI (cnt (sel (ys ++ [x]) ((lst 0 ys : Nat) : Int))) = manyI (cnt (sel ys ((lst 0 ys : Nat) : Int))) + 1 := by
    rw [sel_snoc_eq, many_snoc _ _ (sel_lt hy _) hx (Nat.lt_of_le_of_lt (sel_len _ _) hl), if_pos (by rw [cnt_zero_iff _ _ hx]; exact h)]
  refine ⟨⟨by rw [List.length_set]; exact hs.1, fun c z hc' hz => ?_⟩, ⟨by rw [List.length_set]; exact hm.1, fun c hc' => ?_⟩, ?_⟩
  · rw [set_getD_B _ _ _ _ (by rw [hs.1]; omega), hs.2 c z hc' hz]
    by_cases e : c = lst 0 ys
    · subst e
      rw [sel_snoc_eq]
      by_cases ez : z = x
      · subst ez; simp
      · rw [if_neg (by omega)]; simp [ez]
    · rw [sel_snoc_ne _ _ _ e, if_neg (by omega)]
  · rw [set_getD _ _ _ _ (by rw [hm.1]; exact hc)]
    by_cases e : c = lst 0 ys
    · subst e; rw [if_pos rfl, hmany, hm.2 _ hc]; omega
    · rw [if_neg (fun h => e h.symm), sel_snoc_ne _ _ _ e, hm.2 c hc']
  · rw [wid_snoc ys x hy hx hl hc, hmany, hm.2 _ hc]; omega

theorem ManyOk.bound {ys : List Nat} {ms : List Int} (h : ManyOk ys ms) (c : Nat) (hc : c < 256) : 0 ≤ ms.getD c 0 ∧ ms.getD c 0 ≤ 256 := by
  rw [h.2 c hc]
  have := manyI_le (cnt (sel ys (c : Int)))
  omega

/-- twice, and again -/
def dbl : Nat → List Value → List Value
  | 0, l => l
  | n + 1, l => dbl n l ++ dbl n l
theorem dbl_rep (n m : Nat) (v : Value) : dbl n (List.replicate m v) = List.replicate (2 ^ n * m) v := by
  induction n with
  | zero => simp [dbl]
  | succ n ih => rw [dbl, ih, List.replicate_append_replicate, Nat.pow_succ]; congr 1; rw [Nat.mul_assoc, Nat.mul_comm 2 m, ← Nat.mul_assoc]; omega

end Go.Proofs.Ythghlfghdmifoaa

/- Plain mathematics of chapter 16: models. -/
namespace Go.Proofs.Ythghlfghdmifoaa
open Go

/-- a model -/
structure Md where
  log : Int
  one : Bool
  cs : List (List Int)
def md0 : Md := ⟨0, false, []⟩

/-- is a list of the log? -/
def okL (log : Int) (one : Bool) (l : List Int) : Prop := (l = [] ∧ one = false) ∨ ((logI (totalI l) : Nat) : Int) = log
instance okL_dec (log : Int) (one : Bool) (l : List Int) : Decidable (okL log one l) := by unfold okL; infer_instance
def Md.right (m : Md) : Prop := (1 ≤ m.log ∧ m.log ≤ 12) ∧ m.cs.length = (if m.one then 1 else 256) ∧ ∀ l ∈ m.cs, okL m.log m.one l
instance right_dec (m : Md) : Decidable m.right := by unfold Md.right; infer_instance
/-- the list of a context -/
def Md.atL (m : Md) (c : Int) : List Int := if m.right ∧ 0 ≤ c ∧ c ≤ 255 then (if m.one then m.cs.getD 0 [] else m.cs.getD c.toNat []) else []
/-- is the i-th byte expected? -/
def Md.fitAt (m : Md) (xs : List Nat) (i : Nat) : Prop := m.atL (((0 :: xs).getD i 0 : Nat) : Int) ≠ [] ∧ (m.atL (((0 :: xs).getD i 0 : Nat) : Int)).getD (xs.getD i 0) 0 ≠ 0
instance fitAt_dec (m : Md) (xs : List Nat) (i : Nat) : Decidable (m.fitAt xs i) := by unfold Md.fitAt; infer_instance
def Md.fits (m : Md) (xs : List Nat) : Prop := m.right ∧ ∀ i, i < xs.length → m.fitAt xs i
instance fits_dec (m : Md) (xs : List Nat) : Decidable (m.fits xs) := by unfold Md.fits; infer_instance

/-- the model of all bytes -/
def zeroLog (xs : List Nat) : Int := pickI (xs.length : Int) ((manyI (cnt xs) : Nat) : Int) 11
def zeroM (xs : List Nat) : Md := ⟨zeroLog xs, true, [normR (cnt xs) (zeroLog xs)]⟩
/-- the model by contexts -/
def firstLog (xs : List Nat) : Int := pickI (xs.length : Int) ((widest xs : Nat) : Int) 9
def ctxL (xs : List Nat) (r : Int) (c : Nat) : List Int := if 0 < (sel xs (c : Int)).length then normR (cnt (sel xs (c : Int))) r else []
def firstM (xs : List Nat) : Md := ⟨firstLog xs, false, (List.range 256).map (ctxL xs (firstLog xs))⟩
theorem firstM_at (xs : List Nat) (c : Nat) (h : c < 256) : (firstM xs).cs.getD c [] = ctxL xs (firstLog xs) c := by
  simp [firstM, List.getD_eq_getElem?_getD, h]

/-- normalized counts' own total and log -/
theorem normR_right {c : List Int} {r : Int} (h : normOk c r) : isRight (normR c r) ∧ totalI (normR c r) = ((2 ^ r.toNat : Nat) : Int) ∧ logI (totalI (normR c r)) = r.toNat := by
  have hf := h.fit
  have hp := pow12 (k := r.toNat) (by have := h.2.2.2.1; omega)
  have hs := norm_sum hf
  have hr : isRight (normR c r) := ⟨norm_len hf, norm_nonneg hf, by unfold normR; rw [hs]; omega⟩
  have ht : totalI (normR c r) = ((2 ^ r.toNat : Nat) : Int) := by
    unfold totalI; rw [if_pos hr]; exact hs
  refine ⟨hr, ht, ?_⟩
  rw [ht]
  exact logI_pow (by have := h.2.2.1; omega) (by have := h.2.2.2.1; omega)
theorem normR_log {c : List Int} {r : Int} (h : normOk c r) : ((logI (totalI (normR c r)) : Nat) : Int) = r := by
  rw [(normR_right h).2.2]; have := h.2.2.1; omega
theorem normR_ne {c : List Int} {r : Int} (h : normOk c r) : normR c r ≠ [] := fun he => by
  have := (normR_right h).1.1
  rw [he] at this; simp at this

theorem log_right {l : List Int} (h : 0 < logI (totalI l)) : isRight l ∧ l.length = 256 := by
  by_cases hr : isRight l
  · exact ⟨hr, hr.1⟩
  · exfalso
    have : totalI l = 0 := by unfold totalI; rw [if_neg hr]
    rw [this] at h
    have : logI 0 = 0 := logI_none fun r _ _ he => by have := Nat.two_pow_pos r; omega
    omega

theorem pick_top {n m t : Int} (_hm : 1 ≤ m) (hm2 : m ≤ 256) (ht : 5 ≤ t) : pickI n m t ≤ max t 8 := by
  have hc : ceilI m ≤ 8 := by
    have := ceil_mono hm2
    have h8 : ceilI (256 : Int) = 8 := ceil_at 8
    omega
  unfold pickI
  omega

/-- of some bytes the log serves -/
theorem zero_ok (xs : List Nat) (hx : ∀ x ∈ xs, x < 256) (hl : xs.length ≤ 1073741824) (h0 : 0 < xs.length) : normOk (cnt xs) (zeroLog xs) ∧ 5 ≤ zeroLog xs ∧ zeroLog xs ≤ 11 := by
  obtain ⟨x, hxm⟩ := List.exists_mem_of_length_pos h0
  have hr := cnt_right xs hx hl
  have ht := tot_cnt xs hx
  have hm : 0 < manyI (cnt xs) := many_pos xs x hxm hx hl
  have hm2 := manyI_le (cnt xs)
  have h5 := pick_ge5 (xs.length : Int) ((manyI (cnt xs) : Nat) : Int) 11
  have h11 := pick_top (n := (xs.length : Int)) (m := ((manyI (cnt xs) : Nat) : Int)) (t := 11) (by omega) (by omega) (by omega)
  have hrm := (pick_room (n := (xs.length : Int)) (m := ((manyI (cnt xs) : Nat) : Int)) (t := 11) (by omega) (by omega) (zeroLog xs).toNat (by unfold zeroLog; omega)).1
  have hmp : manyI (cnt xs) = pos (cnt xs) := by unfold manyI; rw [if_pos hr]
  have hz : zeroLog xs = pickI (xs.length : Int) ((manyI (cnt xs) : Nat) : Int) 11 := rfl
  rw [hmp] at hrm
  exact ⟨⟨hr, by omega, by omega, by omega, hrm⟩, by omega, by omega⟩
theorem first_ok (xs : List Nat) (hx : ∀ x ∈ xs, x < 256) (hl : xs.length ≤ 1073741824) (c : Nat) (hc : c < 256) (h0 : 0 < (sel xs (c : Int)).length) : normOk (cnt (sel xs (c : Int))) (firstLog xs) := by
  obtain ⟨x, hxm⟩ := List.exists_mem_of_length_pos h0
  have hsl := sel_len xs (c : Int)
  have hr := cnt_right (sel xs (c : Int)) (sel_lt hx _) (by omega)
  have ht := tot_cnt (sel xs (c : Int)) (sel_lt hx _)
  have hm : 0 < manyI (cnt (sel xs (c : Int))) := many_pos _ x hxm (sel_lt hx _) (by omega)
  have hw : manyI (cnt (sel xs (c : Int))) ≤ widest xs := wid_ge xs 256 c hc
  have hw2 := wid_le xs 256
  have hwe : widest xs = wid xs 256 := rfl
  have h5 := pick_ge5 (xs.length : Int) ((widest xs : Nat) : Int) 9
  have h9 := pick_top (n := (xs.length : Int)) (m := ((widest xs : Nat) : Int)) (t := 9) (by omega) (by omega) (by omega)
  have hrm := (pick_room (n := (xs.length : Int)) (m := ((widest xs : Nat) : Int)) (t := 9) (by omega) (by omega) (firstLog xs).toNat (by unfold firstLog; omega)).1
  have hmp : manyI (cnt (sel xs (c : Int))) = pos (cnt (sel xs (c : Int))) := by unfold manyI; rw [if_pos hr]
  have hz : firstLog xs = pickI (xs.length : Int) ((widest xs : Nat) : Int) 9 := rfl
  rw [hmp] at hw
  exact ⟨hr, by omega, by omega, by omega, by omega⟩
theorem firstLog_bounds (xs : List Nat) (hx : ∀ x ∈ xs, x < 256) (hl : xs.length ≤ 1073741824) (h0 : 0 < xs.length) : 5 ≤ firstLog xs ∧ firstLog xs ≤ 9 := by
  have hw := (widest_pos xs hx hl).2 h0
  have hw2 := wid_le xs 256
  have hwe : widest xs = wid xs 256 := rfl
  have h5 := pick_ge5 (xs.length : Int) ((widest xs : Nat) : Int) 9
  have h9 := pick_top (n := (xs.length : Int)) (m := ((widest xs : Nat) : Int)) (t := 9) (by omega) (by omega) (by omega)
  have hz : firstLog xs = pickI (xs.length : Int) ((widest xs : Nat) : Int) 9 := rfl
  omega

theorem zero_right (xs : List Nat) (hx : ∀ x ∈ xs, x < 256) (hl : xs.length ≤ 1073741824) (h0 : 0 < xs.length) : (zeroM xs).right := by
  obtain ⟨h1, h2, h3⟩ := zero_ok xs hx hl h0
  refine ⟨⟨by show 1 ≤ zeroLog xs; omega, by show zeroLog xs ≤ 12; omega⟩, rfl, fun l hl => ?_⟩
  have he : l = normR (cnt xs) (zeroLog xs) := List.mem_singleton.1 hl
  rw [he]
  show okL (zeroLog xs) true _
  exact .inr (normR_log h1)
theorem first_right (xs : List Nat) (hx : ∀ x ∈ xs, x < 256) (hl : xs.length ≤ 1073741824) (h0 : 0 < xs.length) : (firstM xs).right := by
  obtain ⟨h2, h3⟩ := firstLog_bounds xs hx hl h0
  refine ⟨⟨by show 1 ≤ firstLog xs; omega, by show firstLog xs ≤ 12; omega⟩, by simp [firstM], fun l hl => ?_⟩
  simp only [firstM, List.mem_map, List.mem_range] at hl
  obtain ⟨c, hc, rfl⟩ := hl
  unfold ctxL
  by_cases hs : 0 < (sel xs (c : Int)).length
  · rw [if_pos hs]; exact .inr (normR_log (first_ok xs hx (by assumption) c hc hs))
  · rw [if_neg hs]; exact .inl ⟨rfl, rfl⟩
theorem zero_at (xs : List Nat) (hx : ∀ x ∈ xs, x < 256) (hl : xs.length ≤ 1073741824) (h0 : 0 < xs.length) (c : Int) (hc : 0 ≤ c ∧ c ≤ 255) : (zeroM xs).atL c = normR (cnt xs) (zeroLog xs) := by
  unfold Md.atL
  rw [if_pos ⟨zero_right xs hx hl h0, hc.1, hc.2⟩]
  obtain ⟨q, hq⟩ : ∃ q, normR (cnt xs) (zeroLog xs) = q := ⟨_, rfl⟩
  unfold zeroM
  rw [hq]
  simp
theorem first_at (xs : List Nat) (hx : ∀ x ∈ xs, x < 256) (hl : xs.length ≤ 1073741824) (h0 : 0 < xs.length) (c : Nat) (hc : c < 256) : (firstM xs).atL (c : Int) = ctxL xs (firstLog xs) c := by
  unfold Md.atL
  rw [if_pos ⟨first_right xs hx hl h0, by omega, by omega⟩, Int.toNat_natCast, if_neg (by simp [firstM]), firstM_at xs c hc]

/-- a byte has a count just where it comes -/
theorem normR_pos {ys : List Nat} {r : Int} (h : normOk (cnt ys) r) (v : Nat) (hv : v < 256) : (0 < (normR (cnt ys) r).getD v 0 ↔ v ∈ ys) ∧ 0 ≤ (normR (cnt ys) r).getD v 0 := by
  have hp := norm_pos h.fit v hv
  refine ⟨?_, hp.1⟩
  unfold normR
  rw [hp.2, cnt_getD ys v hv, ← List.count_pos_iff]
  omega

theorem ahead_lt {xs : List Nat} (hx : ∀ x ∈ xs, x < 256) (i : Nat) : (0 :: xs).getD i 0 < 256 := by
  rcases Nat.lt_or_ge i (0 :: xs).length with h | h
  · rw [List.getD_eq_getElem?_getD, List.getElem?_eq_getElem h]
    have := List.getElem_mem h
    rcases List.mem_cons.1 this with h1 | h1
    · rw [Option.getD_some, h1]; omega
    · exact hx _ h1
  · rw [List.getD_eq_getElem?_getD, List.getElem?_eq_none h]; simp
/-- each byte is among those behind what stands ahead of it -/
theorem sel_own (xs : List Nat) (i : Nat) (h : i < xs.length) : xs.getD i 0 ∈ sel xs (((0 :: xs).getD i 0 : Nat) : Int) := by
  have h1 := sel_take_succ xs i h (((0 :: xs).getD i 0 : Nat) : Int)
  rw [if_pos rfl] at h1
  have h2 : xs.getD i 0 ∈ sel (xs.take (i + 1)) (((0 :: xs).getD i 0 : Nat) : Int) := by rw [h1]; simp
  have h3 : sel xs (((0 :: xs).getD i 0 : Nat) : Int) = sel (xs.take (i + 1)) (((0 :: xs).getD i 0 : Nat) : Int) ++ selP (prs (lst 0 (xs.take (i + 1))) (xs.drop (i + 1))) (((0 :: xs).getD i 0 : Nat) : Int) := by
    have := prs_append 0 (xs.take (i + 1)) (xs.drop (i + 1))
    rw [List.take_append_drop] at this
    unfold sel
    rw [this, selP_append]
  rw [h3]
  exact List.mem_append_left _ h2

theorem zero_fits (xs : List Nat) (hx : ∀ x ∈ xs, x < 256) (hl : xs.length ≤ 1073741824) (h0 : 0 < xs.length) : (zeroM xs).fits xs := by
  refine ⟨zero_right xs hx hl h0, fun i hi => ?_⟩
  have hc := ahead_lt hx i
  obtain ⟨h1, _⟩ := zero_ok xs hx hl h0
  have hm : xs.getD i 0 ∈ xs := by rw [List.getD_eq_getElem?_getD, List.getElem?_eq_getElem hi]; exact List.getElem_mem _
  unfold Md.fitAt
  rw [zero_at xs hx hl h0 _ (by omega)]
  have := (normR_pos h1 (xs.getD i 0) (hx _ hm)).1.2 hm
  exact ⟨normR_ne h1, by omega⟩
theorem first_fits (xs : List Nat) (hx : ∀ x ∈ xs, x < 256) (hl : xs.length ≤ 1073741824) (h0 : 0 < xs.length) : (firstM xs).fits xs := by
  refine ⟨first_right xs hx hl h0, fun i hi => ?_⟩
  have hc := ahead_lt hx i
  have hm : xs.getD i 0 ∈ xs := by rw [List.getD_eq_getElem?_getD, List.getElem?_eq_getElem hi]; exact List.getElem_mem _
  have hs := sel_own xs i hi
  unfold Md.fitAt
  obtain ⟨c, hce⟩ : ∃ c, (0 :: xs).getD i 0 = c := ⟨_, rfl⟩
  rw [hce] at hs hc ⊢
  have h1 := first_ok xs hx hl c hc (List.length_pos_of_mem hs)
  rw [first_at xs hx hl h0 c hc]
  unfold ctxL
  rw [if_pos (List.length_pos_of_mem hs)]
  have := (normR_pos h1 (xs.getD i 0) (hx _ hm)).1.2 hs
  exact ⟨normR_ne h1, by omega⟩

/-- a beginning fits too -/
theorem Md.fits.take {m : Md} {xs : List Nat} (h : m.fits xs) (k : Nat) : m.fits (xs.take k) := by
  refine ⟨h.1, fun i hi => ?_⟩
  rw [List.length_take] at hi
  have := h.2 i (by omega)
  unfold Md.fitAt at this ⊢
  have e1 : (xs.take k).getD i 0 = xs.getD i 0 := by simp only [List.getD_eq_getElem?_getD, List.getElem?_take, if_pos (show i < k by omega)]
  have e2 : (0 :: xs.take k).getD i 0 = (0 :: xs).getD i 0 := by
    cases i with
    | zero => rfl
    | succ i =>
      rw [List.getD_cons_succ, List.getD_cons_succ]
      simp only [List.getD_eq_getElem?_getD, List.getElem?_take, if_pos (show i < k by omega)]
  rw [e1, e2]; exact this
/-- a byte more -/
theorem fits_more {m : Md} {xs : List Nat} (h : m.fits xs) (h0 : 0 < xs.length) (x : Nat) : m.fits (xs ++ [x]) ↔ (m.atL ((xs.getD (xs.length - 1) 0 : Nat) : Int) ≠ [] ∧ (m.atL ((xs.getD (xs.length - 1) 0 : Nat) : Int)).getD x 0 ≠ 0) := by
  have e1 : (xs ++ [x]).getD xs.length 0 = x := by simp [List.getD_eq_getElem?_getD]
  have e2 : (0 :: (xs ++ [x])).getD xs.length 0 = xs.getD (xs.length - 1) 0 := by
    obtain ⟨n, hn⟩ : ∃ n, xs.length = n + 1 := ⟨xs.length - 1, by omega⟩
    rw [hn, List.getD_cons_succ, List.getD_eq_getElem?_getD, List.getElem?_append_left (by omega), ← List.getD_eq_getElem?_getD]; rfl
  constructor
  · intro hf
    have := hf.2 xs.length (by simp)
    unfold Md.fitAt at this
    rw [e1, e2] at this
    exact this
  · intro hf
    refine ⟨h.1, fun i hi => ?_⟩
    rw [List.length_append, List.length_singleton] at hi
    by_cases hlt : i < xs.length
    · have := h.2 i hlt
      unfold Md.fitAt at this ⊢
      have e3 : (xs ++ [x]).getD i 0 = xs.getD i 0 := by rw [List.getD_eq_getElem?_getD, List.getElem?_append_left hlt, ← List.getD_eq_getElem?_getD]
      have e4 : (0 :: (xs ++ [x])).getD i 0 = (0 :: xs).getD i 0 := by
        cases i with
        | zero => rfl
        | succ i => rw [List.getD_cons_succ, List.getD_cons_succ, List.getD_eq_getElem?_getD, List.getElem?_append_left (by omega), ← List.getD_eq_getElem?_getD]
      rw [e3, e4]; exact this
    · obtain rfl : i = xs.length := by omega
      unfold Md.fitAt
      rw [e1, e2]
      exact hf

/-- turned round they have the same counts -/
theorem cnt_turn (xs : List Nat) (k : Nat) : cnt (xs.drop k ++ xs.take k) = cnt xs := by
  rw [cnt_append, addL_comm, ← cnt_append, List.take_append_drop]
theorem zero_turn (xs : List Nat) (k : Nat) (hk : k ≤ xs.length) : zeroM (xs.drop k ++ xs.take k) = zeroM xs := by
  have hl : (xs.drop k ++ xs.take k).length = xs.length := by simp; omega
  unfold zeroM zeroLog
  rw [cnt_turn, hl]

/-- each one twice -/
def twice (xs : List Nat) : List Nat := xs.flatMap fun x => [x, x]
theorem twice_take (xs : List Nat) (k : Nat) (h : k < xs.length) : twice (xs.take (k + 1)) = twice (xs.take k) ++ [xs.getD k 0, xs.getD k 0] := by
  rw [List.take_succ_eq_append_getElem h, List.getD_eq_getElem?_getD, List.getElem?_eq_getElem h]
  unfold twice
  rw [List.flatMap_append]; rfl
theorem twice_length (xs : List Nat) : (twice xs).length = xs.length * 2 := by
  induction xs with
  | nil => rfl
  | cons x r ih => simp [twice] at ih ⊢; omega
theorem twice_lt {xs : List Nat} (hx : ∀ x ∈ xs, x < 256) : ∀ x ∈ twice xs, x < 256 := by
  intro x h
  simp only [twice, List.mem_flatMap] at h
  obtain ⟨y, hy, h⟩ := h
  simp at h
  rw [h]; exact hx y hy
theorem twice_get (xs : List Nat) (k : Nat) (h : k < xs.length) : (twice xs).getD (k * 2) 0 = xs.getD k 0 ∧ (twice xs).getD (k * 2 + 1) 0 = xs.getD k 0 := by
  induction xs generalizing k with
  | nil => simp at h
  | cons x r ih =>
    have e : twice (x :: r) = x :: x :: twice r := by simp [twice]
    rw [e]
    cases k with
    | zero => exact ⟨rfl, rfl⟩
    | succ k =>
      have := ih k (by simpa using h)
      rw [show (k + 1) * 2 = k * 2 + 1 + 1 by omega]
      simp only [List.getD_cons_succ]
      exact this
/-- who stands twice in a row comes behind itself -/
theorem twice_own (xs : List Nat) (k : Nat) (h : k < xs.length) : xs.getD k 0 ∈ sel (twice xs) ((xs.getD k 0 : Nat) : Int) := by
  have hs := sel_own (twice xs) (k * 2 + 1) (by rw [twice_length]; omega)
  obtain ⟨h1, h2⟩ := twice_get xs k h
  rw [h2, List.getD_cons_succ, h1] at hs
  exact hs

end Go.Proofs.Ythghlfghdmifoaa
