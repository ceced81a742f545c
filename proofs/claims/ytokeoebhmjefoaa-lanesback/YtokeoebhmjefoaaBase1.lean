/- Texts that other texts of this claim rest on, one behind the other (BwMath BwBase LnRnd BwPut BwPutB BwPutC BwTell BwSame OpGen HsMath BrMath BrRead BrNew BrAwake BrSplits HsBase LnRev SpMath LgMath DtMath EtMath CxMath LnMath). -/
import Derived.WalkKit
import Derived.Test.YtokeoebhmjefoaaRows
import Derived.WalkSpells
import Derived.WalkLawsBesides
import Derived.RegionTactic
import Derived.ChangeAlike
import Derived.Deep.QuietTactic
import Derived.BigQuiet
import Derived.StillTailTactics
import Derived.Laws.CopyOwn
import Derived.Lib.Hide
import Derived.Deep.AppendLies
import Derived.RangeFuncLeaves
import Derived.RangeFuncRecord
import Derived.RangeFuncSeq
import Derived.RangeFuncOwn
import Derived.RangeFuncCalls
import Derived.OrdersHeld
import Derived.OrdersIn
import Derived.Deep.RegionHeld
import Derived.Laws.BytesArg
import Derived.ProofKit
import Derived.OpenShut
import Derived.ShutString
import Derived.ChangeOld
import Derived.Below
import Derived.Deep.SlicePairs
import Derived.Laws.MathBits
import Derived.Shelf.Abstract
import Derived.Shelf.RegionOpen
import Derived.RangeFuncNested
import Derived.RangeFuncBound
import Derived.OwnWalkIn
import Derived.TacticsInMore
import Derived.LoopNIn
import Derived.LoopIn
/- Plain mathematics of bits in bytes (no program): a list of bits, the first one lowest, eight to a byte. -/
namespace Go.Proofs.Ytokeoebhmjefoaa

def val : List Bool → Nat
  | [] => 0
  | b :: r => b.toNat + 2 * val r

theorem val_lt (l : List Bool) : val l < 2 ^ l.length := by
  induction l with
  | nil => simp [val]
  | cons b r ih =>
    simp only [val, List.length_cons, Nat.pow_succ]
    cases b <;> simp <;> omega

theorem val_append (a b : List Bool) : val (a ++ b) = val a + 2 ^ a.length * val b := by
  induction a with
  | nil => simp [val]
  | cons x r ih =>
    simp only [val, List.cons_append, List.length_cons, Nat.pow_succ, ih]
    rw [Nat.mul_add, Nat.mul_comm (2 ^ r.length) 2, ← Nat.mul_assoc]
    omega

def byteAt (l : List Bool) (j : Nat) : Nat := val ((l.drop (8 * j)).take 8)
def pack (l : List Bool) : List Nat := (List.range ((l.length + 7) / 8)).map (byteAt l)

theorem pack_length (l : List Bool) : (pack l).length = (l.length + 7) / 8 := by simp [pack]

theorem byteAt_lt (l : List Bool) (j : Nat) : byteAt l j < 256 := by
  have h := val_lt ((l.drop (8 * j)).take 8)
  have h2 : ((l.drop (8 * j)).take 8).length ≤ 8 := by simp; omega
  have h3 : 2 ^ ((l.drop (8 * j)).take 8).length ≤ 2 ^ 8 := Nat.pow_le_pow_right (by omega) h2
  unfold byteAt; omega

theorem byteAt_last_lt (l : List Bool) : byteAt l (l.length / 8) < 2 ^ (l.length % 8) := by
  have h := val_lt ((l.drop (8 * (l.length / 8))).take 8)
  have h2 : ((l.drop (8 * (l.length / 8))).take 8).length = l.length % 8 := by simp; omega
  unfold byteAt; rw [h2] at h; exact h

theorem pack_getElem (l : List Bool) (j : Nat) (h : j < (pack l).length) : (pack l)[j] = byteAt l j := by simp [pack]

theorem pack_getElem? (l : List Bool) (j : Nat) (h : j < (l.length + 7) / 8) : (pack l)[j]? = some (byteAt l j) := by
  rw [List.getElem?_eq_getElem (by rw [pack_length]; exact h), pack_getElem]

theorem pack_lt (l : List Bool) : ∀ x ∈ pack l, x < 256 := by
  intro x hx
  simp only [pack, List.mem_map] at hx
  obtain ⟨j, _, rfl⟩ := hx
  exact byteAt_lt l j

theorem byteAt_append_left (a b : List Bool) (j : Nat) (h : 8 * j + 8 ≤ a.length) : byteAt (a ++ b) j = byteAt a j := by
  unfold byteAt
  rw [List.drop_append_of_le_length (by omega), List.take_append_of_le_length (by simp; omega)]

theorem byteAt_append_right (a b : List Bool) (j k : Nat) (h : a.length = 8 * k) : byteAt (a ++ b) (k + j) = byteAt b j := by
  unfold byteAt
  rw [List.drop_append, List.drop_eq_nil_of_le (by omega), List.nil_append]
  congr 2
  rw [h]; congr 1; omega

theorem byteAt_snoc (l : List Bool) (b : Bool) : byteAt (l ++ [b]) (l.length / 8) = byteAt l (l.length / 8) + b.toNat * 2 ^ (l.length % 8) := by
  unfold byteAt
  have e1 : ((l ++ [b]).drop (8 * (l.length / 8))).take 8 = (l.drop (8 * (l.length / 8))) ++ [b] := by
    rw [List.drop_append_of_le_length (by omega), List.take_of_length_le (by simp; omega)]
  have e2 : (l.drop (8 * (l.length / 8))).take 8 = l.drop (8 * (l.length / 8)) := List.take_of_length_le (by simp; omega)
  rw [e1, e2, val_append]
  have e3 : (l.drop (8 * (l.length / 8))).length = l.length % 8 := by simp; omega
  rw [e3]; simp [val, Nat.mul_comm]

theorem pack_snoc_new (l : List Bool) (b : Bool) (h : l.length % 8 = 0) : pack (l ++ [b]) = pack l ++ [b.toNat] := by
  have hb := byteAt_snoc l b
  have h0 := byteAt_last_lt l
  rw [h] at hb h0
  have e : (pack (l ++ [b])).length = (pack l).length + 1 := by simp [pack_length]; omega
  apply List.ext_getElem (by simp [e])
  intro j h1 h2
  rw [pack_getElem]
  rw [pack_length] at h1
  simp only [List.length_append, List.length_singleton] at h1
  by_cases hj : j < l.length / 8
  · rw [List.getElem_append_left (by rw [pack_length]; omega), pack_getElem, byteAt_append_left _ _ _ (by omega)]
  · have : j = l.length / 8 := by omega
    subst this
    rw [List.getElem_append_right (by rw [pack_length]; omega)]
    simp only [List.getElem_singleton]; rw [hb]; simp at h0; simp [h0]

theorem pack_snoc_old (l : List Bool) (b : Bool) (h : l.length % 8 ≠ 0) :
    pack (l ++ [b]) = (pack l).set (l.length / 8) (byteAt l (l.length / 8) + b.toNat * 2 ^ (l.length % 8)) := by
  have hb := byteAt_snoc l b
  apply List.ext_getElem (by simp [pack_length]; omega)
  intro j h1 h2
  rw [pack_getElem]
  rw [pack_length] at h1
  simp only [List.length_append, List.length_singleton] at h1
  by_cases hj : j = l.length / 8
  · subst hj; rw [List.getElem_set_self, hb]
  · rw [List.getElem_set_ne (by omega), pack_getElem, byteAt_append_left _ _ _ (by omega)]

theorem pack_append (a b : List Bool) (h : a.length % 8 = 0) : pack (a ++ b) = pack a ++ pack b := by
  apply List.ext_getElem (by simp [pack_length]; omega)
  intro j h1 h2
  rw [pack_getElem]
  rw [pack_length] at h1
  simp only [List.length_append] at h1
  by_cases hj : j < a.length / 8
  · rw [List.getElem_append_left (by rw [pack_length]; omega), pack_getElem, byteAt_append_left _ _ _ (by omega)]
  · rw [List.getElem_append_right (by rw [pack_length]; omega), pack_getElem]
    have e := byteAt_append_right a b (j - a.length / 8) (a.length / 8) (by omega)
    rw [show a.length / 8 + (j - a.length / 8) = j from by omega] at e
    rw [e, pack_length]; congr 1; omega

/-- the n lowest bits of v, the lowest first -/
def bitsOf (v : Nat) : Nat → List Bool
  | 0 => []
  | n + 1 => bitsOf v n ++ [decide (v / 2 ^ n % 2 = 1)]

theorem bitsOf_length (v n : Nat) : (bitsOf v n).length = n := by induction n with
  | zero => rfl
  | succ n ih => simp [bitsOf, ih]

theorem bitsOf_getElem (v n i : Nat) (h : i < (bitsOf v n).length) : (bitsOf v n)[i] = decide (v / 2 ^ i % 2 = 1) := by
  induction n with
  | zero => simp [bitsOf] at h
  | succ n ih =>
    simp only [bitsOf]
    by_cases hi : i < n
    · rw [List.getElem_append_left (by rw [bitsOf_length]; exact hi)]; exact ih _
    · have : i = n := by simp [bitsOf_length] at h; omega
      subst this
      rw [List.getElem_append_right (by rw [bitsOf_length]; omega)]; simp [bitsOf_length]

theorem bitsOf_split (v k c : Nat) (h : c ≤ k) : bitsOf v k = bitsOf v c ++ bitsOf (v / 2 ^ c) (k - c) := by
  apply List.ext_getElem (by simp [bitsOf_length]; omega)
  intro i h1 h2
  rw [bitsOf_length] at h1
  rw [bitsOf_getElem]
  by_cases hi : i < c
  · rw [List.getElem_append_left (by rw [bitsOf_length]; exact hi), bitsOf_getElem]
  · rw [List.getElem_append_right (by rw [bitsOf_length]; omega), bitsOf_getElem, bitsOf_length, Nat.div_div_eq_div_mul, ← Nat.pow_add]
    rw [show c + (i - c) = i from by omega]

theorem bitsOf_congr (u v k : Nat) (h : ∀ i, i < k → u / 2 ^ i % 2 = v / 2 ^ i % 2) : bitsOf u k = bitsOf v k := by
  apply List.ext_getElem (by simp [bitsOf_length])
  intro i h1 h2
  rw [bitsOf_length] at h1
  rw [bitsOf_getElem, bitsOf_getElem, h i h1]

/-- what Put does to the bits -/
def putB (bs : List Bool) (v : Nat) (n : Int) : List Bool := if 0 ≤ n ∧ n ≤ 24 then bs ++ bitsOf v n.toNat else bs

theorem putB_length (bs : List Bool) (v : Nat) (n : Int) : bs.length ≤ (putB bs v n).length ∧ (putB bs v n).length ≤ bs.length + 24 := by
  unfold putB; split
  · simp [bitsOf_length]; omega
  · omega

/-- the mark: behind the bits there is a 1, and above it nothing -/
theorem mark_byte (l : List Bool) : byteAt (l ++ [true]) (l.length / 8) / 2 ^ (l.length % 8) = 1 := by
  rw [byteAt_snoc]
  have h := byteAt_last_lt l
  have hp : 0 < 2 ^ (l.length % 8) := Nat.pow_pos (by omega)
  simp only [Bool.toNat_true, Nat.one_mul]
  rw [Nat.add_div_right _ hp, Nat.div_eq_of_lt h]

end Go.Proofs.Ytokeoebhmjefoaa

/- The relation 'only the blocks of S may have turned', a Writer in memory, and what bitw.setBit does. -/
namespace Go.Proofs.Ytokeoebhmjefoaa
open Go.RowKit

/-- Only blocks of S, and new ones, may have turned. -/
structure Chg (S : Nat → Prop) (w w' : World) : Prop where
  os : w'.os = w.os
  tape : w'.tape = w.tape
  output : w'.output = w.output
  size : w.heap.size ≤ w'.heap.size
  block : ∀ k, k < w.heap.size → ¬ S k → w'.heap[k]? = w.heap[k]?

theorem Chg.refl (S : Nat → Prop) (w : World) : Chg S w w := ⟨rfl, rfl, rfl, Nat.le_refl _, fun _ _ _ => rfl⟩
theorem Chg.trans {S T : Nat → Prop} {a b c : World} (h : Chg S a b) (k : Chg T b c) (hT : ∀ k, k < a.heap.size → T k → S k) : Chg S a c :=
  ⟨k.os.trans h.os, k.tape.trans h.tape, k.output.trans h.output, Nat.le_trans h.size k.size,
    fun i hi hs => (k.block i (Nat.lt_of_lt_of_le hi h.size) (fun ht => hs (hT i hi ht))).trans (h.block i hi hs)⟩
theorem Chg.mono {S T : Nat → Prop} {a b : World} (h : Chg S a b) (hT : ∀ k, k < a.heap.size → S k → T k) : Chg T a b :=
  ⟨h.os, h.tape, h.output, h.size, fun i hi hs => h.block i hi (fun hk => hs (hT i hi hk))⟩
theorem Chg.drew {S : Nat → Prop} {a b : World} (h : Chg S a b) : Chg S a b.drew := ⟨h.os, h.tape, h.output, h.size, h.block⟩
theorem Chg.drewN {S : Nat → Prop} {a b : World} (h : Chg S a b) (n : Nat) : Chg S a (b.drewN n) := ⟨h.os, h.tape, h.output, h.size, h.block⟩
theorem Chg.of_grown {w w' : World} {row : Option Nat} (h : w.grownBy w' row) : Chg (fun k => some k = row) w w' := ⟨h.os, h.tape, h.output, h.size, h.block⟩
theorem Chg.alloc (S : Nat → Prop) (w : World) (o : Obj) : Chg S w (w.alloc o) := ⟨rfl, rfl, rfl, by simp, fun k hk _ => Below.heap_alloc w o k hk⟩
theorem Chg.setCell (w : World) (a : Addr) (u : Value) : Chg (fun k => k = a.block) w (w.setCell a u) :=
  ⟨rfl, rfl, rfl, by simp [World.setCell], fun k _ hs => heap_setCell_other w a k u hs⟩
theorem Chg.of_below {w w' : World} (h : Below w.heap.size w w') : Chg (fun _ => False) w w' := ⟨h.os, h.tape, h.output, h.size, fun k hk _ => h.block k hk⟩
theorem Chg.below {S : Nat → Prop} {w w' : World} {B : Nat} (h : Chg S w w') (hB : B ≤ w.heap.size) (hS : ∀ k, k < B → ¬ S k) : Below B w w' :=
  ⟨h.os, h.tape, h.output, h.size, fun k hk => h.block k (by omega) (hS k hk)⟩
theorem Chg.own {S : Nat → Prop} {w w' : World} (h : Chg S w w') {base : Nat} {e : TypeId} {size : Nat} {v : Value} {n : Nat} {xs : List Value} (hown : w.ownsRow base e size v n xs)
    (hS : ∀ k, v.ownBlock = some k → ¬ S k) : w'.ownsRow base e size v n xs := by
  refine ⟨hown.1, ?_⟩
  rcases hown.2 with hn | ⟨g, cap, cur, rfl, hb, hgg, rest⟩
  · exact .inl hn
  · refine .inr ⟨g, cap, cur, rfl, hb, ?_, rest⟩
    rw [h.block g (Array.getElem?_eq_some_iff.1 hgg).1 (hS g rfl)]
    exact hgg

theorem ownsRow_mono {w : World} {base base' : Nat} {e : TypeId} {size : Nat} {v : Value} {n : Nat} {xs : List Value} (h : w.ownsRow base e size v n xs) (hb : base' ≤ base) : w.ownsRow base' e size v n xs := by
  refine ⟨h.1, ?_⟩
  rcases h.2 with hn | ⟨g, cap, cur, rfl, hb', rest⟩
  · exact .inl hn
  · exact .inr ⟨g, cap, cur, rfl, by omega, rest⟩

theorem ownsRow_base {w : World} {base base' : Nat} {e : TypeId} {size : Nat} {v : Value} {n : Nat} {xs : List Value} (h : w.ownsRow base e size v n xs) (hb : ∀ k, v.ownBlock = some k → base' ≤ k) : w.ownsRow base' e size v n xs := by
  refine ⟨h.1, ?_⟩
  rcases h.2 with hn | ⟨g, cap, cur, rfl, hb', rest⟩
  · exact .inl hn
  · exact .inr ⟨g, cap, cur, rfl, hb g rfl, rest⟩

/-- what each law's walk ends in -/
def Says (w : World) (e : Ending) (w' : World) : Prop := e = .returned (.bool true) ∧ Chg (fun _ => False) w w'

/-- bytes as values -/
def bv (xs : List Nat) : List Value := xs.map fun n : Nat => .int .u8 (n : Int)
theorem bv_length (xs : List Nat) : (bv xs).length = xs.length := by simp [bv]
theorem bv_set (xs : List Nat) (i n : Nat) : (bv xs).set i (.int .u8 (n : Int)) = bv (xs.set i n) := by simp [bv, List.map_set]
theorem bv_snoc (xs : List Nat) (n : Nat) : bv xs ++ [.int .u8 (n : Int)] = bv (xs ++ [n]) := by simp [bv]
theorem bv_get (xs : List Nat) (i : Nat) (h : i < xs.length) : (bv xs)[i]? = some (.int .u8 ((xs.getD i 0 : Nat) : Int)) := by
  simp [bv, List.getElem?_eq_getElem h]

theorem or_bit : ∀ k : Nat, k < 8 → ∀ x : Nat, x < 2 ^ k → bits .or .u8 (x : Int) ((2 : Int) ^ k % 256) = ((x + 2 ^ k : Nat) : Int) := by decide +kernel

theorem Try.infoU8 : (Try.prog.info? 5).map (fun i => (i.zero, i.size, i.bytes)) = some (some (.int .u8 0), 1, 1) := by kernel_rfl

set_option maxHeartbeats 400000 in
theorem setBit_any (g n cap i x : Nat) (w : World) (hc : w.cell? ⟨g, i / 8, none⟩ = some (.int .u8 (x : Int))) (hf : w.frozen? ⟨g, i / 8, none⟩ = false)
    (hi : i / 8 < n) (hi2 : i < 1000000000000) (hx : x < 2 ^ (i % 8)) :
    Calls Try.prog 46 #[.slice (some ⟨g, 0, none⟩) n cap, .int .i64 (i : Int)] w fun e w' => e = .returned (.tuple #[]) ∧ (w.setCell ⟨g, i / 8, none⟩ (.int .u8 ((x + 2 ^ (i % 8) : Nat) : Int))).drew = w' := by
  have H := Lib.hid (or_bit (i % 8) (by omega) x hx)
  have hx2 : 2 ^ (i % 8) ≤ 2 ^ 7 := Nat.pow_le_pow_right (by omega) (by omega)
  have hx0 : (0 : Int) ≤ x := by omega
  have hx1 : (x : Int) < 256 := by omega
  clear hx hx2
  go_enter Try.func46, Try.ntmps46
  go_wp2
  go_region
  all_goals (go_end0; exact ⟨rfl, by rw [H.out]⟩)

theorem setBit_row (base g n cap i : Nat) (xs : List Nat) (w : World) (hown : w.ownsRow base 5 1 (.slice (some ⟨g, 0, none⟩) n cap) n (bv xs))
    (hi : i / 8 < n) (hi2 : i < 1000000000000) (hx : xs.getD (i / 8) 0 < 2 ^ (i % 8)) :
    Calls Try.prog 46 #[.slice (some ⟨g, 0, none⟩) n cap, .int .i64 (i : Int)] w fun e w' => e = .returned (.tuple #[]) ∧
      w'.ownsRow base 5 1 (.slice (some ⟨g, 0, none⟩) n cap) n (bv (xs.set (i / 8) (xs.getD (i / 8) 0 + 2 ^ (i % 8)))) ∧ Chg (fun k => k = g) w w' := by
  have hlen : xs.length = n := by have := hown.1; simpa [bv] using this
  have hc := hown.cellAt (i / 8) (by omega)
  rw [bv_get xs (i / 8) (by omega)] at hc
  refine (setBit_any g n cap i (xs.getD (i / 8) 0) w hc (hown.frozenAt (i / 8)) hi hi2 hx).mono ?_
  rintro e w' ⟨rfl, rfl⟩
  have hs := hown.stored (i / 8) (.int .u8 ((xs.getD (i / 8) 0 + 2 ^ (i % 8) : Nat) : Int))
  rw [bv_set] at hs
  exact ⟨rfl, hs.1.drew, (Chg.setCell w ⟨g, i / 8, none⟩ _).drew⟩

end Go.Proofs.Ytokeoebhmjefoaa

/- A loop over an iterator whose rounds are known ahead ('for i, s := range slices.Backward(b)'): one law for the statement (the body never leaves the loop; it may make and turn whatever it likes but the loop's own two blocks); and: a region that draws its order, in a round, by the walk of all orders. -/
namespace Go.Proofs.Ytokeoebhmjefoaa
open Go.RowKit

/-- an iterator over N rounds that are known ahead, round r with the arguments 'args r': whatever J is kept by each round (and tells what the iterator reads) holds behind all of them -/
def Rounds (gf : Nat) (lb : Array Value) (args : Nat → Array Value) (N : Nat) (Rd : World → Prop) : Prop :=
  ∀ (l : Nat) (J : Nat → World → Prop) (W : World), (∀ r V, J r V → Rd V) →
    (∀ r V, J r V → r < N → YieldAt Fence.wide 0 Try.prog l (args r) V fun e V' => e = .returned (.bool true) ∧ J (r + 1) V') → J 0 W →
    CallsIn Fence.wide 0 Try.prog gf (#[.func (.yield l) #[] #[]] ++ lb) W fun e W' => (∃ v, e = .returned v) ∧ J N W'

/-- how a round's body ends: off its end; the loop's two blocks, D and D + 1, are as they were -/
def roundEnd (D : Nat) (I : World → Prop) (W : World) : Exit → Act → World → Prop
  | .normal, _, W' => I W' ∧ W'.heap[D]? = W.heap[D]? ∧ W'.heap[D + 1]? = W.heap[D + 1]?
  | _, _, _ => False

theorem chg_putObj (W : World) (l : Nat) (o : Obj) : Chg (fun k => k = l) W (W.putObj l o) :=
  (Chg.of_grown (grownBy_putObj' W l o)).mono fun k _ hk => by injection hk

theorem wp_rounds {g : Operand} {ps : Array Tmp} {assign body : Code} {Q : Exit → Act → World → Prop} {a : Act} {w : World} {gf : Nat} {lb : Array Value} {args : Nat → Array Value} {N : Nat} {Rd : World → Prop}
    (hg : a.eval g = .func (.func gf) #[] lb) (eg : ∀ args W, (callFunc gf args).run Try.prog W = .ok (.enter gf args) W) (hseq : Rounds gf lb args N Rd) (hps : ∀ r, (args r).size = ps.size)
    (I : Nat → World → Prop) (hrd : ∀ r W, I r W → Rd W) (hbook : ∀ r W W', I r W → w.heap.size + 2 ≤ W.heap.size → Chg (fun k => k = w.heap.size ∨ k = w.heap.size + 1) W W' → W'.heap.size = W.heap.size → I r W')
    (h0 : ∀ W, Chg (fun _ => False) w W → W.heap.size = w.heap.size + 2 → I 0 W) (a₁ : Nat → Act)
    (hassign : ∀ (l r : Nat) (W : World) (K : Act → World → Prop), K (a₁ r) W → assign.wpIn (Fence.wide.inRound l) 0 Try.prog (Exit.then K (fun _ _ _ => False)) { tmps := (ps.zip (args r)).foldl (fun t (p, v) => t.setIfInBounds p v) a.tmps, defers := [] } W)
    (hbody : ∀ (l r : Nat) (W : World), I r W → w.heap.size + 2 ≤ W.heap.size → r < N → body.wpIn (Fence.wide.inRound l) 0 Try.prog (roundEnd w.heap.size (I (r + 1)) W) (a₁ r) W)
    (hdone : ∀ W, I N W → W.heap[w.heap.size]? = some (.deferred (some [])) → Q .normal { a with defers := { target := .collected w.heap.size, args := #[] } :: a.defers } W) :
    (Code.rangeFunc g ps assign body).wpIn Fence.wide 0 Try.prog Q a w := by
  refine wpIn_rangeFunc fun fn _ => ?_
  obtain ⟨D, hD⟩ : ∃ D, w.heap.size = D := ⟨_, rfl⟩
  obtain ⟨rec, hrec⟩ : ∃ rec : LoopState → Loop, rec = fun st => { state := st, pending := none, fn, tmps := a.tmps, params := ps, assign, body, defers := D } := ⟨_, rfl⟩
  have hL : ((w.alloc (.deferred (some []))).alloc (.loop (rec .ready))).heap[D + 1]? = some (.loop (rec .ready)) := by
    have := World.alloc_heap_new (w.alloc (.deferred (some []))) (.loop (rec .ready))
    rwa [World.size_alloc, hD] at this
  have hK : ((w.alloc (.deferred (some []))).alloc (.loop (rec .ready))).heap[D]? = some (.deferred (some [])) := by
    rw [← hD]
    exact (Below.heap_alloc _ _ _ (by simp)).trans (World.alloc_heap_new w _)
  have hc0 : Chg (fun _ => False) w ((w.alloc (.deferred (some []))).alloc (.loop (rec .ready))) := (Chg.alloc _ w _).trans (Chg.alloc _ _ _) fun _ _ h => h
  have hI0 := h0 _ hc0 (by simp)
  have hsz0 : D + 2 ≤ ((w.alloc (.deferred (some []))).alloc (.loop (rec .ready))).heap.size := by simp; omega
  rw [hD] at hbook hbody hdone
  refine ⟨D + 1, [{ target := .collected D, args := #[] }], (w.alloc (.deferred (some []))).alloc (.loop (rec .ready)), { target := .fn (.func gf) lb, args := #[.func (.yield (D + 1)) #[] #[]] }, (w.alloc (.deferred (some []))).alloc (.loop (rec .ready)), gf,
    #[.func (.yield (D + 1)) #[] #[]] ++ lb, (w.alloc (.deferred (some []))).alloc (.loop (rec .ready)), ?_, ?_, fun _ _ => trivial, ?_, (fun h => by cases h), ?_⟩
  · rw [hrec, ← hD]; exact run_enterLoop_outer _ _ _ _ _
  · simp only [resolve, hg]
    simp [go_sem]
  · simp [invoke, go_sem, eg]
  · refine (hseq (D + 1) (fun r W => I r W ∧ D + 2 ≤ W.heap.size ∧ W.heap[D + 1]? = some (.loop (rec .ready)) ∧ W.heap[D]? = some (.deferred (some []))) _ (fun r V h => hrd r V h.1) ?_ ⟨hI0, hsz0, hL, hK⟩).mono ?_
    · rintro r W ⟨hi, hsz, hl, hk⟩ hr
      have hy := run_yield (P := Try.prog) (args := args r) hl (by rw [hrec]; exact hps r)
      rw [hrec] at hy
      refine ⟨fn, _, assign, body, hy, roundIn_of_wpIn trivial (hassign _ r W _ ⟨_, run_beginRound hl (by rw [hrec]), ?_⟩)⟩
      have hc2 := chg_putObj W (D + 1) (.loop { rec .ready with state := .busy })
      have hs2 : (W.putObj (D + 1) (.loop { rec .ready with state := .busy })).heap.size = W.heap.size := by simp [World.putObj]
      have hl2 : (W.putObj (D + 1) (.loop { rec .ready with state := .busy })).heap[D + 1]? = some (.loop { rec .ready with state := .busy }) := World.putObj_heap_same (by omega)
      have hk2 : (W.putObj (D + 1) (.loop { rec .ready with state := .busy })).heap[D]? = some (.deferred (some [])) := (World.putObj_heap_other (by omega)).trans hk
      refine wpIn_mono (hbody _ r _ (hbook r W _ hi hsz (hc2.mono fun _ _ h => .inr h) hs2) (by rw [hs2]; exact hsz) hr) ?_
      rintro e a3 W3 hp
      cases e with
      | normal =>
        obtain ⟨hi3, hk3, hl3⟩ := hp
        have hl3' := hl3.trans hl2
        have hs3 : D + 1 < W3.heap.size := (Array.getElem?_eq_some_iff.1 hl3').1
        have hend := run_endRound (P := Try.prog) none hl3'
        rw [hrec] at hend
        refine ⟨_, _, hend, rfl, hbook _ W3 _ hi3 (by omega) ((chg_putObj W3 (D + 1) _).mono fun _ _ h => .inr h) (by simp [World.putObj]), by simp [World.putObj]; omega, ?_, ?_⟩
        · rw [hrec]; exact World.putObj_heap_same hs3
        · exact (World.putObj_heap_other (by omega)).trans (hk3.trans hk2)
      | ret => exact hp.elim
      | exit id => exact hp.elim
      | goto t => exact hp.elim
      | panic ch => exact hp.elim
      | outgrown => exact hp.elim
    · rintro e W2 ⟨⟨v, rfl⟩, hi, hsz, hl, hk⟩
      have hend := run_endLoop (P := Try.prog) hl (by rw [hrec]; simp)
      rw [hrec] at hend
      refine ⟨none, _, hend, hdone _ (hbook N W2 _ hi hsz ((chg_putObj W2 (D + 1) _).mono fun _ _ h => .inr h) (by simp [World.putObj])) ((World.putObj_heap_other (by omega)).trans hk)⟩

section
variable {ops : Array Oper} {Q : Exit → Act → World → Prop} {md : Region.Mode}

theorem rowsIn_of {l : Nat} {row : String} {args : Array Value} {w : World} {R : Value → World → Prop} (h : Rows Try.prog row args w R) : RowsIn (Fence.wide.inRound l) 0 Try.prog row args w R :=
  fun c cs _ => let ⟨v, w', r, s⟩ := h c cs; ⟨v, w', r, stepsIn_wide.2 s⟩
/-- an operation that is no defer statement is carried out in a round as anywhere -/
theorem opIn_of {l : Nat} {o : Oper} (hnd : ∀ c, o.op ≠ .defer c) {a : Act} {w : World} {K : Act → World → Prop} (h : o.wp Try.prog a w K Q) : o.wpIn (Fence.wide.inRound l) 0 Try.prog a w K Q := by
  refine ⟨fun _ _ => trivial, ?_⟩
  rw [Oper.semAt_eq _ _ _ hnd]
  unfold Oper.wp at h
  generalize (execOp a.eval o).run Try.prog w = r at *
  cases r with
  | ok x w' =>
    cases x <;> simp only [Oper.upon, Oper.uponIn] at h ⊢ <;> first | exact h | exact h.elim | skip
    · exact ⟨(fun h => by cases h), CallsIn.inRound l (callsIn_wide.2 (h.mono fun e w'' he => by cases e <;> exact he))⟩
    · exact ⟨(fun h => by cases h), rowsIn_of h⟩
  | halt x w' => cases x <;> simp only [Oper.upon, Oper.uponIn] at h ⊢ <;> first | exact h | exact h.elim

theorem anyIn_of {l : Nat} (hnd : ∀ (i : Nat) (o : Oper) c, ops[i]? = some o → o.op ≠ .defer c) (hout : ¬ LetsOut Q) : ∀ (fuel : Nat) (listed : Array Bool) (a : Act) (w : World), wpAny Try.prog md ops Q fuel listed a w → wpAnyIn (Fence.wide.inRound l) 0 Try.prog md ops Q fuel listed a w := by
  intro fuel
  induction fuel with
  | zero => exact fun _ _ _ h => h
  | succ fuel ih =>
    intro listed a w h
    refine ⟨h.1, fun i hi => ?_⟩
    have h2 := h.2 i hi
    unfold wpOp at h2
    unfold wpOpIn
    cases ho : ops[i]? with
    | none => rw [ho] at h2; exact ih _ _ _ h2
    | some o =>
      rw [ho] at h2
      simp only [] at h2 ⊢
      split
      · rename_i hw
        rw [if_pos hw] at h2
        rcases h2 with h2 | ⟨-, h2⟩
        · exact Oper.wpIn_mono (ih _) (opIn_of (fun c => hnd i o c ho) h2)
        · exact absurd h2 hout
      · rename_i hw
        rw [if_neg hw] at h2
        exact ⟨fun _ _ => trivial, ih _ _ _ h2⟩
/-- a region that draws its order, in a round: by the walk of all orders under a condition S -/
theorem region_round {l id : Nat} {a : Act} {w : World} {S : World → Prop} (hm : Try.prog.follows .mixedOrders = true) (hnd : (ops.all fun o => match o.op with | .defer _ => false | _ => true) = true) (hout : ¬ LetsOut Q) (hS : S w.drew)
    (h : S w.drew → wpAnyH Try.prog .any ops Q S ops.size (Array.replicate ops.size false) a w.drew) : (Code.region id ops true).wpIn (Fence.wide.inRound l) 0 Try.prog Q a w :=
  wpIn_region_any hm (anyIn_of (fun i o c ho he => by
    have h1 := Array.all_eq_true_iff_forall_mem.1 hnd o (Array.mem_of_getElem? ho)
    rw [he] at h1
    cases h1) hout _ _ _ _ (wpAny_of_held _ _ _ _ (h hS)))
/-- an operation that yields its value in every world that meets S is taken first -/
theorem takeH {S : World → Prop} {i : Nat} (d : Nat) (v : Value) {o : Oper} {fuel : Nat} {listed : Array Bool} {a : Act} {w : World} (hi : ops[i]? = some o) (hd : o.dst = some d)
    (hs : Region.noSelect ops = true) (hf : Region.free md ops listed i = true) (hr : (Region.ready md ops listed).contains i = true)
    (hQ : ∀ c a w, Q (.panic c) (a.put (some d) v) w → Q (.panic c) a w) (hw : Region.wanted o (yielded ops a.tmps) = true) (hS : S w) (hy : ∀ V, S V → (execOp a.eval o).run Try.prog V = .ok (.value v) V)
    (h : wpAnyH Try.prog md ops Q S fuel (listed.setIfInBounds i true) { a with tmps := a.tmps.setIfInBounds d v } w) : wpAnyH Try.prog md ops Q S (fuel + 1) listed a w :=
  wpAnyH_take hi hs hf hr (by rw [hd]; exact hQ) (.inl ⟨hw, hy⟩) hS (by rw [hd]; exact h)
end

end Go.Proofs.Ytokeoebhmjefoaa

/- A Writer in memory; what bitw.putBit does to it. -/
namespace Go.Proofs.Ytokeoebhmjefoaa
open Go.RowKit

/-- The Writer at block b holds the bits bs; its bytes lie in the block o (none: there are none yet). -/
def Wr (w : World) (b : Nat) (o : Option Nat) (bs : List Bool) : Prop :=
  ∃ v, w.heap[b]? = some (.cells #[v, .int .i64 (bs.length : Int)] 88 (0, 0)) ∧ v.ownBlock = o ∧ w.ownsRow (b + 1) 5 1 v ((bs.length + 7) / 8) (bv (pack bs))

/-- From w to w' only the Writer has turned; it holds bs now. -/
def WrTo (w w' : World) (b : Nat) (o : Option Nat) (bs : List Bool) : Prop :=
  ∃ o', Wr w' b o' bs ∧ Chg (fun k => k = b ∨ some k = o) w w' ∧ (o' = o ∨ ∃ k, o' = some k ∧ w.heap.size ≤ k)

theorem Wr.lt {w : World} {b : Nat} {o : Option Nat} {bs : List Bool} (h : Wr w b o bs) : b < w.heap.size ∧ ∀ k, o = some k → b < k ∧ k < w.heap.size := by
  obtain ⟨v, hb, ho, hown⟩ := h
  refine ⟨lt_of_block hb, fun k hk => ?_⟩
  have := hown.lt k (ho.trans hk)
  omega

theorem Wr.kept {S : Nat → Prop} {w w' : World} {b : Nat} {o : Option Nat} {bs : List Bool} (h : Wr w b o bs) (hc : Chg S w w') (h1 : ¬ S b) (h2 : ∀ k, o = some k → ¬ S k) : Wr w' b o bs := by
  have hl := h.lt
  obtain ⟨v, hb, ho, hown⟩ := h
  exact ⟨v, (hc.block b hl.1 h1).trans hb, ho, hc.own hown (fun k hk => h2 k (ho.symm.trans hk))⟩

theorem WrTo.trans {a w w' : World} {b : Nat} {o o1 : Option Nat} {bs : List Bool} (hc : Chg (fun k => k = b ∨ some k = o) a w) (h1 : o1 = o ∨ ∃ k, o1 = some k ∧ a.heap.size ≤ k) (h : WrTo w w' b o1 bs) : WrTo a w' b o bs := by
  obtain ⟨o', hw, hc', ho'⟩ := h
  refine ⟨o', hw, hc.trans hc' ?_, ?_⟩
  · intro k hk h'
    rcases h' with h' | h'
    · exact .inl h'
    · rcases h1 with rfl | ⟨k1, rfl, hk1⟩
      · exact .inr h'
      · simp only [Option.some.injEq] at h'; omega
  · rcases ho' with rfl | ⟨k, rfl, hk⟩
    · exact h1
    · exact .inr ⟨k, rfl, Nat.le_trans hc.size hk⟩

theorem cells2 {w : World} {b : Nat} {x y : Value} {t : TypeId} (h : w.heap[b]? = some (.cells #[x, y] t (0, 0))) :
    w.cell? ⟨b, 0, none⟩ = some x ∧ w.cell? ⟨b, 1, none⟩ = some y ∧ w.frozen? ⟨b, 0, none⟩ = false ∧ w.frozen? ⟨b, 1, none⟩ = false := by
  refine ⟨?_, ?_, frozen_of_row w b 0 _ t h, frozen_of_row w b 1 _ t h⟩
  · rw [cell_of_row w b 0 _ t _ h]; rfl
  · rw [cell_of_row w b 1 _ t _ h]; rfl

theorem set2_0 {w : World} {b : Nat} {x y u : Value} {t : TypeId} (h : w.heap[b]? = some (.cells #[x, y] t (0, 0))) : (w.setCell ⟨b, 0, none⟩ u).heap[b]? = some (.cells #[u, y] t (0, 0)) := by
  rw [heap_setCell_same w b 0 _ t u h]; rfl
theorem set2_1 {w : World} {b : Nat} {x y u : Value} {t : TypeId} (h : w.heap[b]? = some (.cells #[x, y] t (0, 0))) : (w.setCell ⟨b, 1, none⟩ u).heap[b]? = some (.cells #[x, u] t (0, 0)) := by
  rw [heap_setCell_same w b 1 _ t u h]; rfl

theorem slice_of_own {w : World} {base : Nat} {e : TypeId} {v : Value} {n : Nat} {xs : List Value} (h : w.ownsRow base e 1 v n xs) (hn : 0 < n) : ∃ g cap, v = .slice (some ⟨g, 0, none⟩) n cap ∧ base ≤ g := by
  rcases h.2 with ⟨_, h0⟩ | ⟨g, cap, cur, h, hb, _⟩
  · omega
  · exact ⟨g, cap, h, hb⟩

/-- the last line of putBit's walk: one bit more, in a world in which the row already holds it -/
theorem wr_close {w w2 : World} {b g cap : Nat} {o : Option Nat} {bs : List Bool} {one : Bool}
    (hb : w2.heap[b]? = some (.cells #[.slice (some ⟨g, 0, none⟩) ((bs.length + 1 + 7) / 8) cap, .int .i64 (bs.length : Int)] 88 (0, 0)))
    (hown : w2.ownsRow (b + 1) 5 1 (.slice (some ⟨g, 0, none⟩) ((bs.length + 1 + 7) / 8) cap) ((bs.length + 1 + 7) / 8) (bv (pack (bs ++ [one]))))
    (hc : Chg (fun k => k = b ∨ some k = o) w w2) (ho : some g = o ∨ w.heap.size ≤ g) :
    WrTo w (w2.setCell ⟨b, 1, none⟩ (.int .i64 ((bs.length : Int) + 1))) b o (bs ++ [one]) := by
  have hl := hown.lt g rfl
  refine ⟨some g, ⟨.slice (some ⟨g, 0, none⟩) ((bs.length + 1 + 7) / 8) cap, (by rw [set2_1 hb]; simp), rfl, ?_⟩, hc.trans (Chg.setCell w2 ⟨b, 1, none⟩ _) (fun k _ hk => .inl hk), ?_⟩
  · have := ownsRow_setCell_below hown (a := ⟨b, 1, none⟩) (by show b < b + 1; omega) (.int .i64 ((bs.length : Int) + 1))
    simpa using this
  · rcases ho with h | h
    · exact .inl h
    · exact .inr ⟨g, rfl, h⟩

end Go.Proofs.Ytokeoebhmjefoaa

/- What bitw.putBit does to a Writer. -/
namespace Go.Proofs.Ytokeoebhmjefoaa
open Go.RowKit

set_option maxHeartbeats 1000000 in
set_option maxRecDepth 20000 in
theorem putBit_old (b : Nat) (o : Option Nat) (bs : List Bool) (one : Bool) (w : World) (h : Wr w b o bs) (hlen : bs.length < 1000000000) (hm : bs.length % 8 ≠ 0) :
    Calls Try.prog 94 #[.pointer (some ⟨b, 0, none⟩), .bool one] w fun e w' => e = .returned (.tuple #[]) ∧ WrTo w w' b o (bs ++ [one]) := by
  obtain ⟨v, hb, ho, hown⟩ := h
  obtain ⟨g, cap, rfl, hbg⟩ := slice_of_own hown (by omega)
  obtain ⟨c0, c1, f0, f1⟩ := cells2 hb
  have hn : (bs.length + 1 + 7) / 8 = (bs.length + 7) / 8 := by omega
  have hlt := byteAt_last_lt bs
  have hget : (pack bs).getD (bs.length / 8) 0 = byteAt bs (bs.length / 8) := by
    rw [List.getD_eq_getElem?_getD, pack_getElem? bs _ (by omega)]; rfl
  have hold := pack_snoc_old bs one hm
  have ho' : some g = o := ho
  have ht : (((bs.length : Nat) : Int) % 8 == 0) = false := by rw [beq_eq_false_iff_ne]; omega
  have HO := Lib.hid ho; have HO' := Lib.hid ho'; have HN := Lib.hid hn; have HG := Lib.hid hget; have HP := Lib.hid hold; have HB := Lib.hid hb
  clear ho ho' hn hget hold hb
  cases one
  · go_enter Try.func94, Try.ntmps94
    go_wp2
    go_end0
    refine ⟨rfl, wr_close (g := g) (cap := cap) (w2 := w) (by rw [HN.out]; exact HB.out) ?_ (Chg.refl _ _) (.inl HO'.out)⟩
    rw [HN.out, HP.out]
    simp only [Bool.toNat_false, Nat.zero_mul, Nat.add_zero]
    rw [← HG.out, show (pack bs).set (bs.length / 8) ((pack bs).getD (bs.length / 8) 0) = pack bs from ?_]
    · exact hown
    · have hl : bs.length / 8 < (pack bs).length := by rw [pack_length]; omega
      rw [List.getD_eq_getElem?_getD, List.getElem?_eq_getElem hl]; simp
  · go_enter Try.func94, Try.ntmps94
    go_wp2
    go_still_tail 8, (by kernel_rfl)
    change wpList _ _ _ _ _ w.drew
    go_wp2_with fail
    refine (setBit_row (b + 1) g ((bs.length + 7) / 8) cap bs.length (pack bs) _ hown.drew (by omega) (by omega) (by rw [HG.out]; exact hlt)).mono ?_
    rintro e w2 ⟨rfl, hown2, hc2⟩
    have hc2' : Chg (fun k => k = g) w w2 := ⟨hc2.os, hc2.tape, hc2.output, hc2.size, hc2.block⟩
    have hb2 := (hc2'.block b (lt_of_block HB.out) (by omega)).trans HB.out
    obtain ⟨c0', c1', f0', f1'⟩ := cells2 hb2
    have HB2 := Lib.hid hb2
    clear hb2
    go_wp2
    go_end0
    refine ⟨rfl, wr_close (g := g) (cap := cap) (w2 := w2) (by rw [HN.out]; exact HB2.out) ?_ (hc2'.mono fun k _ hk => .inr (by rw [hk]; exact HO'.out)) (.inl HO'.out)⟩
    rw [HN.out, HP.out, ← HG.out]
    simpa using hown2

set_option maxHeartbeats 1000000 in
set_option maxRecDepth 20000 in
theorem putBit_new (b : Nat) (o : Option Nat) (bs : List Bool) (one : Bool) (w : World) (h : Wr w b o bs) (hlen : bs.length < 1000000000) (hm : bs.length % 8 = 0) :
    Calls Try.prog 94 #[.pointer (some ⟨b, 0, none⟩), .bool one] w fun e w' => e = .returned (.tuple #[]) ∧ WrTo w w' b o (bs ++ [one]) := by
  obtain ⟨i, hi, hz0, hz1, hz2⟩ := info_parts Try.infoU8
  obtain ⟨v, hb, ho, hown⟩ := h
  have hbl := lt_of_block hb
  obtain ⟨c0, c1, f0, f1⟩ := cells2 hb
  have hne : some b ≠ v.ownBlock := fun h => by have := hown.lt b h.symm; omega
  have hlo := hown.lt
  have ht : (((bs.length : Nat) : Int) % 8 == 0) = true := by rw [beq_iff_eq]; omega
  have HM := Lib.hid hm; have HO := Lib.hid ho; have HB := Lib.hid hb; have HL := Lib.hid hlo; have HNe := Lib.hid hne
  clear hm ho hb hlo hne
  have hnew := pack_snoc_new bs one HM.out
  have hn : (bs.length + 1 + 7) / 8 = (bs.length + 7) / 8 + 1 := by have := HM.out; omega
  have HW := Lib.hid hnew; have HN := Lib.hid hn
  clear hnew hn
  have key : ∀ (g cap : Nat) (w1 : World), (w.alloc (.cells #[.int .u8 0] 5)).grownBy w1 v.ownBlock → (v.ownBlock = some g ∨ g = w.heap.size + 1) →
      (some g = o ∨ w.heap.size ≤ g) ∧ w1.heap[b]? = some (.cells #[v, .int .i64 (bs.length : Int)] 88 (0, 0)) ∧ Chg (fun k => some k = o) w w1 := by
    intro g cap w1 h2 h3
    have hc : Chg (fun k => some k = o) w w1 := (Chg.alloc _ w _).trans (Chg.of_grown h2) (fun k _ hk => by rw [hk]; exact HO.out)
    refine ⟨?_, ?_, hc⟩
    · rcases h3 with h | h
      · exact .inl (by rw [← h]; exact HO.out)
      · exact .inr (by omega)
    · rw [hc.block b hbl (fun h => HNe.out (by rw [h]; exact HO.out.symm))]; exact HB.out
  cases one
  · go_enter Try.func94, Try.ntmps94
    go_wp2_with (at_builtin; refine wpList_append_lies _ rfl (.tmp 14) (.tmp 15) 25 rfl (b + 1) 5 i (.int .u8 0) 1 1 Try.underlying25 hi hz0 hz1 hz2 rfl (by decide) v ((bs.length + 7) / 8) _ rfl (hown.alloc _) ⟨w.heap.size, 0, none⟩ 1 1 [.int .u8 0] rfl rfl (cell_one_new _ _ _) ?c2 (by decide) (by unfold maxLen; omega) (by omega) (by simp; omega) (w.heap.size + 1) (by simp) ?_)
    case c2 => intro u hu; simp at hu; subst hu; rfl
    intro g cap w1 hown' hgrow hg _
    obtain ⟨hg, hb1, hc1⟩ := key g cap w1 hgrow hg
    have hbg := (hown'.lt g rfl).1
    obtain ⟨d0, d1, e0, e1⟩ := cells2 hb1
    have HB1 := Lib.hid hb1
    clear hb1 hgrow
    go_wp2
    go_end0
    refine ⟨rfl, wr_close (g := g) (cap := cap) (w2 := w1.setCell ⟨b, 0, none⟩ (.slice (some ⟨g, 0, none⟩) ((bs.length + 7) / 8 + 1) cap)) (by rw [HN.out]; exact set2_0 HB1.out) ?_ ((hc1.mono fun k _ hk => .inr hk).trans (Chg.setCell w1 ⟨b, 0, none⟩ _) (fun k _ hk => .inl hk)) hg⟩
    rw [HN.out, HW.out, ← bv_snoc]
    exact ownsRow_setCell_below hown' (a := ⟨b, 0, none⟩) (by show b < b + 1; omega) _
  · go_enter Try.func94, Try.ntmps94
    go_wp2_with (at_builtin; refine wpList_append_lies _ rfl (.tmp 14) (.tmp 15) 25 rfl (b + 1) 5 i (.int .u8 0) 1 1 Try.underlying25 hi hz0 hz1 hz2 rfl (by decide) v ((bs.length + 7) / 8) _ rfl (hown.alloc _) ⟨w.heap.size, 0, none⟩ 1 1 [.int .u8 0] rfl rfl (cell_one_new _ _ _) ?c2 (by decide) (by unfold maxLen; omega) (by omega) (by simp; omega) (w.heap.size + 1) (by simp) ?_)
    case c2 => intro u hu; simp at hu; subst hu; rfl
    intro g cap w1 hown' hgrow hg _
    obtain ⟨hg, hb1, hc1⟩ := key g cap w1 hgrow hg
    have hbg := (hown'.lt g rfl).1
    obtain ⟨d0, d1, e0, e1⟩ := cells2 hb1
    have HB1 := Lib.hid hb1
    clear hb1 hgrow
    have hb2 := set2_0 (u := .slice (some ⟨g, 0, none⟩) ((bs.length + 7) / 8 + 1) cap) HB1.out
    have hown2 := ownsRow_setCell_below hown' (a := ⟨b, 0, none⟩) (by show b < b + 1; omega) (.slice (some ⟨g, 0, none⟩) ((bs.length + 7) / 8 + 1) cap)
    have hc2 := (hc1.mono fun k _ hk => .inr hk).trans (Chg.setCell w1 ⟨b, 0, none⟩ (.slice (some ⟨g, 0, none⟩) ((bs.length + 7) / 8 + 1) cap)) (S := fun k => k = b ∨ some k = o) (fun k _ hk => .inl hk)
    have HB2 := Lib.hid hb2
    clear hb2
    go_wp2
    generalize w1.setCell ⟨b, 0, none⟩ (.slice (some ⟨g, 0, none⟩) ((bs.length + 7) / 8 + 1) cap) = w2 at *
    clear hown' hc1 d0 d1 e0 e1 HB1
    obtain ⟨d0, d1, e0, e1⟩ := cells2 HB2.out
    go_still_tail 8, (by kernel_rfl)
    change wpList _ _ _ _ _ w2.drew
    go_wp2_with fail
    refine (setBit_row (b + 1) g ((bs.length + 7) / 8 + 1) cap bs.length (pack bs ++ [0]) _ (by rw [← bv_snoc]; exact hown2.drew) (by have := HM.out; omega) (by omega) (by rw [HM.out, List.getD_eq_getElem?_getD, List.getElem?_append_right (by rw [pack_length]; have := HM.out; omega)]; rw [pack_length]; rw [show bs.length / 8 - (bs.length + 7) / 8 = 0 from by omega]; simp)).mono ?_
    rintro e w3 ⟨rfl, hown3, hc3⟩
    have hc3' : Chg (fun k => k = g) w2 w3 := ⟨hc3.os, hc3.tape, hc3.output, hc3.size, hc3.block⟩
    have hb3 := (hc3'.block b (lt_of_block HB2.out) (by omega)).trans HB2.out
    obtain ⟨c0', c1', f0', f1'⟩ := cells2 hb3
    have HB3 := Lib.hid hb3
    clear hb3
    go_wp2
    go_end0
    refine ⟨rfl, wr_close (g := g) (cap := cap) (w2 := w3) (by rw [HN.out]; exact HB3.out) ?_ (hc2.trans hc3' fun k hk hkg => ?_) hg⟩
    · rw [HN.out, HW.out]
      have e1 : (pack bs ++ [0]).getD (bs.length / 8) 0 = 0 := by
        rw [List.getD_eq_getElem?_getD, List.getElem?_append_right (by rw [pack_length]; have := HM.out; omega)]; rw [pack_length]; rw [show bs.length / 8 - (bs.length + 7) / 8 = 0 from by omega]; simp
      have e2 : (pack bs ++ [0]).set (bs.length / 8) 1 = pack bs ++ [1] := by
        rw [show bs.length / 8 = (pack bs).length from by rw [pack_length]; have := HM.out; omega]; simp
      rw [e1, HM.out] at hown3
      simpa [e2] using hown3
    · rcases hg with h | h
      · exact .inr (by rw [hkg]; exact h)
      · omega

theorem putBit_any (b : Nat) (o : Option Nat) (bs : List Bool) (one : Bool) (w : World) (h : Wr w b o bs) (hlen : bs.length < 1000000000) :
    Calls Try.prog 94 #[.pointer (some ⟨b, 0, none⟩), .bool one] w fun e w' => e = .returned (.tuple #[]) ∧ WrTo w w' b o (bs ++ [one]) := by
  by_cases hm : bs.length % 8 = 0
  · exact putBit_new b o bs one w h hlen hm
  · exact putBit_old b o bs one w h hlen hm

end Go.Proofs.Ytokeoebhmjefoaa

/- What bitw.New, Put, Bits do. -/
namespace Go.Proofs.Ytokeoebhmjefoaa
open Go.RowKit

theorem wraps_u32 (n : Int) (h0 : 0 ≤ n) (h1 : n < 2 ^ 32) : IntKind.u32.wrap n = n := by rw [IntKind.wrap_u32]; omega

theorem and_one_bit (v k : Nat) (hv : v < 4294967296) : (bits BinOp.and IntKind.u32 ((v : Int) / 2 ^ k) 1 == 1) = decide (v / 2 ^ k % 2 = 1) := by
  have e : ((v : Int) / 2 ^ k) = ((v / 2 ^ k : Nat) : Int) := by simp
  have hl : v / 2 ^ k ≤ v := Nat.div_le_self _ _
  rw [e]
  generalize v / 2 ^ k = y at *
  have h := bits_mask .u32 32 (by decide) wraps_u32 1 (by decide) (y : Int) (by omega) (by omega)
  rw [show (1 : Int) = 2 ^ 1 - 1 from by decide, h]
  rw [Bool.eq_iff_iff]; simp; omega

theorem new_any (w : World) : Calls Try.prog 41 #[] w fun e w' => e = .returned (.pointer (some ⟨w.heap.size, 0, none⟩)) ∧ w.alloc (.cells #[.slice none 0 0, .int .i64 0] 88) = w' := by
  go_enter Try.func41, Try.ntmps41
  go_wp2
  go_ret
  exact ⟨rfl, rfl⟩

theorem new_wr (w : World) : Calls Try.prog 41 #[] w fun e w' => e = .returned (.pointer (some ⟨w.heap.size, 0, none⟩)) ∧ Wr w' w.heap.size none [] ∧ Chg (fun _ => False) w w' := by
  refine (new_any w).mono ?_
  rintro e w' ⟨rfl, rfl⟩
  exact ⟨rfl, ⟨_, heap_alloc_new w _, rfl, World.ownsRow_nil _ _ _ _⟩, Chg.alloc _ w _⟩

theorem bits_any (b : Nat) (o : Option Nat) (bs : List Bool) (w : World) (h : Wr w b o bs) :
    Calls Try.prog 27 #[.pointer (some ⟨b, 0, none⟩)] w fun e w' => e = .returned (.int .i64 (bs.length : Int)) ∧ w = w' := by
  obtain ⟨v, hb, ho, hown⟩ := h
  obtain ⟨c0, c1, f0, f1⟩ := cells2 hb
  clear hb ho hown
  go_enter Try.func27, Try.ntmps27
  go_wp2
  go_ret
  exact ⟨rfl, rfl⟩

theorem put_no (b : Nat) (v n : Int) (w : World) (hn : n < 0 ∨ 24 < n) :
    Calls Try.prog 72 #[.pointer (some ⟨b, 0, none⟩), .int .u32 v, .int .i64 n] w fun e w' => e = .returned (.bool false) ∧ w = w' := by
  by_cases h0 : n < 0
  · have h0' : decide (n < 0) = true := by simpa using h0
    go_enter Try.func72, Try.ntmps72
    go_wp2
    go_ret
    exact ⟨rfl, rfl⟩
  · have h0' : decide (n < 0) = false := by simpa using h0
    have h1' : decide (24 < n) = true := by simp; omega
    go_enter Try.func72, Try.ntmps72
    go_wp2
    go_ret
    exact ⟨rfl, rfl⟩

set_option maxHeartbeats 400000 in
theorem put_yes (b : Nat) (o : Option Nat) (bs : List Bool) (v n : Nat) (w : World) (h : Wr w b o bs) (hlen : bs.length < 900000000) (hv : v < 4294967296) (hn : n ≤ 24) :
    Calls Try.prog 72 #[.pointer (some ⟨b, 0, none⟩), .int .u32 (v : Int), .int .i64 (n : Int)] w fun e w' => e = .returned (.bool true) ∧ WrTo w w' b o (bs ++ bitsOf v n) := by
  have h0' : decide ((n : Int) < 0) = false := by simp
  have h1' : decide (24 < (n : Int)) = false := by simp; omega
  have hst : WrTo w w b o (bs ++ bitsOf v 0) := ⟨o, by simpa [bitsOf] using h, Chg.refl _ _, .inl rfl⟩
  go_enter Try.func72, Try.ntmps72
  go_wp2
  go_loopw [15] (fun i wr => ∃ k : Nat, k ≤ n ∧ i = .int .i64 (k : Int) ∧ WrTo w wr b o (bs ++ bitsOf v k)) (fun i _ => n - (intOf i).toNat)
  case atStart => exact ⟨0, Nat.zero_le _, rfl, hst⟩
  case round =>
    obtain ⟨k, hk, rfl, hwr⟩ := hrel
    by_cases hlt : k < n
    · obtain ⟨o1, hw1, hc1, ho1⟩ := hwr
      go_wp2_with fail
      refine (putBit_any b o1 (bs ++ bitsOf v k) _ wr hw1 (by simp [bitsOf_length]; omega)).mono ?_
      rintro e w2 ⟨rfl, hw2⟩
      have hw2' := WrTo.trans hc1 ho1 hw2
      rw [and_one_bit v k hv, List.append_assoc, show bitsOf v k ++ [decide (v / 2 ^ k % 2 = 1)] = bitsOf v (k + 1) from rfl] at hw2'
      clear hw2 hw1 hc1 ho1
      go_wp2
      go_roundw
      case rel => exact ⟨k + 1, by omega, by go_num, hw2'⟩
      case measure => simp [intOf]; omega
    · obtain rfl : k = n := by omega
      go_wp2
      go_ret
      exact ⟨rfl, hwr⟩

theorem put_any (b : Nat) (o : Option Nat) (bs : List Bool) (v : Nat) (n : Int) (w : World) (h : Wr w b o bs) (hlen : bs.length < 900000000) (hv : v < 4294967296) :
    Calls Try.prog 72 #[.pointer (some ⟨b, 0, none⟩), .int .u32 (v : Int), .int .i64 n] w fun e w' => e = .returned (.bool (decide (0 ≤ n ∧ n ≤ 24))) ∧ WrTo w w' b o (putB bs v n) := by
  by_cases hn : 0 ≤ n ∧ n ≤ 24
  · obtain ⟨m, rfl⟩ := Int.eq_ofNat_of_zero_le hn.1
    refine (put_yes b o bs v m w h hlen hv (by omega)).mono ?_
    rintro e w' ⟨rfl, hw⟩
    rw [show decide (0 ≤ (m : Int) ∧ (m : Int) ≤ 24) = true from decide_eq_true hn, show putB bs v (m : Int) = bs ++ bitsOf v m from by unfold putB; rw [if_pos hn]; rfl]
    exact ⟨rfl, hw⟩
  · refine (put_no b v n w (by omega)).mono ?_
    rintro e w' ⟨rfl, rfl⟩
    rw [show decide (0 ≤ n ∧ n ≤ 24) = false from decide_eq_false hn, show putB bs v n = bs from by unfold putB; rw [if_neg hn]]
    exact ⟨rfl, o, h, Chg.refl _ _, .inl rfl⟩

end Go.Proofs.Ytokeoebhmjefoaa

/- What bitw's Close tells: memory of its own. -/
namespace Go.Proofs.Ytokeoebhmjefoaa
open Go.RowKit

/-- The call hands back bytes xs in memory of its own, and nothing that was there has turned. -/
def Fresh (w : World) (xs : List Nat) (e : Ending) (w' : World) : Prop :=
  ∃ g cap, e = .returned (.slice (some ⟨g, 0, none⟩) xs.length cap) ∧ w'.ownsRow w.heap.size 5 1 (.slice (some ⟨g, 0, none⟩) xs.length cap) xs.length (bv xs) ∧ Chg (fun _ => False) w w'

/-- a row that is known whole -/
theorem own_heap {w : World} {base g n : Nat} {e : TypeId} {xs : List Value} (h : w.ownsRow base e 1 (.slice (some ⟨g, 0, none⟩) n n) n xs) : w.heap[g]? = some (.cells xs.toArray e (0, 0)) := by
  rcases h.2 with ⟨h', _⟩ | ⟨g', cap', cur, h', _, hg, _, _, hcs, htake⟩
  · simp at h'
  · simp only [Value.slice.injEq, Option.some.injEq, Addr.mk.injEq, and_true, true_and] at h'
    obtain ⟨rfl, rfl⟩ := h'
    rw [hg, ← htake, List.take_of_length_le (by rw [Array.length_toList, hcs]; omega)]
theorem own_of_heap {w : World} {base g n : Nat} {e : TypeId} {xs : List Value} (hb : base ≤ g) (hn : xs.length = n) (hm : n ≤ maxLen) (h : w.heap[g]? = some (.cells xs.toArray e (0, 0))) : w.ownsRow base e 1 (.slice (some ⟨g, 0, none⟩) n n) n xs :=
  ⟨by omega, .inr ⟨g, n, xs.toArray, rfl, hb, h, Nat.le_refl _, hm, by simp [hn], List.take_of_length_le (by simp; omega)⟩⟩

theorem zeros_length (n : Nat) : (madeCells #[Value.int .u8 0] n).toList.length = n := by simp [madeCells]
theorem zeros_bv (n : Nat) : (madeCells #[Value.int .u8 0] n).toList = bv (List.replicate n 0) := by
  apply List.ext_getElem (by simp [madeCells, bv])
  intro j h1 h2
  simp [madeCells, bv, Nat.mod_one]
theorem Chg.then_below {w w1 w2 : World} (h : Chg (fun _ => False) w w1) (k : Below w.heap.size w1 w2) : Chg (fun _ => False) w w2 :=
  ⟨k.os.trans h.os, k.tape.trans h.tape, k.output.trans h.output, Nat.le_trans h.size k.size, fun i hi hs => (k.block i hi).trans (h.block i hi hs)⟩

theorem splice_all {α : Type} (L cs : List α) (h : L.length = cs.length) : splice L 0 cs = cs := by simp [splice, h]

theorem bv_one (xs : List Nat) : ∀ u ∈ bv xs, u.oneCell' = true := by
  intro u hu
  simp only [bv, List.mem_map] at hu
  obtain ⟨x, _, rfl⟩ := hu
  rfl

theorem own_src {w : World} {base : Nat} {e : TypeId} {v : Value} {n : Nat} {xs : List Value} (h : w.ownsRow base e 1 v n xs) : ∃ ao cap, v = .slice ao n cap ∧ (0 < xs.length → ∃ ad, ao = some ad ∧ ∀ j u, xs[j]? = some u → w.cell? (ad.add j) = some u) := by
  rcases h.2 with ⟨rfl, rfl⟩ | ⟨g, cap, cur, rfl, hb, _⟩
  · exact ⟨none, 0, rfl, fun hp => by have := h.1; omega⟩
  · exact ⟨some ⟨g, 0, none⟩, cap, rfl, fun _ => ⟨_, rfl, h.cells rfl⟩⟩

theorem Try.sizeU8 : (Try.prog.info? 5).map (·.size) = some 1 := by kernel_rfl

theorem close_math (bs : List Bool) (n : Nat) (hn : n = bs.length / 8 + 1) :
    ((pack bs ++ List.replicate (n - (pack bs).length) 0).getD (bs.length / 8) 0 < 2 ^ (bs.length % 8)) ∧
    (pack bs ++ List.replicate (n - (pack bs).length) 0).set (bs.length / 8) ((pack bs ++ List.replicate (n - (pack bs).length) 0).getD (bs.length / 8) 0 + 2 ^ (bs.length % 8)) = pack (bs ++ [true]) := by
  by_cases hm : bs.length % 8 = 0
  · have e1 : (pack bs).length = bs.length / 8 := by rw [pack_length]; omega
    have e2 : n - bs.length / 8 = 1 := by omega
    rw [pack_snoc_new bs true hm, e1, e2, hm]
    have e3 : (pack bs ++ List.replicate 1 0).getD (bs.length / 8) 0 = 0 := by
      rw [List.getD_eq_getElem?_getD, List.getElem?_append_right (by omega), e1]; simp
    rw [e3]
    refine ⟨by decide, ?_⟩
    rw [← e1]; simp
  · have e1 : (pack bs).length = bs.length / 8 + 1 := by rw [pack_length]; omega
    have e2 : n - (bs.length / 8 + 1) = 0 := by omega
    rw [pack_snoc_old bs true hm, e1, e2]
    have e3 : (pack bs ++ List.replicate 0 0).getD (bs.length / 8) 0 = byteAt bs (bs.length / 8) := by
      simp only [List.replicate_zero, List.append_nil]
      rw [List.getD_eq_getElem?_getD, pack_getElem? bs _ (by omega)]; rfl
    rw [e3]
    exact ⟨byteAt_last_lt bs, by simp⟩

theorem splice_front {α : Type} (L cs : List α) : splice L 0 cs = cs ++ L.drop cs.length := by simp [splice]

set_option maxHeartbeats 1000000 in
theorem close_any (b : Nat) (o : Option Nat) (bs : List Bool) (w : World) (h : Wr w b o bs) (hlen : bs.length < 1000000000) :
    Calls Try.prog 20 #[.pointer (some ⟨b, 0, none⟩)] w fun e w' => Fresh w (pack (bs ++ [true])) e w' := by
  obtain ⟨i, hi, hz0, hz1, hz2⟩ := info_parts Try.infoU8
  obtain ⟨v, hb, ho, hown⟩ := h
  have hbl := lt_of_block hb
  obtain ⟨ao, cap, rfl, hsrc⟩ := own_src hown
  obtain ⟨c0, c1, f0, f1⟩ := cells2 hb
  have hby : i.bytes * (bs.length / 8 + 1) ≤ 281474976710656 := by rw [hz2]; omega
  have HB := Lib.hid hb; have HS := Lib.hid hsrc
  clear hb hsrc ho
  go_enter Try.func20, Try.ntmps20
  go_wp2_with (at_make; refine wpList_make_full _ rfl (.tmp 9) (.tmp 9) 25 rfl w.heap.size 5 i (.int .u8 0) 1 Try.underlying25 hi hz0 hz1 .i64 .i64 _ _ (bs.length / 8 + 1) rfl rfl (by omega) (by omega) hby (by unfold maxLen; omega) (Nat.le_refl _) ?_)
  intro w1 hown1 hgrow1
  have hc1 : Chg (fun _ => False) w w1 := (Chg.of_grown hgrow1).mono fun k _ hk => by simp at hk
  have hb1 := (hc1.block b hbl (by simp)).trans HB.out
  obtain ⟨d0, d1, e0, e1⟩ := cells2 hb1
  have hrow : w1.heap[w.heap.size]? = some (.cells (bv (List.replicate (bs.length / 8 + 1) 0)).toArray 5 (0, 0)) := by
    have h := own_heap hown1
    rw [zeros_bv] at h; exact h
  have hsrc1 := own_src (hc1.own hown (fun k _ => by simp))
  obtain ⟨_, _, hv1, hsrc1⟩ := hsrc1
  simp only [Value.slice.injEq, true_and] at hv1
  obtain ⟨rfl, rfl⟩ := hv1
  have HB1 := Lib.hid hb1
  clear hb1 hgrow1 hown1
  have HR := Lib.hid hrow; have HC := Lib.hid hc1; have HV := Lib.hid hsrc1
  clear hrow hc1 hsrc1
  go_wp2_with (with_reducible refine wpList_copy_splice rfl (.tmp 11) (.tmp 15) 25 25 rfl 5 Try.underlying25 Try.sizeU8 _ _ _ _ _ _ rfl rfl w.heap.size 0 (bv (List.replicate (bs.length / 8 + 1) 0)) 5 HR.out (bv (pack bs)) ?c1 ?c2 ?c3 (bv_one _) w.heap.size w1 (Below.refl _ _) (Nat.le_refl _) ?_)
  case c1 => rw [bv_length, pack_length]; exact (Nat.min_eq_left (by omega)).symm
  case c2 => intro hp; exact HV.out hp
  case c3 => rw [bv_length, bv_length, pack_length, List.length_replicate]; omega
  intro w2 HG2 hB2
  have hc2 := HC.out.then_below hB2
  have hb2 := (hc2.block b hbl (by simp)).trans HB.out
  have hown2 : w2.ownsRow w.heap.size 5 1 (.slice (some ⟨w.heap.size, 0, none⟩) (bs.length / 8 + 1) (bs.length / 8 + 1)) (bs.length / 8 + 1) (bv (pack bs ++ List.replicate (bs.length / 8 + 1 - (pack bs).length) 0)) := by
    have h := HG2.out
    rw [splice_front, bv_length] at h
    have e : bv (pack bs) ++ (bv (List.replicate (bs.length / 8 + 1) 0)).drop (pack bs).length = bv (pack bs ++ List.replicate (bs.length / 8 + 1 - (pack bs).length) 0) := by
      simp [bv]
    rw [e] at h
    exact own_of_heap (Nat.le_refl _) (by rw [bv_length, List.length_append, List.length_replicate, pack_length]; omega) (by unfold maxLen; omega) h
  obtain ⟨d0', d1', e0', e1'⟩ := cells2 hb2
  have hcm := close_math bs (bs.length / 8 + 1) rfl
  have HB2 := Lib.hid hb2; have HM := Lib.hid hcm; have HO := Lib.hid hown2; have HC2 := Lib.hid hc2
  clear hb2 hcm hown2 hc2
  go_wp2_with fail
  refine (setBit_row w.heap.size w.heap.size (bs.length / 8 + 1) (bs.length / 8 + 1) bs.length _ _ HO.out (by omega) (by omega) HM.out.1).mono ?_
  rintro e w3 ⟨rfl, hown3, hc3⟩
  go_wp2
  go_ret
  rw [HM.out.2] at hown3
  have el : (pack (bs ++ [true])).length = bs.length / 8 + 1 := by rw [pack_length]; simp; omega
  refine ⟨w.heap.size, bs.length / 8 + 1, by rw [el]; rfl, by rw [el]; exact hown3, HC2.out.trans hc3 (fun k hk h => by omega)⟩

end Go.Proofs.Ytokeoebhmjefoaa

/- Bytes that are read off memory; what puncheonref01.Same tells. -/
namespace Go.Proofs.Ytokeoebhmjefoaa
open Go.RowKit

/-- The value v is a slice of the bytes xs. -/
def RdB (w : World) (v : Value) (xs : List Nat) : Prop :=
  (xs = [] ∧ ∃ ao c, v = .slice ao 0 c) ∨ ∃ g off cap, v = .slice (some ⟨g, off, none⟩) xs.length cap ∧ ∀ j, j < xs.length → w.cell? ⟨g, off + j, none⟩ = some (.int .u8 ((xs.getD j 0 : Nat) : Int))

def strB (xs : List Nat) : ByteArray := strOfNums (xs.map fun n : Nat => (n : Int))

theorem strB_toList (xs : List Nat) : (strB xs).data.toList = xs.map UInt8.ofNat := by
  rw [strB, strOfNums_data, List.map_map]; rfl

theorem map_ofNat_inj : ∀ (xs ys : List Nat), (∀ x ∈ xs, x < 256) → (∀ y ∈ ys, y < 256) → xs.map UInt8.ofNat = ys.map UInt8.ofNat → xs = ys
  | [], [], _, _, _ => rfl
  | [], _ :: _, _, _, h => by simp at h
  | _ :: _, [], _, _, h => by simp at h
  | x :: xs, y :: ys, hx, hy, h => by
    simp only [List.map_cons, List.cons.injEq] at h
    have h1 : x = y := by
      have := congrArg UInt8.toNat h.1
      have hx0 := hx x (by simp); have hy0 := hy y (by simp)
      simp at this; omega
    rw [h1, map_ofNat_inj xs ys (fun z hz => hx z (by simp [hz])) (fun z hz => hy z (by simp [hz])) h.2]

theorem str_beq (xs ys : List Nat) (hx : ∀ x ∈ xs, x < 256) (hy : ∀ y ∈ ys, y < 256) : ((strB xs).toList == (strB ys).toList) = decide (xs = ys) := by
  rw [ByteArray.toList_eq, ByteArray.toList_eq, strB_toList, strB_toList, Bool.eq_iff_iff, beq_iff_eq, decide_eq_true_iff]
  exact ⟨map_ofNat_inj xs ys hx hy, fun h => by rw [h]⟩

theorem run_conv {w : World} {v : Value} {xs : List Nat} (h : RdB w v xs) : (convert 25 9 v).run Try.prog w = .ok (.string (strB xs)) w := by
  rcases h with ⟨rfl, ao, c, rfl⟩ | ⟨g, off, cap, rfl, hc⟩
  · rw [run_convert_bytes_string w 25 9 5 ao 0 c Try.underlying25 Try.underlying5 Try.underlying9]
    cases ao with
    | none => simp [Conv.bytesToString]; rfl
    | some a =>
      have hl : (loadCells a 0).run Try.prog w = .ok #[] w := run_loadCells_list (P := Try.prog) w a [] (fun j v hj => by simp at hj)
      simp [Conv.bytesToString, hl]
      rfl
  · refine run_convert_bytes_arg (P := Try.prog) w 25 5 Try.underlying25 Try.underlying5 g off xs.length cap _ (by simp) (fun i hi => ?_) 9 Try.underlying9
    rw [hc i hi]; simp [List.getD_eq_getElem?_getD, List.getElem?_eq_getElem hi]

theorem RdB.of_own {w : World} {base : Nat} {v : Value} {n : Nat} {xs : List Nat} (h : w.ownsRow base 5 1 v n (bv xs)) : RdB w v xs := by
  have hl := h.1
  rw [bv_length] at hl
  rcases h.2 with ⟨rfl, rfl⟩ | ⟨g, cap, cur, rfl, _⟩
  · exact .inl ⟨List.eq_nil_of_length_eq_zero (by omega), none, 0, rfl⟩
  · refine .inr ⟨g, 0, cap, by simp [hl], fun j hj => ?_⟩
    rw [Nat.zero_add, h.cellAt j (by omega), bv_get xs j hj]

theorem RdB.kept {S : Nat → Prop} {w w' : World} {v : Value} {xs : List Nat} (h : RdB w v xs) (hc : Chg S w w') (hS : ∀ k, v.ownBlock = some k → ¬ S k) : RdB w' v xs := by
  rcases h with h | ⟨g, off, cap, rfl, hcell⟩
  · exact .inl h
  · refine .inr ⟨g, off, cap, rfl, fun j hj => ?_⟩
    have := hcell j hj
    have hlt : g < w.heap.size := block_lt_of_cell this
    rw [World.cell?_of_block (w := w) (hc.block g hlt (hS g rfl))]; exact this

set_option maxHeartbeats 400000 in
theorem same_any (v1 v2 : Value) (xs ys : List Nat) (w : World) (h1 : RdB w v1 xs) (h2 : RdB w v2 ys) (hx : ∀ x ∈ xs, x < 256) (hy : ∀ y ∈ ys, y < 256) :
    Calls Try.prog 14 #[v1, v2] w fun e w' => e = .returned (.bool (decide (xs = ys))) ∧ w = w' := by
  have r1 := run_conv h1
  have r2 := run_conv h2
  have HX := Lib.hid hx; have HY := Lib.hid hy
  clear h1 h2 hx hy
  go_enter Try.func14, Try.ntmps14
  go_wp2
  go_ret
  exact ⟨congrArg (fun b => Ending.returned (Value.bool b)) (str_beq xs ys HX.out HY.out), rfl⟩

end Go.Proofs.Ytokeoebhmjefoaa

/- Opening arguments: what every row's last step wants; []byte and []int. -/
namespace Go.Proofs.Ytokeoebhmjefoaa
open Go.ChangeShapes Go.WideShapes Go.ChangeAt Go.RowKit Go.Deep

theorem own : ownKnob Try.prog.godebug = none := by kernel_rfl
theorem laidOut : laidOutB Try.prog = true := by kernel_rfl

theorem spot_none {w : World} {a : Addr} {v : Value} (h : w.cell? (a.add 0) = some v) : ∃ g off, a = ⟨g, off, none⟩ := by
  obtain ⟨b, off, spot⟩ := a
  have hs : spot = none := by simpa [Addr.add] using World.cell?_spot h
  exact ⟨b, off, by rw [hs]⟩

theorem add_lit (g off j : Nat) : (⟨g, off, none⟩ : Addr).add j = ⟨g, off + j, none⟩ := by unfold Addr.add; split <;> simp_all

theorem wf_u32 {x : Int} (h : (Lit.int .u32 x).wf = true) : 0 ≤ x ∧ x < 4294967296 := by
  have := bounds_u32 h; omega

theorem Chg.bel {w w' : World} (h : Chg (fun _ => False) w w') : Below w.heap.size w w' := h.below (Nat.le_refl _) (fun _ _ => by simp)

theorem cellsU8 : Try.prog.cellsOf 5 = 1 := by kernel_rfl

theorem open_bytes {H : Type} {enc : TypeId × Value → H} {W : World} {base : Nat} {spare : Nat → Bool} {held : Bool} {a : Option Addr} {len cap : Nat} {d : DataW H} {p : List MemPlace}
    (h : DataW.Trod enc Try.prog W base spare held 25 (.slice a len cap) d p) : ∃ xs, RdB W (.slice a len cap) xs ∧ ∀ x ∈ xs, x < 256 := by
  obtain ⟨fuel, hf⟩ := h
  rcases open_ints Try.underlying25 Try.underlying5 cellsU8 hf with ⟨hcs, _⟩ | ⟨x, l, c, zs, hcs, _, hl, _, hz, _, hcell, hwz⟩
  · simp [Value.cells] at hcs
    obtain ⟨rfl, rfl, rfl⟩ := hcs
    exact ⟨[], .inl ⟨rfl, none, 0, rfl⟩, by simp⟩
  · simp [Value.cells] at hcs
    obtain ⟨rfl, rfl, rfl⟩ := hcs
    have hlen : len ≤ zs.length := by rw [hz]; split <;> omega
    have hb : ∀ j, j < zs.length → 0 ≤ zs.getD j 0 ∧ zs.getD j 0 < 256 := by
      intro j hj
      have hmem : zs.getD j 0 ∈ zs := by
        rw [List.getD_eq_getElem?_getD, List.getElem?_eq_getElem hj]; exact List.getElem_mem hj
      have := bounds_u8 (hwz _ hmem)
      omega
    refine ⟨(List.range len).map fun j => (zs.getD j 0).toNat, ?_, ?_⟩
    · by_cases h0 : len = 0
      · subst h0
        exact .inl ⟨rfl, some x, cap, rfl⟩
      · obtain ⟨g, off, rfl⟩ := spot_none (hcell 0 (by omega))
        refine .inr ⟨g, off, cap, by simp, fun j hj => ?_⟩
        have hj' : j < len := by simpa using hj
        have hc := hcell j (by omega)
        rw [add_lit] at hc
        rw [hc]
        have := (hb j (by omega)).1
        simp only [List.getD_eq_getElem?_getD, List.getElem?_map, List.getElem?_range hj', Option.map_some, Option.getD_some] at this ⊢
        rw [Int.toNat_of_nonneg this]
    · intro y hy
      simp only [List.mem_map, List.mem_range] at hy
      obtain ⟨j, hj, rfl⟩ := hy
      have := hb j (by omega)
      omega

/-- The value v is a slice of the numbers zs. -/
def RdI (w : World) (v : Value) (zs : List Int) : Prop :=
  (zs = [] ∧ ∃ ao c, v = .slice ao 0 c) ∨ ∃ g off cap, v = .slice (some ⟨g, off, none⟩) zs.length cap ∧ ∀ j, j < zs.length → w.cell? ⟨g, off + j, none⟩ = some (.int .i64 (zs.getD j 0))

theorem RdI.kept {S : Nat → Prop} {w w' : World} {v : Value} {zs : List Int} (h : RdI w v zs) (hc : Chg S w w') (hS : ∀ k, v.ownBlock = some k → ¬ S k) : RdI w' v zs := by
  rcases h with h | ⟨g, off, cap, rfl, hcell⟩
  · exact .inl h
  · refine .inr ⟨g, off, cap, rfl, fun j hj => ?_⟩
    have := hcell j hj
    have hlt : g < w.heap.size := block_lt_of_cell this
    rw [World.cell?_of_block (w := w) (hc.block g hlt (hS g rfl))]; exact this

theorem cellsInt : Try.prog.cellsOf 3 = 1 := by kernel_rfl

end Go.Proofs.Ytokeoebhmjefoaa

/- Counts as lists of 256 whole numbers: sums, how many are above 0, of bytes. Plain. -/
namespace Go.Proofs.Ytokeoebhmjefoaa
open Go

def tot : List Int → Int
  | [] => 0
  | x :: r => x + tot r

def pos : List Int → Nat
  | [] => 0
  | x :: r => (if 0 < x then 1 else 0) + pos r

theorem tot_append (a b : List Int) : tot (a ++ b) = tot a + tot b := by
  induction a with
  | nil => simp [tot]
  | cons x r ih => simp only [List.cons_append, tot, ih]; omega

theorem pos_append (a b : List Int) : pos (a ++ b) = pos a + pos b := by
  induction a with
  | nil => simp [pos]
  | cons x r ih => simp only [List.cons_append, pos, ih]; omega

theorem take_snoc (cs : List Int) (k : Nat) (h : k < cs.length) : cs.take (k + 1) = cs.take k ++ [cs.getD k 0] := by
  rw [List.take_succ_eq_append_getElem h, List.getD_eq_getElem?_getD, List.getElem?_eq_getElem h]; rfl

theorem tot_take_succ (cs : List Int) (k : Nat) (h : k < cs.length) : tot (cs.take (k + 1)) = tot (cs.take k) + cs.getD k 0 := by
  rw [take_snoc cs k h, tot_append]; simp [tot]

theorem pos_take_succ (cs : List Int) (k : Nat) (h : k < cs.length) : pos (cs.take (k + 1)) = pos (cs.take k) + if 0 < cs.getD k 0 then 1 else 0 := by
  rw [take_snoc cs k h, pos_append]; simp [pos]

theorem tot_nonneg (cs : List Int) (h : ∀ c ∈ cs, 0 ≤ c) : 0 ≤ tot cs := by
  induction cs with
  | nil => simp [tot]
  | cons x r ih =>
    have := h x (by simp)
    have := ih (fun c hc => h c (by simp [hc]))
    simp only [tot]; omega

theorem tot_take_le (cs : List Int) (k : Nat) (h : ∀ c ∈ cs, 0 ≤ c) : tot (cs.take k) ≤ tot cs := by
  have := tot_append (cs.take k) (cs.drop k)
  rw [List.take_append_drop] at this
  have := tot_nonneg (cs.drop k) (fun c hc => h c (List.mem_of_mem_drop hc))
  omega

theorem pos_le (cs : List Int) : pos cs ≤ cs.length := by
  induction cs with
  | nil => simp [pos]
  | cons x r ih => simp only [pos, List.length_cons]; split <;> omega

/-- counts that are right -/
def isRight (cs : List Int) : Prop := cs.length = 256 ∧ (∀ c ∈ cs, 0 ≤ c) ∧ tot cs ≤ 1073741824
instance isRight_dec (cs : List Int) : Decidable (isRight cs) := by unfold isRight; infer_instance

def manyI (cs : List Int) : Nat := if isRight cs then pos cs else 0
def totalI (cs : List Int) : Int := if isRight cs then tot cs else 0

theorem manyI_le (cs : List Int) : manyI cs ≤ 256 := by
  unfold manyI
  split
  · next h => have := pos_le cs; have := h.1; omega
  · omega

theorem totalI_le (cs : List Int) : 0 ≤ totalI cs ∧ totalI cs ≤ 1073741824 := by
  unfold totalI
  split
  · next h => exact ⟨tot_nonneg _ h.2.1, h.2.2⟩
  · omega

theorem getD_mem {cs : List Int} {k : Nat} (h : k < cs.length) : cs.getD k 0 ∈ cs := by
  rw [List.getD_eq_getElem?_getD, List.getElem?_eq_getElem h]; exact List.getElem_mem h

theorem isRight.at {cs : List Int} (h : isRight cs) (k : Nat) (hk : k < cs.length) : 0 ≤ cs.getD k 0 ∧ tot (cs.take k) + cs.getD k 0 ≤ 1073741824 := by
  refine ⟨h.2.1 _ (getD_mem hk), ?_⟩
  rw [← tot_take_succ cs k hk]
  exact Int.le_trans (tot_take_le cs (k + 1) h.2.1) h.2.2

theorem isRight.one {cs : List Int} (h : isRight cs) (k : Nat) (hk : k < cs.length) : 0 ≤ cs.getD k 0 ∧ cs.getD k 0 ≤ 1073741824 := by
  have h1 := h.at k hk
  have := tot_nonneg (cs.take k) (fun c hc => h.2.1 c (List.mem_of_mem_take hc))
  omega

/-- the first k are no less than 0 -/
def upTo (cs : List Int) (k : Nat) : Prop := ∀ j, j < k → 0 ≤ cs.getD j 0
theorem upTo_zero (cs : List Int) : upTo cs 0 := fun j hj => by omega
theorem upTo_succ {cs : List Int} {k : Nat} (h : upTo cs k) (h1 : 0 ≤ cs.getD k 0) : upTo cs (k + 1) := fun j hj => by
  by_cases he : j = k
  · rw [he]; exact h1
  · exact h j (by omega)
theorem upTo_all {cs : List Int} {n : Nat} (hn : cs.length = n) (h : upTo cs n) : ∀ c ∈ cs, 0 ≤ c := by
  intro c hc
  obtain ⟨j, hj, rfl⟩ := List.mem_iff_getElem.1 hc
  have := h j (by omega)
  rwa [List.getD_eq_getElem?_getD, List.getElem?_eq_getElem hj] at this
theorem upTo_take {cs : List Int} {k : Nat} (h : upTo cs k) : 0 ≤ tot (cs.take k) := by
  refine tot_nonneg _ fun c hc => ?_
  obtain ⟨j, hj, rfl⟩ := List.mem_iff_getElem.1 hc
  have hl : j < k ∧ j < cs.length := by rw [List.length_take] at hj; omega
  have := h j hl.1
  rw [List.getD_eq_getElem?_getD, List.getElem?_eq_getElem hl.2] at this
  rw [List.getElem_take]; exact this

/-- added one by one -/
def addL (a b : List Int) : List Int := List.zipWith (· + ·) a b

theorem addL_length (a b : List Int) (h : a.length = b.length) : (addL a b).length = a.length := by simp [addL, h]
theorem addL_getD (a b : List Int) (k : Nat) (ha : k < a.length) (hb : k < b.length) : (addL a b).getD k 0 = a.getD k 0 + b.getD k 0 := by
  simp [addL, List.getD_eq_getElem?_getD, List.getElem?_zipWith, List.getElem?_eq_getElem ha, List.getElem?_eq_getElem hb]

theorem tot_addL : ∀ (a b : List Int), a.length = b.length → tot (addL a b) = tot a + tot b
  | [], [], _ => by simp [addL, tot]
  | [], _ :: _, h => by simp at h
  | _ :: _, [], h => by simp at h
  | x :: a, y :: b, h => by
    have ih := tot_addL a b (by simpa using h)
    simp only [addL, List.zipWith_cons_cons, tot] at ih ⊢
    omega

theorem pos_addL : ∀ (a b : List Int), a.length = b.length → (∀ c ∈ a, 0 ≤ c) → (∀ c ∈ b, 0 ≤ c) → pos a ≤ pos (addL a b) ∧ pos b ≤ pos (addL a b) ∧ pos (addL a b) ≤ pos a + pos b
  | [], [], _, _, _ => by simp [addL, pos]
  | [], _ :: _, h, _, _ => by simp at h
  | _ :: _, [], h, _, _ => by simp at h
  | x :: a, y :: b, h, ha, hb => by
    have ih := pos_addL a b (by simpa using h) (fun c hc => ha c (by simp [hc])) (fun c hc => hb c (by simp [hc]))
    have hx := ha x (by simp); have hy := hb y (by simp)
    simp only [addL, List.zipWith_cons_cons, pos] at ih ⊢
    by_cases h1 : 0 < x <;> by_cases h2 : 0 < y <;> by_cases h3 : 0 < x + y <;> simp only [h1, h2, h3, if_true, if_false] <;> omega

theorem addL_nonneg : ∀ (a b : List Int), (∀ c ∈ a, 0 ≤ c) → (∀ c ∈ b, 0 ≤ c) → ∀ c ∈ addL a b, 0 ≤ c
  | [], _, _, _, c, hc => by simp [addL] at hc
  | _ :: _, [], _, _, c, hc => by simp [addL] at hc
  | x :: a, y :: b, ha, hb, c, hc => by
    simp only [addL, List.zipWith_cons_cons, List.mem_cons] at hc
    rcases hc with rfl | hc
    · have := ha x (by simp); have := hb y (by simp); omega
    · exact addL_nonneg a b (fun c hc => ha c (by simp [hc])) (fun c hc => hb c (by simp [hc])) c hc

theorem right_addL {a b : List Int} (ha : isRight a) (hb : isRight b) : isRight (addL a b) ↔ tot a + tot b ≤ 1073741824 := by
  have hl : a.length = b.length := ha.1.trans hb.1.symm
  unfold isRight
  rw [addL_length a b hl, tot_addL a b hl]
  exact ⟨fun h => h.2.2, fun h => ⟨ha.1, addL_nonneg a b ha.2.1 hb.2.1, h⟩⟩

/-- whether two can be added -/
def addOk (a b : List Int) : Prop := isRight a ∧ isRight b ∧ isRight (addL a b)
instance addOk_dec (a b : List Int) : Decidable (addOk a b) := by unfold addOk; infer_instance

theorem adds_not {a b : List Int} (h : ¬ addOk a b) : ¬ (isRight a ∧ isRight b ∧ totalI a ≤ 1073741824 - totalI b) := by
  rintro ⟨ha, hb, ht⟩
  apply h
  refine ⟨ha, hb, (right_addL ha hb).2 ?_⟩
  unfold totalI at ht
  rw [if_pos ha, if_pos hb] at ht
  omega

theorem adds_yes {a b : List Int} (h : addOk a b) : totalI (addL a b) = totalI a + totalI b ∧ manyI a ≤ manyI (addL a b) ∧ manyI b ≤ manyI (addL a b) ∧ manyI (addL a b) ≤ manyI a + manyI b := by
  obtain ⟨ha, hb, hs⟩ := h
  have hl : a.length = b.length := ha.1.trans hb.1.symm
  unfold totalI manyI
  rw [if_pos ha, if_pos hb, if_pos hs, if_pos ha, if_pos hb, if_pos hs]
  exact ⟨tot_addL a b hl, pos_addL a b hl ha.2.1 hb.2.1⟩

/-- how often each byte comes -/
def cnt (xs : List Nat) : List Int := (List.range 256).map fun v => ((xs.count v : Nat) : Int)

theorem cnt_length (xs : List Nat) : (cnt xs).length = 256 := by simp [cnt]
theorem cnt_getD (xs : List Nat) (v : Nat) (h : v < 256) : (cnt xs).getD v 0 = ((xs.count v : Nat) : Int) := by simp [cnt, List.getD_eq_getElem?_getD, h]
theorem cnt_nonneg (xs : List Nat) : ∀ c ∈ cnt xs, 0 ≤ c := by
  intro c hc
  simp only [cnt, List.mem_map] at hc
  obtain ⟨v, _, rfl⟩ := hc
  omega

theorem ext_getD {a b : List Int} (hl : a.length = b.length) (h : ∀ k, k < a.length → a.getD k 0 = b.getD k 0) : a = b := by
  apply List.ext_getElem hl
  intro i h1 h2
  have := h i h1
  rwa [List.getD_eq_getElem?_getD, List.getD_eq_getElem?_getD, List.getElem?_eq_getElem h1, List.getElem?_eq_getElem h2] at this

theorem cnt_append (xs ys : List Nat) : cnt (xs ++ ys) = addL (cnt xs) (cnt ys) := by
  apply ext_getD
  · rw [addL_length _ _ (by rw [cnt_length, cnt_length]), cnt_length, cnt_length]
  · intro k hk
    rw [cnt_length] at hk
    rw [addL_getD _ _ k (by rw [cnt_length]; exact hk) (by rw [cnt_length]; exact hk), cnt_getD _ k hk, cnt_getD _ k hk, cnt_getD _ k hk, List.count_append]
    omega

theorem addL_comm (a b : List Int) : addL a b = addL b a := by
  unfold addL
  rw [List.zipWith_comm]
  congr 1
  funext x y
  omega

theorem cnt_snoc (xs : List Nat) (v : Nat) (hv : v < 256) : cnt (xs ++ [v]) = (cnt xs).set v ((cnt xs).getD v 0 + 1) := by
  apply ext_getD
  · rw [List.length_set, cnt_length, cnt_length]
  · intro k hk
    rw [cnt_length] at hk
    rw [cnt_getD _ k hk, cnt_getD _ v hv, List.count_append]
    by_cases h : v = k
    · subst h
      simp [List.getD_eq_getElem?_getD, cnt_length, hk]
    · rw [List.getD_eq_getElem?_getD, List.getElem?_set_ne h, ← List.getD_eq_getElem?_getD, cnt_getD _ k hk]
      have : List.count k [v] = 0 := by rw [List.count_eq_zero]; simp; omega
      rw [this]; simp

theorem tot_set (l : List Int) (i : Nat) (y : Int) (h : i < l.length) : tot (l.set i y) + l.getD i 0 = tot l + y := by
  induction l generalizing i with
  | nil => simp at h
  | cons x r ih =>
    cases i with
    | zero => simp [tot]; omega
    | succ i =>
      have := ih i (by simpa using h)
      simp only [List.set_cons_succ, tot, List.getD_cons_succ] at this ⊢
      omega

theorem pos_set (l : List Int) (i : Nat) (y : Int) (h : i < l.length) : pos (l.set i y) + (if 0 < l.getD i 0 then 1 else 0) = pos l + if 0 < y then 1 else 0 := by
  induction l generalizing i with
  | nil => simp at h
  | cons x r ih =>
    cases i with
    | zero => simp [pos]; omega
    | succ i =>
      have := ih i (by simpa using h)
      simp only [List.set_cons_succ, pos, List.getD_cons_succ] at this ⊢
      omega

theorem tot_zeros (n : Nat) : tot (List.replicate n 0) = 0 := by
  induction n with
  | zero => rfl
  | succ n ih => simp only [List.replicate_succ, tot, ih]; rfl

theorem count_none (n : Nat) : ((List.range n).map fun v => ((([] : List Nat).count v : Nat) : Int)) = List.replicate n 0 := by
  apply List.ext_getElem (by simp)
  intro i h1 h2
  simp
theorem cnt_nil : cnt [] = List.replicate 256 0 := count_none 256

theorem snoc_ind {P : List Nat → Prop} (h0 : P []) (h1 : ∀ xs x, P xs → P (xs ++ [x])) (xs : List Nat) : P xs := by
  rw [← List.reverse_reverse xs]
  induction xs.reverse with
  | nil => simpa using h0
  | cons x r ih => rw [List.reverse_cons]; exact h1 _ _ ih

theorem tot_cnt (xs : List Nat) : (∀ x ∈ xs, x < 256) → tot (cnt xs) = (xs.length : Int) := by
  refine snoc_ind (P := fun xs => (∀ x ∈ xs, x < 256) → tot (cnt xs) = (xs.length : Int)) ?_ ?_ xs
  · intro _
    rw [cnt_nil, tot_zeros]; rfl
  · intro xs x ih hx
    have hx0 : x < 256 := hx x (by simp)
    have := ih (fun y hy => hx y (by simp [hy]))
    have hs := tot_set (cnt xs) x ((cnt xs).getD x 0 + 1) (by rw [cnt_length]; exact hx0)
    rw [cnt_snoc xs x hx0]
    simp only [List.length_append, List.length_cons, List.length_nil]
    omega

theorem cnt_right (xs : List Nat) (hx : ∀ x ∈ xs, x < 256) (hl : xs.length ≤ 1073741824) : isRight (cnt xs) :=
  ⟨cnt_length xs, cnt_nonneg xs, by rw [tot_cnt xs hx]; omega⟩

theorem total_cnt (xs : List Nat) (hx : ∀ x ∈ xs, x < 256) (hl : xs.length ≤ 1073741824) : totalI (cnt xs) = (xs.length : Int) := by
  unfold totalI; rw [if_pos (cnt_right xs hx hl), tot_cnt xs hx]

theorem addOk_cnt (xs ys : List Nat) (hx : ∀ x ∈ xs, x < 256) (hy : ∀ x ∈ ys, x < 256) (hl : xs.length + ys.length ≤ 1073741824) : addOk (cnt xs) (cnt ys) := by
  refine ⟨cnt_right xs hx (by omega), cnt_right ys hy (by omega), ?_⟩
  rw [← cnt_append]
  refine cnt_right _ (fun x h => ?_) (by rw [List.length_append]; omega)
  rcases List.mem_append.1 h with h | h
  · exact hx x h
  · exact hy x h

theorem many_snoc (xs : List Nat) (v : Nat) (hx : ∀ x ∈ xs, x < 256) (hv : v < 256) (hl : xs.length < 1073741824) :
    manyI (cnt (xs ++ [v])) = if (cnt xs).getD v 0 = 0 then manyI (cnt xs) + 1 else manyI (cnt xs) := by
  have h1 := cnt_right xs hx (by omega)
  have h2 := cnt_right (xs ++ [v]) (fun x h => by
    rcases List.mem_append.1 h with h | h
    · exact hx x h
    · simp at h; omega) (by simp; omega)
  unfold manyI
  rw [if_pos h1, if_pos h2, cnt_snoc xs v hv]
  have hs := pos_set (cnt xs) v ((cnt xs).getD v 0 + 1) (by rw [cnt_length]; exact hv)
  have hn := cnt_nonneg xs _ (getD_mem (cs := cnt xs) (k := v) (by rw [cnt_length]; exact hv))
  rw [if_pos (show 0 < (cnt xs).getD v 0 + 1 by omega)] at hs
  by_cases h0 : (cnt xs).getD v 0 = 0
  · rw [if_pos h0]
    rw [if_neg (show ¬ 0 < (cnt xs).getD v 0 by omega)] at hs
    omega
  · rw [if_neg h0]
    rw [if_pos (show 0 < (cnt xs).getD v 0 by omega)] at hs
    omega

end Go.Proofs.Ytokeoebhmjefoaa

/- Plain mathematics (no program): the bits of bytes, the mark, numbers out of bits. -/
namespace Go.Proofs.Ytokeoebhmjefoaa

theorem val_bitsOf (v n : Nat) : val (bitsOf v n) = v % 2 ^ n := by
  induction n with
  | zero => simp [bitsOf, val, Nat.mod_one]
  | succ n ih =>
    rw [bitsOf, val_append, ih, bitsOf_length, Nat.mod_pow_succ]
    congr 2
    have := Nat.mod_two_eq_zero_or_one (v / 2 ^ n)
    rcases this with h | h <;> simp [val, h]

theorem val_zeros (l : List Bool) (k : Nat) : val (l ++ List.replicate k false) = val l := by
  rw [val_append]
  have : val (List.replicate k false) = 0 := by
    induction k with
    | zero => rfl
    | succ k ih => simp [List.replicate_succ, val, ih]
  rw [this]; simp

theorem val_div (l : List Bool) (i : Nat) : val l / 2 ^ i = val (l.drop i) := by
  by_cases h : i ≤ l.length
  · have e : val l = val (l.take i) + 2 ^ i * val (l.drop i) := by
      conv => lhs; rw [← List.take_append_drop i l, val_append]
      rw [List.length_take, Nat.min_eq_left h]
    have h1 := val_lt (l.take i)
    rw [List.length_take, Nat.min_eq_left h] at h1
    rw [e, Nat.add_mul_div_left _ _ (Nat.pow_pos (by omega)), Nat.div_eq_of_lt h1, Nat.zero_add]
  · rw [List.drop_eq_nil_of_le (by omega)]
    have h1 := val_lt l
    have h2 : 2 ^ l.length ≤ 2 ^ i := Nat.pow_le_pow_right (by omega) (by omega)
    rw [Nat.div_eq_of_lt (by omega)]; rfl

theorem val_odd (l : List Bool) : decide (val l % 2 = 1) = l.getD 0 false := by
  cases l with
  | nil => rfl
  | cons b r =>
    have e : val (b :: r) % 2 = b.toNat := by
      simp only [val]
      cases b <;> simp <;> omega
    rw [e]; cases b <;> rfl

theorem val_bit (l : List Bool) (i : Nat) : decide (val l / 2 ^ i % 2 = 1) = l.getD i false := by
  rw [val_div, val_odd]
  simp [List.getD_eq_getElem?_getD]

theorem bitsOf_val (l : List Bool) : bitsOf (val l) l.length = l := by
  apply List.ext_getElem (by rw [bitsOf_length])
  intro i h1 h2
  rw [bitsOf_getElem, val_bit, List.getD_eq_getElem?_getD, List.getElem?_eq_getElem h2]; rfl

/-- the bits of bytes, each byte's lowest first -/
def bitsB : List Nat → List Bool
  | [] => []
  | x :: r => bitsOf x 8 ++ bitsB r

theorem bitsB_length (xs : List Nat) : (bitsB xs).length = 8 * xs.length := by
  induction xs with
  | nil => rfl
  | cons x r ih => simp [bitsB, bitsOf_length, ih]; omega

theorem bitsB_append (xs ys : List Nat) : bitsB (xs ++ ys) = bitsB xs ++ bitsB ys := by
  induction xs with
  | nil => rfl
  | cons x r ih => simp [bitsB, ih]

theorem bitsB_get (xs : List Nat) (i : Nat) (h : i < 8 * xs.length) : (bitsB xs)[i]? = some (decide (xs.getD (i / 8) 0 / 2 ^ (i % 8) % 2 = 1)) := by
  induction xs generalizing i with
  | nil => simp at h
  | cons x r ih =>
    simp only [bitsB]
    by_cases hi : i < 8
    · rw [List.getElem?_append_left (by rw [bitsOf_length]; exact hi), List.getElem?_eq_getElem (by rw [bitsOf_length]; exact hi), bitsOf_getElem]
      rw [show i / 8 = 0 from by omega, show i % 8 = i from by omega]; rfl
    · rw [List.getElem?_append_right (by rw [bitsOf_length]; omega), bitsOf_length, ih (i - 8) (by simp at h; omega)]
      rw [show i / 8 = (i - 8) / 8 + 1 from by omega, show (i - 8) % 8 = i % 8 from by omega]; rfl

theorem pack_bitsB (xs : List Nat) (h : ∀ x ∈ xs, x < 256) : pack (bitsB xs) = xs := by
  induction xs with
  | nil => rfl
  | cons x r ih =>
    simp only [bitsB]
    rw [pack_append _ _ (by rw [bitsOf_length]), ih (fun y hy => h y (by simp [hy]))]
    have e : pack (bitsOf x 8) = [x] := by
      have hx := h x (by simp)
      have hv : byteAt (bitsOf x 8) 0 = x := by
        unfold byteAt
        rw [Nat.mul_zero, List.drop_zero, List.take_of_length_le (by rw [bitsOf_length]; exact Nat.le_refl _), val_bitsOf, Nat.mod_eq_of_lt (by omega)]
      unfold pack
      rw [bitsOf_length]
      show List.map (byteAt (bitsOf x 8)) (List.range 1) = [x]
      simp [List.range_succ, hv]
    rw [e]; rfl

theorem bitsB_pack (bs : List Bool) : bitsB (pack bs) = bs ++ List.replicate (8 * ((bs.length + 7) / 8) - bs.length) false := by
  apply List.ext_getElem?
  intro i
  by_cases h : i < 8 * ((bs.length + 7) / 8)
  · rw [bitsB_get _ _ (by rw [pack_length]; exact h), List.getD_eq_getElem?_getD, pack_getElem? _ _ (by omega), Option.getD_some]
    unfold byteAt
    rw [val_bit]
    by_cases hi : i < bs.length
    · rw [List.getElem?_append_left hi, List.getElem?_eq_getElem hi, List.getD_eq_getElem?_getD, List.getElem?_take, if_pos (by omega), List.getElem?_drop, show 8 * (i / 8) + i % 8 = i from by omega, List.getElem?_eq_getElem hi]; rfl
    · rw [List.getElem?_append_right (by omega), List.getElem?_replicate, if_pos (by omega), List.getD_eq_getElem?_getD, List.getElem?_take, if_pos (by omega), List.getElem?_drop, show 8 * (i / 8) + i % 8 = i from by omega, List.getElem?_eq_none (by omega)]; rfl
  · rw [List.getElem?_eq_none (by rw [bitsB_length, pack_length]; omega), List.getElem?_eq_none (by simp; omega)]

theorem byteAt_zeros (l : List Bool) (k j : Nat) : byteAt (l ++ List.replicate k false) j = byteAt l j := by
  unfold byteAt
  rw [List.drop_append, List.take_append, List.drop_replicate, List.take_replicate, val_zeros]

theorem pack_zeros (l : List Bool) (k : Nat) (h : (l.length + k + 7) / 8 = (l.length + 7) / 8) : pack (l ++ List.replicate k false) = pack l := by
  apply List.ext_getElem (by simp [pack_length, h])
  intro j h1 h2
  rw [pack_getElem, pack_getElem, byteAt_zeros]

/-- how many bits a byte needs -/
def len8 (x : Nat) : Nat := if x = 0 then 0 else Nat.log2 x + 1

theorem len8_facts : ∀ x, x < 256 → x ≠ 0 → 1 ≤ len8 x ∧ len8 x ≤ 8 ∧ x / 2 ^ (len8 x - 1) % 2 = 1 ∧ ∀ j, j < 8 → len8 x ≤ j → x / 2 ^ j % 2 = 0 := by decide +kernel

/-- where the mark stands -/
def markPos (xs : List Nat) : Nat := 8 * (xs.length - 1) + len8 (xs.getD (xs.length - 1) 0) - 1
def openB (xs : List Nat) : List Bool := (bitsB xs).take (markPos xs)

theorem getD_lt (xs : List Nat) (h : ∀ x ∈ xs, x < 256) (i : Nat) : xs.getD i 0 < 256 := by
  rw [List.getD_eq_getElem?_getD]
  by_cases hi : i < xs.length
  · rw [List.getElem?_eq_getElem hi]; exact h _ (List.getElem_mem hi)
  · rw [List.getElem?_eq_none (by omega)]; decide

theorem markPos_lt (xs : List Nat) (hb : ∀ x ∈ xs, x < 256) (h0 : xs ≠ []) (hl : xs.getD (xs.length - 1) 0 ≠ 0) : 8 * (xs.length - 1) ≤ markPos xs ∧ markPos xs < 8 * xs.length := by
  have hn : 0 < xs.length := List.length_pos_iff.2 h0
  obtain ⟨f1, f2, _⟩ := len8_facts _ (getD_lt xs hb (xs.length - 1)) hl
  unfold markPos; omega

theorem openB_length (xs : List Nat) (hb : ∀ x ∈ xs, x < 256) (h0 : xs ≠ []) (hl : xs.getD (xs.length - 1) 0 ≠ 0) : (openB xs).length = markPos xs := by
  have := markPos_lt xs hb h0 hl
  unfold openB; rw [List.length_take, bitsB_length]; omega

theorem mark_split (xs : List Nat) (hb : ∀ x ∈ xs, x < 256) (h0 : xs ≠ []) (hl : xs.getD (xs.length - 1) 0 ≠ 0) :
    bitsB xs = openB xs ++ true :: List.replicate (8 * xs.length - markPos xs - 1) false := by
  have hn : 0 < xs.length := List.length_pos_iff.2 h0
  have hm := markPos_lt xs hb h0 hl
  have hlen := openB_length xs hb h0 hl
  obtain ⟨f1, f2, f3, f4⟩ := len8_facts _ (getD_lt xs hb (xs.length - 1)) hl
  have em : markPos xs = 8 * (xs.length - 1) + len8 (xs.getD (xs.length - 1) 0) - 1 := rfl
  generalize len8 (xs.getD (xs.length - 1) 0) = L at *
  apply List.ext_getElem?
  intro i
  by_cases hi : i < markPos xs
  · rw [List.getElem?_append_left (by omega)]
    unfold openB
    rw [List.getElem?_take, if_pos hi]
  · rw [List.getElem?_append_right (by omega), hlen]
    by_cases he : i = markPos xs
    · rw [he, Nat.sub_self, bitsB_get _ _ (by omega), show markPos xs / 8 = xs.length - 1 from by omega, show markPos xs % 8 = L - 1 from by omega, f3]; rfl
    · by_cases hb2 : i < 8 * xs.length
      · rw [bitsB_get _ _ hb2, show i / 8 = xs.length - 1 from by omega, f4 (i % 8) (by omega) (by omega)]
        rw [show i - markPos xs = (i - markPos xs - 1) + 1 from by omega, List.getElem?_cons_succ, List.getElem?_replicate, if_pos (by omega)]; rfl
      · rw [List.getElem?_eq_none (by rw [bitsB_length]; omega), List.getElem?_eq_none (by simp; omega)]

theorem mark_unique (a b : List Bool) (k m : Nat) (h : a ++ true :: List.replicate k false = b ++ true :: List.replicate m false) : a = b := by
  have key : ∀ (l : List Bool) (n : Nat), (l ++ true :: List.replicate n false).reverse.dropWhile (fun x => !x) = true :: l.reverse := by
    intro l n
    rw [List.reverse_append, List.reverse_cons, List.reverse_replicate, List.append_assoc]
    induction n with
    | zero => simp
    | succ n _ => simp [List.replicate_succ]
  have h1 := key a k
  rw [h, key b m] at h1
  simp at h1
  exact h1.symm

theorem close_last (bs : List Bool) : (pack (bs ++ [true])).length = bs.length / 8 + 1 ∧ (pack (bs ++ [true])).getD ((pack (bs ++ [true])).length - 1) 0 ≠ 0 ∧ pack (bs ++ [true]) ≠ [] := by
  have el : (pack (bs ++ [true])).length = bs.length / 8 + 1 := by rw [pack_length]; simp; omega
  refine ⟨el, ?_, fun h => by rw [h] at el; simp at el⟩
  rw [el, Nat.add_sub_cancel, List.getD_eq_getElem?_getD, pack_getElem? _ _ (by simp; omega), Option.getD_some]
  intro h
  have := mark_byte bs
  rw [h] at this; simp at this

theorem openB_close (bs : List Bool) : openB (pack (bs ++ [true])) = bs := by
  obtain ⟨el, hl, h0⟩ := close_last bs
  have hs := mark_split _ (pack_lt _) h0 hl
  rw [bitsB_pack, List.append_assoc] at hs
  exact (mark_unique _ _ _ _ hs).symm

theorem pack_openB (xs : List Nat) (hb : ∀ x ∈ xs, x < 256) (h0 : xs ≠ []) (hl : xs.getD (xs.length - 1) 0 ≠ 0) : pack (openB xs ++ [true]) = xs := by
  have hn : 0 < xs.length := List.length_pos_iff.2 h0
  have hs := mark_split xs hb h0 hl
  have hm := markPos_lt xs hb h0 hl
  have hlen := openB_length xs hb h0 hl
  have e := pack_bitsB xs hb
  rw [hs, show openB xs ++ true :: List.replicate (8 * xs.length - markPos xs - 1) false = (openB xs ++ [true]) ++ List.replicate (8 * xs.length - markPos xs - 1) false from by simp, pack_zeros _ _ (by simp [hlen]; omega)] at e
  exact e

/-- what Take tells, and what it leaves -/
def takeV (bs : List Bool) (n : Nat) : Nat := val (bs.drop (bs.length - n))
def takeR (bs : List Bool) (n : Nat) : List Bool := bs.take (bs.length - n)

theorem takeV_lt (bs : List Bool) (n : Nat) : takeV bs n < 2 ^ n := by
  have h := val_lt (bs.drop (bs.length - n))
  have h2 : 2 ^ (bs.drop (bs.length - n)).length ≤ 2 ^ n := Nat.pow_le_pow_right (by omega) (by simp; omega)
  unfold takeV; omega

theorem takeR_length (bs : List Bool) (n : Nat) : (takeR bs n).length = bs.length - n := by simp [takeR]

theorem drop_split (l : List Bool) (a b : Nat) (h : a ≤ b) (hb : b ≤ l.length) : l.drop a = (l.take b).drop a ++ l.drop b := by
  conv => lhs; rw [← List.take_append_drop b l, List.drop_append]
  rw [List.length_take, Nat.min_eq_left hb, Nat.sub_eq_zero_of_le h, List.drop_zero]

theorem take_split (bs : List Bool) (k c : Nat) (hk : k ≤ bs.length) (hc : c ≤ k) : takeV bs k = takeV (takeR bs c) (k - c) + 2 ^ (k - c) * takeV bs c ∧ takeR bs k = takeR (takeR bs c) (k - c) := by
  unfold takeV takeR
  rw [List.length_take, Nat.min_eq_left (by omega), show bs.length - c - (k - c) = bs.length - k from by omega]
  refine ⟨?_, by rw [List.take_take, Nat.min_eq_left (by omega)]⟩
  have e := drop_split bs (bs.length - k) (bs.length - c) (by omega) (by omega)
  rw [e, val_append]
  congr 2
  simp; congr 1; omega

theorem take_put (bs : List Bool) (v n : Nat) : takeV (bs ++ bitsOf v n) n = v % 2 ^ n ∧ takeR (bs ++ bitsOf v n) n = bs := by
  unfold takeV takeR
  rw [List.length_append, bitsOf_length, Nat.add_sub_cancel]
  rw [List.drop_left, List.take_left]
  exact ⟨val_bitsOf v n, rfl⟩

end Go.Proofs.Ytokeoebhmjefoaa

/- A bitr.Reader in memory; what bitr's Len8, bitAt, markAt, Left do. -/
namespace Go.Proofs.Ytokeoebhmjefoaa
open Go.RowKit

theorem len8_le (x : Nat) (h : x < 256) : len8 x ≤ 8 := bitLen_le8 x h

set_option maxRecDepth 100000 in
set_option maxHeartbeats 400000 in
theorem len8_any (x : Nat) (hx : x < 256) (w : World) : Calls Try.prog 80 #[.int .u8 (x : Int)] w fun e w' => e = .returned (.int .i64 (len8 x : Int)) ∧ w = w' := by
  go_enter Try.func80, Try.ntmps80
  go_wp2
  rw [len8tab_get]
  go_ret
  refine ⟨congrArg (fun z => Ending.returned (Value.int .i64 z)) ?_, rfl⟩
  have := bitLen_le8 x hx
  rw [show wrap64 (bitLen x : Int) = bitLen x from by unfold wrap64; omega]
  rfl

theorem and_one (y : Nat) (hy : y < 4294967296) : bits BinOp.and IntKind.u32 (y : Int) 1 = ((y % 2 : Nat) : Int) := by
  have h := bits_mask .u32 32 (by decide) wraps_u32 1 (by decide) (y : Int) (by omega) (by omega)
  rw [show (1 : Int) = 2 ^ 1 - 1 from by decide, h]
  simp

/-- the value is a slice of bytes in the block g, all of it -/
theorem bitAt_any (g off i cap n x : Nat) (w : World) (hc : w.cell? ⟨g, off + i / 8, none⟩ = some (.int .u8 (x : Int))) (hi : i / 8 < n) (hi2 : i < 1000000000000) (hx : x < 256) :
    Calls Try.prog 81 #[.slice (some ⟨g, off, none⟩) n cap, .int .i64 (i : Int)] w fun e w' => e = .returned (.int .u32 ((x / 2 ^ (i % 8) % 2 : Nat) : Int)) ∧ w' = w := by
  have H := Lib.hid (and_one (x / 2 ^ (i % 8)) (by have := Nat.div_le_self x (2 ^ (i % 8)); omega))
  go_enter Try.func81, Try.ntmps81
  go_wp2
  go_ret
  refine ⟨congrArg (fun z => Ending.returned (Value.int .u32 z)) ?_, rfl⟩
  have e : ((x : Int) / 2 ^ (i % 8) % 4294967296) = ((x / 2 ^ (i % 8) : Nat) : Int) := by
    have e1 : ((x : Int) / 2 ^ (i % 8)) = ((x / 2 ^ (i % 8) : Nat) : Int) := by simp
    have := Nat.div_le_self x (2 ^ (i % 8))
    rw [e1]
    generalize x / 2 ^ (i % 8) = y at *
    omega
  rw [e]; exact H.out

theorem bitAt_y (g off i cap n x y : Nat) (w : World) (hc : w.cell? ⟨g, off + i / 8, none⟩ = some (.int .u8 (x : Int))) (hi : i / 8 < n) (hi2 : i < 1000000000000) (hx : x < 256) (hy : x / 2 ^ (i % 8) % 2 = y) :
    Calls Try.prog 81 #[.slice (some ⟨g, off, none⟩) n cap, .int .i64 (i : Int)] w fun e w' => e = .returned (.int .u32 (y : Int)) ∧ w' = w := by
  rw [← hy]; exact bitAt_any g off i cap n x w hc hi hi2 hx

set_option maxHeartbeats 400000 in
theorem markAt_any (g off n cap x : Nat) (w : World) (hn : 0 < n) (hn2 : n < 100000000000) (hc : w.cell? ⟨g, off + (n - 1), none⟩ = some (.int .u8 (x : Int))) (hx : x < 256) :
    Calls Try.prog 53 #[.slice (some ⟨g, off, none⟩) n cap] w fun e w' => e = .returned (.int .i64 (8 * ((n : Int) - 1) + (len8 x : Int) - 1)) ∧ w' = w := by
  obtain ⟨m, rfl⟩ : ∃ m, n = m + 1 := ⟨n - 1, by omega⟩
  rw [Nat.add_sub_cancel] at hc
  have h8 := len8_le x hx
  go_enter Try.func53, Try.ntmps53
  go_wp2_with fail
  refine (len8_any x hx w).mono ?_
  rintro e w' ⟨rfl, rfl⟩
  go_wp2
  go_ret
  exact ⟨congrArg (fun z => Ending.returned (Value.int .i64 z)) (by omega), rfl⟩

/-- The Reader at block b, its bytes in the block g, has the bits bs. -/
def Rr (w : World) (b g : Nat) (bs : List Bool) : Prop :=
  ∃ xs : List Nat, (∀ x ∈ xs, x < 256) ∧ xs.length < 100000000000 ∧ bs.length ≤ 8 * xs.length ∧ bs = (bitsB xs).take bs.length ∧
    w.heap[b]? = some (.cells #[.slice (some ⟨g, 0, none⟩) xs.length xs.length, .int .i64 (bs.length : Int)] 99 (0, 0)) ∧
    w.heap[g]? = some (.cells (bv xs).toArray 5 (0, 0))

theorem Rr.lt {w : World} {b g : Nat} {bs : List Bool} (h : Rr w b g bs) : b < w.heap.size ∧ g < w.heap.size ∧ b ≠ g := by
  obtain ⟨xs, _, _, _, _, hb, hg⟩ := h
  refine ⟨lt_of_block hb, lt_of_block hg, ?_⟩
  rintro rfl
  rw [hb] at hg
  simp at hg

theorem Rr.kept {S : Nat → Prop} {w w' : World} {b g : Nat} {bs : List Bool} (h : Rr w b g bs) (hc : Chg S w w') (h1 : ¬ S b) (h2 : ¬ S g) : Rr w' b g bs := by
  have hl := h.lt
  obtain ⟨xs, e1, e2, e3, e4, hb, hg⟩ := h
  exact ⟨xs, e1, e2, e3, e4, (hc.block b hl.1 h1).trans hb, (hc.block g hl.2.1 h2).trans hg⟩

theorem row_cells {w : World} {g : Nat} {t : TypeId} {xs : List Nat} (h : w.heap[g]? = some (.cells (bv xs).toArray t (0, 0))) (j : Nat) (hj : j < xs.length) : w.cell? ⟨g, j, none⟩ = some (.int .u8 ((xs.getD j 0 : Nat) : Int)) := by
  rw [cell_of_row w g j _ t _ h, List.getElem?_toArray, bv_get xs j hj]

theorem left_any (b g : Nat) (bs : List Bool) (w : World) (h : Rr w b g bs) :
    Calls Try.prog 60 #[.pointer (some ⟨b, 0, none⟩)] w fun e w' => e = .returned (.int .i64 (bs.length : Int)) ∧ w = w' := by
  obtain ⟨xs, -, -, -, -, hb, -⟩ := h
  obtain ⟨c0, c1, f0, f1⟩ := cells2 hb
  clear hb
  go_enter Try.func60, Try.ntmps60
  go_wp2
  go_ret
  exact ⟨rfl, rfl⟩

set_option maxHeartbeats 400000 in
theorem take_no (b g : Nat) (bs : List Bool) (n : Int) (w : World) (h : Rr w b g bs) (hn : n < 0 ∨ 24 < n ∨ (bs.length : Int) < n) :
    Calls Try.prog 54 #[.pointer (some ⟨b, 0, none⟩), .int .i64 n] w fun e w' => e = .returned (.tuple #[.int .u32 0, .bool false]) ∧ w = w' := by
  obtain ⟨xs, -, -, -, -, hb, -⟩ := h
  obtain ⟨c0, c1, f0, f1⟩ := cells2 hb
  clear hb
  by_cases h0 : n < 0
  · have h0' : decide (n < 0) = true := by simpa using h0
    go_enter Try.func54, Try.ntmps54
    go_wp2
    go_ret2
    exact ⟨rfl, rfl⟩
  · have h0' : decide (n < 0) = false := by simpa using h0
    by_cases h1 : 24 < n
    · have h1' : decide (24 < n) = true := by simpa using h1
      go_enter Try.func54, Try.ntmps54
      go_wp2
      go_ret2
      exact ⟨rfl, rfl⟩
    · have h1' : decide (24 < n) = false := by simpa using h1
      have h2' : decide ((bs.length : Int) < n) = true := by simp; omega
      go_enter Try.func54, Try.ntmps54
      go_wp2
      go_ret2
      exact ⟨rfl, rfl⟩

theorem bits_or_nat (k : IntKind) (hk : ∀ n : Int, 0 ≤ n → n < 2 ^ k.bits → k.wrap n = n) (a b : Nat) (ha : a < 2 ^ k.bits) (hb : b < 2 ^ k.bits) : bits .or k a b = ((a ||| b : Nat) : Int) := by
  simp only [bits, BitVec.ofInt_natCast, BitVec.toNat_or, BitVec.toNat_ofNat, Nat.mod_eq_of_lt ha, Nat.mod_eq_of_lt hb]
  exact hk _ (Int.natCast_nonneg _) (by exact_mod_cast Nat.or_lt_two_pow ha hb)

theorem or_shift (v i y : Nat) (hv : v < 2 ^ i) (hi : i ≤ 24) (hy : y < 2) : bits .or .u32 (v : Int) ((y : Int) * 2 ^ i % 4294967296) = ((v + y * 2 ^ i : Nat) : Int) := by
  have hp : 2 ^ i ≤ 2 ^ 24 := Nat.pow_le_pow_right (by omega) hi
  have hlt : y * 2 ^ i ≤ 2 ^ 24 := by
    have : y * 2 ^ i ≤ 1 * 2 ^ i := Nat.mul_le_mul_right _ (by omega)
    omega
  have e : ((y : Int) * 2 ^ i % 4294967296) = ((y * 2 ^ i : Nat) : Int) := by
    have e1 : ((y : Int) * 2 ^ i) = ((y * 2 ^ i : Nat) : Int) := by simp
    rw [e1]
    generalize y * 2 ^ i = z at *
    omega
  rw [e, bits_or_nat .u32 wraps_u32 v _ (by simp only [IntKind.bits]; omega) (by simp only [IntKind.bits]; omega)]
  congr 1
  have := Nat.two_pow_add_eq_or_of_lt hv y
  rw [Nat.or_comm, Nat.mul_comm y, ← this, Nat.add_comm]

theorem val_take_succ (D : List Bool) (i : Nat) (h : i < D.length) : val (D.take (i + 1)) = val (D.take i) + (D[i]).toNat * 2 ^ i := by
  rw [List.take_succ_eq_append_getElem h, val_append]
  simp only [val, List.length_take, Nat.min_eq_left (Nat.le_of_lt h)]
  simp [Nat.mul_comm]

theorem val_take_lt (D : List Bool) (i : Nat) : val (D.take i) < 2 ^ i := by
  have h := val_lt (D.take i)
  have h2 : 2 ^ (D.take i).length ≤ 2 ^ i := Nat.pow_le_pow_right (by omega) (List.length_take_le _ _)
  omega

theorem toNat_bit (y : Nat) (b : Bool) (h : b = decide (y % 2 = 1)) : y % 2 = b.toNat := by
  subst h
  have := Nat.mod_two_eq_zero_or_one y
  rcases this with h | h <;> simp [h]

set_option maxHeartbeats 1000000 in
theorem take_yes (b g : Nat) (bs : List Bool) (n : Nat) (w : World) (h : Rr w b g bs) (hn : n ≤ 24) (hnl : n ≤ bs.length) :
    Calls Try.prog 54 #[.pointer (some ⟨b, 0, none⟩), .int .i64 (n : Int)] w fun e w' => e = .returned (.tuple #[.int .u32 ((takeV bs n : Nat) : Int), .bool true]) ∧ Rr w' b g (takeR bs n) ∧ Chg (fun k => k = b) w w' := by
  have hl := h.lt
  obtain ⟨xs, hx, hxl, hle, hbs, hb, hg⟩ := h
  obtain ⟨c0, c1, f0, f1⟩ := cells2 hb
  have h0' : decide ((n : Int) < 0) = false := by simp
  have h1' : decide (24 < (n : Int)) = false := by simp; omega
  have h2' : decide ((bs.length : Int) < (n : Int)) = false := by simp; omega
  obtain ⟨m, hm⟩ : ∃ m, bs.length = m + n := ⟨bs.length - n, by omega⟩
  have hb1 := set2_1 (u := .int .i64 ((bs.length : Int) - (n : Int))) hb
  have hg1 : (w.setCell ⟨b, 1, none⟩ (.int .i64 ((bs.length : Int) - (n : Int)))).heap[g]? = some (.cells (bv xs).toArray 5 (0, 0)) := by
    rw [heap_setCell_other w ⟨b, 1, none⟩ g _ (fun h => hl.2.2 h.symm)]; exact hg
  have hc1 := Chg.setCell w ⟨b, 1, none⟩ (.int .i64 ((bs.length : Int) - (n : Int)))
  have HB1 := Lib.hid hb1; have HG1 := Lib.hid hg1; have HC1 := Lib.hid hc1; have HBS := Lib.hid hbs; have HM := Lib.hid hm
  have hbit : ∀ i, i < n → ∃ hi : i < (bs.drop m).length, (bs.drop m)[i] = decide (xs.getD ((m + i) / 8) 0 / 2 ^ ((m + i) % 8) % 2 = 1) := by
    intro i hi
    refine ⟨by rw [List.length_drop]; omega, ?_⟩
    have e1 : bs[m + i]? = some (decide (xs.getD ((m + i) / 8) 0 / 2 ^ ((m + i) % 8) % 2 = 1)) := by
      rw [hbs, List.getElem?_take, if_pos (by omega), bitsB_get _ _ (by omega)]
    rw [List.getElem?_eq_getElem (by omega)] at e1
    rw [List.getElem_drop]
    exact Option.some.inj e1
  have HBIT := Lib.hid hbit
  have HFIN : Hid (val ((bs.drop m).take n) = takeV bs n) := by
    refine Lib.hid ?_
    rw [show (bs.drop m).take n = bs.drop m from List.take_of_length_le (by rw [List.length_drop]; omega)]
    unfold takeV
    rw [show bs.length - n = m from by omega]
  have HTR : Hid (takeR bs n = (bitsB xs).take m) := by
    refine Lib.hid ?_
    unfold takeR
    rw [show bs.length - n = m from by omega]
    conv => lhs; rw [hbs]
    rw [List.take_take, Nat.min_eq_left (by omega)]
  clear hb1 hg1 hc1 hb hg hbs hm hbit
  go_enter Try.func54, Try.ntmps54
  go_wp2
  generalize w.setCell ⟨b, 1, none⟩ (.int .i64 ((bs.length : Int) - (n : Int))) = w1 at *
  go_loopw [6, 31] (fun o6 o31 wr => ∃ k : Nat, k ≤ n ∧ o31 = .int .i64 (k : Int) ∧ o6 = .int .u32 ((val ((bs.drop m).take k) : Nat) : Int) ∧ wr.heap[b]? = some (.cells #[.slice (some ⟨g, 0, none⟩) xs.length xs.length, .int .i64 (m : Int)] 99 (0, 0)) ∧ wr.heap[g]? = some (.cells (bv xs).toArray 5 (0, 0)) ∧ Chg (fun k => k = b) w wr) (fun _ o31 _ => n - (intOf o31).toNat)
  case atStart =>
    refine ⟨0, Nat.zero_le _, rfl, by simp [val], ?_, HG1.out, HC1.out⟩
    have := HB1.out
    have hm := HM.out
    rw [show ((bs.length : Int) - (n : Int)) = (m : Int) from by omega] at this
    exact this
  case round =>
    obtain ⟨k, hk, rfl, rfl, hb, hg, hc⟩ := hrel
    clear HB1 HG1 HC1 c0 c1 f0 f1
    by_cases hlt : k < n
    · obtain ⟨d0, d1, e0, e1⟩ := cells2 hb
      have hmm := HM.out
      have hrow := row_cells hg ((m + k) / 8) (by omega)
      have hxx := getD_lt xs hx ((m + k) / 8)
      obtain ⟨y, hy⟩ : ∃ y, xs.getD ((m + k) / 8) 0 / 2 ^ ((m + k) % 8) % 2 = y := ⟨_, rfl⟩
      have HOR : Hid (bits BinOp.or IntKind.u32 ((val ((bs.drop m).take k) : Nat) : Int) ((y : Int) * 2 ^ k % 4294967296) = ((val ((bs.drop m).take (k + 1)) : Nat) : Int)) := by
        refine Lib.hid ?_
        obtain ⟨hi, hbitk⟩ := HBIT.out k hlt
        rw [or_shift (val ((bs.drop m).take k)) k y (val_take_lt _ _) (by omega) (by omega), val_take_succ (bs.drop m) k hi, ← hy, toNat_bit _ _ hbitk]
      go_wp2
      go_quiet (first | (go_at_call 81; refine Calls.quiet_of_same (bitAt_y g 0 (m + k) xs.length xs.length (xs.getD ((m + k) / 8) 0) y _ ?_ (by omega) (by omega) hxx hy); rw [Nat.zero_add]; exact hrow))
      go_wp2
      rw [HOR.out]
      go_roundw
      case rel => exact ⟨k + 1, by omega, by go_num, rfl, hb, hg, hc.drewN nq⟩
      case measure => simp [intOf]; omega
    · obtain rfl : k = n := by omega
      go_wp2
      go_ret2
      have hmm := HM.out
      have hr : (takeR bs k).length = m := by rw [takeR_length]; omega
      refine ⟨congrArg (fun z : Nat => Ending.returned (Value.tuple #[.int .u32 (z : Int), .bool true])) HFIN.out, ⟨xs, hx, hxl, by omega, ?_, by rw [hr]; exact hb, hg⟩, hc⟩
      rw [hr]; exact HTR.out

/-- what Take answers for every n -/
theorem take_any (b g : Nat) (bs : List Bool) (n : Int) (w : World) (h : Rr w b g bs) :
    Calls Try.prog 54 #[.pointer (some ⟨b, 0, none⟩), .int .i64 n] w fun e w' =>
      (∃ m : Nat, n = (m : Int) ∧ m ≤ 24 ∧ m ≤ bs.length ∧ e = .returned (.tuple #[.int .u32 ((takeV bs m : Nat) : Int), .bool true]) ∧ Rr w' b g (takeR bs m) ∧ Chg (fun k => k = b) w w') ∨
      ((n < 0 ∨ 24 < n ∨ (bs.length : Int) < n) ∧ e = .returned (.tuple #[.int .u32 0, .bool false]) ∧ w = w') := by
  by_cases hn : n < 0 ∨ 24 < n ∨ (bs.length : Int) < n
  · exact (take_no b g bs n w h hn).mono fun e w' ⟨h1, h2⟩ => .inr ⟨hn, h1, h2⟩
  · obtain ⟨m, rfl⟩ := Int.eq_ofNat_of_zero_le (show 0 ≤ n by omega)
    exact (take_yes b g bs m w h (by omega) (by omega)).mono fun e w' ⟨h1, h2, h3⟩ => .inl ⟨m, rfl, by omega, by omega, h1, h2, h3⟩

end Go.Proofs.Ytokeoebhmjefoaa

/- What bitr.New tells. -/
namespace Go.Proofs.Ytokeoebhmjefoaa
open Go.RowKit

/-- there is a mark -/
def Marked (xs : List Nat) : Prop := xs ≠ [] ∧ xs.getD (xs.length - 1) 0 ≠ 0

instance (xs : List Nat) : Decidable (Marked xs) := by unfold Marked; infer_instance

theorem rnew_no (v : Value) (xs : List Nat) (w : World) (h : RdB w v xs) (hm : ¬ Marked xs) (hl : xs.length < 100000000000) :
    Calls Try.prog 29 #[v] w fun e w' => e = .returned (.tuple #[.pointer none, .int .i64 2]) ∧ w = w' := by
  by_cases h0 : xs = []
  · obtain ⟨ao, cap, rfl⟩ : ∃ ao cap, v = .slice ao 0 cap := by
      rcases h with ⟨_, ao, c, rfl⟩ | ⟨g, off, cap, rfl, _⟩
      · exact ⟨ao, c, rfl⟩
      · exact ⟨_, cap, by rw [h0]; rfl⟩
    clear h
    go_enter Try.func29, Try.ntmps29
    go_wp2
    go_ret2
    exact ⟨rfl, rfl⟩
  · have hn : 0 < xs.length := List.length_pos_iff.2 h0
    have hz : xs.getD (xs.length - 1) 0 = 0 := by
      unfold Marked at hm
      exact Decidable.byContradiction fun hc => hm ⟨h0, hc⟩
    rcases h with ⟨h', _⟩ | ⟨g, off, cap, rfl, hc⟩
    · exact absurd h' h0
    obtain ⟨m, hm'⟩ : ∃ m, xs.length = m + 1 := ⟨xs.length - 1, by omega⟩
    have hcell := hc m (by omega)
    rw [hm', Nat.add_sub_cancel] at hz
    rw [hz] at hcell
    rw [hm'] at hl ⊢
    clear hc h0 hm hz
    go_enter Try.func29, Try.ntmps29
    go_wp2
    go_ret2
    exact ⟨rfl, rfl⟩

set_option maxRecDepth 100000 in
set_option maxHeartbeats 1000000 in
theorem rnew_ok (v : Value) (xs : List Nat) (w : World) (h : RdB w v xs) (hm : Marked xs) (hl : xs.length < 100000000000) (hx : ∀ x ∈ xs, x < 256) :
    Calls Try.prog 29 #[v] w fun e w' => ∃ b g, e = .returned (.tuple #[.pointer (some ⟨b, 0, none⟩), .int .i64 0]) ∧ Rr w' b g (openB xs) ∧ w.heap.size ≤ b ∧ w.heap.size ≤ g ∧ Chg (fun _ => False) w w' := by
  obtain ⟨i, hi, hz0, hz1, hz2⟩ := info_parts Try.infoU8
  rcases h with ⟨h', _⟩ | ⟨g, off, cap, rfl, hc⟩
  · exact absurd h' hm.1
  have hlen := openB_length xs hx hm.1 hm.2
  have hmp := markPos_lt xs hx hm.1 hm.2
  have hme : markPos xs = 8 * (xs.length - 1) + len8 (xs.getD (xs.length - 1) 0) - 1 := rfl
  have hbx : xs.getD (xs.length - 1) 0 < 256 := getD_lt xs hx _
  have hnz : xs.getD (xs.length - 1) 0 ≠ 0 := hm.2
  have hl1 := (len8_facts _ hbx hnz).1
  obtain ⟨m, hm'⟩ : ∃ m, xs.length = m + 1 := ⟨xs.length - 1, by omega⟩
  have hml : m < 100000000000 := by omega
  have HML := Lib.hid hml
  have hcell := hc m (by omega)
  have hgl : g < w.heap.size := block_lt_of_cell hcell
  have hby : i.bytes * (m + 1) ≤ 281474976710656 := by rw [hz2]; omega
  have HC := Lib.hid hc; have HLen := Lib.hid hlen; have HMe := Lib.hid hme; have HX := Lib.hid hx; have HM' := Lib.hid hm'; have HMP := Lib.hid hmp
  rw [hm', Nat.add_sub_cancel] at hbx hnz hl1
  obtain ⟨x, hxm⟩ : ∃ x, xs.getD m 0 = x := ⟨_, rfl⟩
  rw [hxm] at hcell hbx hnz hl1
  have HL1 := Lib.hid hl1
  have HXM := Lib.hid hxm
  clear hxm
  clear hl1
  have hne : ((x : Int) == 0) = false := by rw [beq_eq_false_iff_ne]; omega
  rw [hm'] at ⊢
  clear hlen hmp hme hx hc hm hm'
  go_enter Try.func29, Try.ntmps29
  go_wp2_with (at_make; refine wpList_make_full _ rfl (.tmp 18) (.tmp 18) 25 rfl w.heap.size 5 i (.int .u8 0) 1 Try.underlying25 hi hz0 hz1 .i64 .i64 _ _ (m + 1) rfl rfl (by omega) (by omega) hby (by unfold maxLen; omega) (Nat.le_refl _) ?_)
  intro w1 hown1 hgrow1
  have hc1 : Chg (fun _ => False) w w1 := (Chg.of_grown hgrow1).mono fun k _ hk => by simp at hk
  have hrow : w1.heap[w.heap.size]? = some (.cells (bv (List.replicate (m + 1) 0)).toArray 5 (0, 0)) := by
    have h := own_heap hown1
    rw [zeros_bv] at h; exact h
  have hrd : RdB w1 (.slice (some ⟨g, off, none⟩) xs.length cap) xs := RdB.kept (w := w) (.inr ⟨g, off, cap, rfl, HC.out⟩) hc1 (by simp)
  have HS : Hid (∀ (j : Nat) (u : Value), (bv xs)[j]? = some u → w1.cell? ⟨g, off + j, none⟩ = some u) := by
    refine Lib.hid fun j u hu => ?_
    rcases hrd with ⟨h', _⟩ | ⟨g', off', cap', he, hcc⟩
    · rw [h'] at hu; simp [bv] at hu
    · simp only [Value.slice.injEq, Option.some.injEq, Addr.mk.injEq, and_true, true_and] at he
      obtain ⟨⟨rfl, rfl⟩, rfl⟩ := he
      have hj : j < xs.length := by
        rw [← bv_length]; exact (List.getElem?_eq_some_iff.1 hu).1
      rw [bv_get xs j hj] at hu
      rw [← Option.some.inj hu]
      exact hcc j hj
  clear hgrow1 hown1 hrd hcell
  have HR := Lib.hid hrow; have HC1 := Lib.hid hc1
  clear hrow hc1
  go_wp2_with (with_reducible refine wpList_copy_splice rfl (.tmp 20) (.tmp 21) 25 25 rfl 5 Try.underlying25 Try.sizeU8 _ _ _ _ _ _ rfl rfl w.heap.size 0 (bv (List.replicate (m + 1) 0)) 5 HR.out (bv xs) ?c1 ?c2 ?c3 (bv_one _) w.heap.size w1 (Below.refl _ _) (Nat.le_refl _) ?_)
  case c1 => rw [bv_length, HM'.out]; exact (Nat.min_self _).symm
  case c2 => intro _; exact HS.out
  case c3 => rw [bv_length, bv_length, HM'.out, List.length_replicate]; omega
  intro w2 HG2 hB2
  have hc2 := HC1.out.then_below hB2
  have hrow2 : w2.heap[w.heap.size]? = some (.cells (bv xs).toArray 5 (0, 0)) := by
    have h := HG2.out
    rw [splice_all _ _ (by rw [bv_length, bv_length, List.length_replicate, HM'.out])] at h
    exact h
  have hcell2 := row_cells hrow2 m (by rw [HM'.out]; omega)
  rw [HXM.out] at hcell2
  have HR2 := Lib.hid hrow2; have HC2 := Lib.hid hc2
  clear hrow2 hc2
  go_wp2_with fail
  refine (markAt_any w.heap.size 0 (m + 1) (m + 1) x w2 (by omega) (by have := HML.out; have := HM'.out; omega) (by rw [Nat.zero_add, Nat.add_sub_cancel]; exact hcell2) hbx).mono ?_
  rintro e w3 ⟨rfl, rfl⟩
  go_wp2
  go_ret2
  have hsz := HC2.out.size
  have hl1 := HL1.out
  have hlt2 := lt_of_block HR2.out
  have hm' := HM'.out; have hme := HMe.out; have hmp := HMP.out; have hlen := HLen.out
  rw [hm', Nat.add_sub_cancel, HXM.out] at hme
  refine ⟨w3.heap.size, w.heap.size, rfl, ⟨xs, HX.out, hl, by rw [hlen]; omega, ?_, ?_, ?_⟩, hsz, Nat.le_refl _, HC2.out.trans (Chg.alloc _ w3 _) (fun _ _ h => h)⟩
  · rw [hlen]; rfl
  · rw [heap_alloc_new, hlen, hm']
    rw [show ((markPos xs : Nat) : Int) = 8 * (m : Int) + (len8 x : Int) - 1 from by omega]
  · rw [Below.heap_alloc w3 _ _ hlt2]; exact HR2.out

end Go.Proofs.Ytokeoebhmjefoaa

/- What puncheonlaw02.awake tells: the chapter's example holds. -/
namespace Go.Proofs.Ytokeoebhmjefoaa
open Go.RowKit

theorem take_in (b g : Nat) (bs : List Bool) (n : Int) (w : World) (h : Rr w b g bs) (hn0 : 0 ≤ n) (hn : n ≤ 24) (hl : n ≤ bs.length) :
    Calls Try.prog 54 #[.pointer (some ⟨b, 0, none⟩), .int .i64 n] w fun e w' => e = .returned (.tuple #[.int .u32 ((takeV bs n.toNat : Nat) : Int), .bool true]) ∧ Rr w' b g (takeR bs n.toNat) ∧ Chg (fun k => k = b) w w' := by
  obtain ⟨m, rfl⟩ := Int.eq_ofNat_of_zero_le hn0
  exact take_yes b g bs m w h (by omega) (by omega)

theorem ex_open : openB [45] = [true, false, true, true, false] := by decide +kernel
theorem ex_take : takeV [true, false, true, true, false] 2 = 1 ∧ takeR [true, false, true, true, false] 2 = [true, false, true] ∧ takeV [true, false, true] 3 = 5 ∧ takeR [true, false, true] 3 = [] := by decide +kernel

theorem one_rdb (w : World) (x : Nat) : RdB (w.alloc (.cells #[.int .u8 (x : Int)] 5)) (.slice (some ⟨w.heap.size, 0, none⟩) 1 1) [x] := by
  refine .inr ⟨w.heap.size, 0, 1, rfl, fun j hj => ?_⟩
  have : j = 0 := by simpa using hj
  subst this
  rw [cell_of_row _ _ 0 _ _ _ (heap_alloc_new w _)]; rfl

end Go.Proofs.Ytokeoebhmjefoaa

/- The walk of BitrSplits. -/
namespace Go.Proofs.Ytokeoebhmjefoaa
open Go.RowKit

theorem RdB.form {w : World} {v : Value} {xs : List Nat} (h : RdB w v xs) : ∃ ao cap, v = .slice ao xs.length cap := by
  rcases h with ⟨rfl, ao, c, rfl⟩ | ⟨g, off, cap, rfl, _⟩
  · exact ⟨ao, c, rfl⟩
  · exact ⟨_, cap, rfl⟩

theorem or_high (hi lo j : Nat) (hlo : lo < 2 ^ j) (hb : lo + 2 ^ j * hi < 4294967296) : bits .or .u32 ((hi : Int) * 2 ^ j % 4294967296) (lo : Int) = ((lo + 2 ^ j * hi : Nat) : Int) := by
  have e : ((hi : Int) * 2 ^ j % 4294967296) = ((2 ^ j * hi : Nat) : Int) := by
    have e1 : ((hi : Int) * 2 ^ j) = ((2 ^ j * hi : Nat) : Int) := by simp [Int.mul_comm]
    rw [e1]
    generalize 2 ^ j * hi = z at *
    omega
  rw [e, bits_or_nat .u32 wraps_u32 _ lo (by simp only [IntKind.bits]; omega) (by simp only [IntKind.bits]; omega)]
  congr 1
  have := Nat.two_pow_add_eq_or_of_lt hlo hi
  omega

/-- two Readers side by side: one is taken from, the other stays -/
theorem Rr.apart {w w' : World} {b b' g' : Nat} {bs : List Bool} (h : Rr w b' g' bs) (hc : Chg (fun k => k = b) w w') (h1 : b' ≠ b) (h2 : g' ≠ b) : Rr w' b' g' bs := h.kept hc h1 h2

end Go.Proofs.Ytokeoebhmjefoaa

/- Rows of numbers (int) in memory: read, or of one's own; what puncheonref01.Ints tells. -/
namespace Go.Proofs.Ytokeoebhmjefoaa
open Go.RowKit

/-- numbers as values -/
def iw (zs : List Int) : List Value := zs.map fun z => .int .i64 z
theorem iw_length (zs : List Int) : (iw zs).length = zs.length := by simp [iw]
theorem iw_set (zs : List Int) (i : Nat) (z : Int) : (iw zs).set i (.int .i64 z) = iw (zs.set i z) := by simp [iw, List.map_set]
theorem iw_snoc (zs : List Int) (z : Int) : iw zs ++ [.int .i64 z] = iw (zs ++ [z]) := by simp [iw]
theorem iw_get (zs : List Int) (i : Nat) (h : i < zs.length) : (iw zs)[i]? = some (.int .i64 (zs.getD i 0)) := by
  simp [iw, List.getElem?_eq_getElem h]

theorem RdI.form {w : World} {v : Value} {zs : List Int} (h : RdI w v zs) : ∃ ao cap, v = .slice ao zs.length cap := by
  rcases h with ⟨rfl, ao, c, rfl⟩ | ⟨g, off, cap, rfl, _⟩
  · exact ⟨ao, c, rfl⟩
  · exact ⟨_, cap, rfl⟩

theorem RdI.at {w : World} {ao : Option Addr} {n cap : Nat} {zs : List Int} (h : RdI w (.slice ao n cap) zs) (k : Nat) (hk : k < zs.length) : ∃ g off, ao = some ⟨g, off, none⟩ ∧ w.cell? ⟨g, off + k, none⟩ = some (.int .i64 (zs.getD k 0)) := by
  rcases h with ⟨h0, _⟩ | ⟨g, off, cap', he, hc⟩
  · rw [h0] at hk; simp at hk
  · simp only [Value.slice.injEq] at he
    exact ⟨g, off, he.1, hc _ hk⟩

theorem RdB.at {w : World} {ao : Option Addr} {n cap : Nat} {xs : List Nat} (h : RdB w (.slice ao n cap) xs) (k : Nat) (hk : k < xs.length) : ∃ g off, ao = some ⟨g, off, none⟩ ∧ w.cell? ⟨g, off + k, none⟩ = some (.int .u8 ((xs.getD k 0 : Nat) : Int)) := by
  rcases h with ⟨h0, _⟩ | ⟨g, off, cap', he, hc⟩
  · rw [h0] at hk; simp at hk
  · simp only [Value.slice.injEq] at he
    exact ⟨g, off, he.1, hc _ hk⟩

/-- A block that is a row of numbers, of any kind (a slice's, or an array's). -/
def RowI (w : World) (g : Nat) (t : TypeId) (zs : List Int) : Prop := w.heap[g]? = some (.cells (iw zs).toArray t (0, 0))

theorem RowI.cell {w : World} {g : Nat} {t : TypeId} {zs : List Int} (h : RowI w g t zs) (k : Nat) (hk : k < zs.length) : w.cell? ⟨g, k, none⟩ = some (.int .i64 (zs.getD k 0)) := by
  rw [cell_of_row w g k _ _ _ h, List.getElem?_toArray, iw_get zs k hk]
theorem RowI.free {w : World} {g : Nat} {t : TypeId} {zs : List Int} (h : RowI w g t zs) (k : Nat) : w.frozen? ⟨g, k, none⟩ = false := frozen_of_row w g k _ _ h
theorem RowI.kept {S : Nat → Prop} {w w' : World} {g : Nat} {t : TypeId} {zs : List Int} (h : RowI w g t zs) (hc : Chg S w w') (hS : ¬ S g) : RowI w' g t zs := (hc.block g (lt_of_block h) hS).trans h
theorem RowI.lt {w : World} {g : Nat} {t : TypeId} {zs : List Int} (h : RowI w g t zs) : g < w.heap.size := lt_of_block h
theorem RowI.set {w : World} {g : Nat} {t : TypeId} {zs : List Int} (h : RowI w g t zs) (i : Nat) (z : Int) : RowI (w.setCell ⟨g, i, none⟩ (.int .i64 z)) g t (zs.set i z) := by
  have := heap_setCell_same w g i _ _ (.int .i64 z) h
  unfold RowI
  rw [this, List.setIfInBounds_toArray, iw_set]
theorem RowI.rd {w : World} {g : Nat} {t : TypeId} {zs : List Int} (h : RowI w g t zs) (cap : Nat) : RdI w (.slice (some ⟨g, 0, none⟩) zs.length cap) zs :=
  .inr ⟨g, 0, cap, rfl, fun j hj => by rw [Nat.zero_add]; exact h.cell j hj⟩

/-- The value v is a slice of the numbers zs, in memory from block base on, that may be written. -/
def OwnI (w : World) (base : Nat) (v : Value) (zs : List Int) : Prop :=
  ∃ g off cap, v = .slice (some ⟨g, off, none⟩) zs.length cap ∧ base ≤ g ∧ g < w.heap.size ∧ (∀ j, j < zs.length → w.cell? ⟨g, off + j, none⟩ = some (.int .i64 (zs.getD j 0))) ∧ ∀ j, w.frozen? ⟨g, off + j, none⟩ = false

theorem OwnI.rd {w : World} {base : Nat} {v : Value} {zs : List Int} (h : OwnI w base v zs) : RdI w v zs := by
  obtain ⟨g, off, cap, rfl, _, _, hc, _⟩ := h
  exact .inr ⟨g, off, cap, rfl, hc⟩
theorem OwnI.kept {S : Nat → Prop} {w w' : World} {base : Nat} {v : Value} {zs : List Int} (h : OwnI w base v zs) (hc : Chg S w w') (hS : ∀ k, v.ownBlock = some k → ¬ S k) : OwnI w' base v zs := by
  obtain ⟨g, off, cap, rfl, hb, hl, hcell, hf⟩ := h
  have hblk := hc.block g hl (hS g rfl)
  refine ⟨g, off, cap, rfl, hb, Nat.lt_of_lt_of_le hl hc.size, fun j hj => ?_, fun j => ?_⟩
  · rw [World.cell?_of_block (w := w) hblk]; exact hcell j hj
  · have := hf j
    unfold World.frozen? at this ⊢
    simp only [hblk]; exact this
theorem OwnI.mono {w : World} {base base' : Nat} {v : Value} {zs : List Int} (h : OwnI w base v zs) (hb : base' ≤ base) : OwnI w base' v zs := by
  obtain ⟨g, off, cap, rfl, h1, h2, h3⟩ := h
  exact ⟨g, off, cap, rfl, Nat.le_trans hb h1, h2, h3⟩
theorem OwnI.drew {w : World} {base : Nat} {v : Value} {zs : List Int} (h : OwnI w base v zs) : OwnI w.drew base v zs := h.kept ((Chg.refl (fun _ => False) w).drew) (by simp)
theorem RowI.own {w : World} {g : Nat} {t : TypeId} {zs : List Int} (h : RowI w g t zs) (cap base : Nat) (hb : base ≤ g) : OwnI w base (.slice (some ⟨g, 0, none⟩) zs.length cap) zs :=
  ⟨g, 0, cap, rfl, hb, h.lt, fun j hj => by rw [Nat.zero_add]; exact h.cell j hj, fun j => h.free _⟩

theorem OwnI.store {w : World} {base g off n cap : Nat} {zs : List Int} (h : OwnI w base (.slice (some ⟨g, off, none⟩) n cap) zs) (i : Nat) (hi : i < zs.length) (z : Int) :
    OwnI (w.setCell ⟨g, off + i, none⟩ (.int .i64 z)) base (.slice (some ⟨g, off, none⟩) n cap) (zs.set i z) := by
  obtain ⟨g', off', cap', he, hb, hl, hcell, hf⟩ := h
  simp only [Value.slice.injEq, Option.some.injEq, Addr.mk.injEq] at he
  obtain ⟨⟨rfl, rfl, -⟩, rfl, rfl⟩ := he
  refine ⟨g, off, cap, by simp, hb, by simpa [World.setCell] using hl, fun j hj => ?_, fun j => ?_⟩
  · rw [List.length_set] at hj
    by_cases hij : i = j
    · subst hij
      rw [World.cell?_setCell_same _ _ _ (hcell i hi), List.getD_eq_getElem?_getD, List.getElem?_set_self hi]; rfl
    · rw [World.cell?_setCell_other _ _ _ _ (by simp), hcell j hj, List.getD_eq_getElem?_getD, List.getD_eq_getElem?_getD, List.getElem?_set_ne hij]
  · rw [World.frozen?_setCell]; exact hf j

theorem drewN2 (w : World) (m n : Nat) : (w.drewN m).drewN n = w.drewN (m + n) := by
  simp [World.drewN, Nat.add_assoc]

theorem iw_zeros (n : Nat) : iw (List.replicate n 0) = List.replicate n (.int .i64 0) := by simp [iw]

theorem Try.infoInt : (Try.prog.info? 3).map (fun i => (i.zero, i.size, i.bytes)) = some (some (.int .i64 0), 1, 8) := by kernel_rfl

theorem zeros_iw (n : Nat) : (madeCells (Value.int .i64 0).cells (n * 1)).toList = iw (List.replicate n 0) := by
  rw [iw_zeros, Nat.mul_one]
  apply List.ext_getElem (by simp [madeCells])
  intro i h1 h2
  simp [madeCells, Value.cells, Nat.mod_one]

theorem RowI.of_own {w : World} {base g n : Nat} {zs : List Int} (h : w.ownsRow base 3 1 (.slice (some ⟨g, 0, none⟩) n n) n (iw zs)) : RowI w g 3 zs := by
  rcases h.2 with ⟨h0, _⟩ | ⟨g', cap, cur, he, _, hg, _, _, hs, ht⟩
  · simp at h0
  · simp only [Value.slice.injEq, Option.some.injEq, Addr.mk.injEq, and_true, true_and] at he
    obtain ⟨rfl, rfl⟩ := he
    have : cur = (iw zs).toArray := by
      apply Array.ext'
      rw [← ht, List.take_of_length_le (by rw [Array.length_toList, hs]; exact Nat.le_refl _)]
    rw [this] at hg
    exact hg

theorem wpList_make_ints {ops : Array Oper} {rest : List Oper} {o : Oper} {a : Act} {w : World} {Q : Exit → Act → World → Prop} (hg : o.guard = none) (l c : Operand) (hop : o.op = Op.makeSlice 41 l c)
    (L C : Int) (n : Nat) (hl : a.eval l = .int .i64 L) (hc : a.eval c = .int .i64 C) (hL : L = (n : Int)) (hC : C = (n : Int)) (hn : n < 100000000000) (Z : List Int) (hZ : Z = List.replicate n 0)
    (hK : ∀ w', RowI w' w.heap.size 3 Z → Chg (fun _ => False) w w' → wpList Try.prog ops Q rest (a.put o.dst (.slice (some ⟨w.heap.size, 0, none⟩) n n)) w') : wpList Try.prog ops Q (o :: rest) a w := by
  obtain ⟨i, hi, hz0, hz1, hz2⟩ := info_parts Try.infoInt
  refine wpList_make_full w hg l c 41 hop w.heap.size 3 i (.int .i64 0) 1 Try.underlying41 hi hz0 hz1 .i64 .i64 L C n hl hc hL hC (by rw [hz2]; omega) (by unfold maxLen; omega) (Nat.le_refl _) ?_
  intro w1 h1 h2
  rw [zeros_iw, ← hZ] at h1
  exact hK w1 (RowI.of_own h1) ((Chg.of_grown h2).mono fun k _ hk => by simp at hk)

/-- bytes that the call has laid -/
theorem rdb_new (w : World) (xs : List Nat) (cs : Array Value) (n : Nat) (fr : Nat × Nat) (h : cs.toList = bv xs) (hn : n = xs.length) : RdB (w.alloc (.cells cs 5 fr)) (.slice (some ⟨w.heap.size, 0, none⟩) n n) xs := by
  subst hn
  refine .inr ⟨w.heap.size, 0, xs.length, rfl, fun j hj => ?_⟩
  rw [cell_of_row _ _ _ _ _ _ (heap_alloc_new w _), Nat.zero_add, ← Array.getElem?_toList, h, bv_get xs j hj]

theorem eq_upTo {a b : List Int} (hl : a.length = b.length) (h : ∀ j, j < a.length → a.getD j 0 = b.getD j 0) : a = b := ext_getD hl h

/-- no more than there is room for -/
def RoomOk (v : Value) : Prop := ∀ ao len cap, v = .slice ao len cap → len ≤ cap

theorem RoomOk.of {ao : Option Addr} {len cap : Nat} (h : len ≤ cap) : RoomOk (.slice ao len cap) := fun _ _ _ e => by cases e; exact h

/-- a slice of the numbers zs, with room for them -/
def RdIr (w : World) (v : Value) (zs : List Int) : Prop := RdI w v zs ∧ RoomOk v
theorem RdIr.kept {S : Nat → Prop} {w w' : World} {v : Value} {zs : List Int} (h : RdIr w v zs) (hc : Chg S w w') (hS : ∀ k, v.ownBlock = some k → ¬ S k) : RdIr w' v zs := ⟨h.1.kept hc hS, h.2⟩
theorem RdIr.rd {w : World} {v : Value} {zs : List Int} (h : RdIr w v zs) : RdI w v zs := h.1
theorem RdIr.nil (w : World) : RdIr w (.slice none 0 0) [] := ⟨.inl ⟨rfl, none, 0, rfl⟩, .of (Nat.le_refl _)⟩

/-- the first of two results has room for what it holds -/
def RoomE (e : Ending) : Prop := ∀ v x, e = .returned (.tuple #[v, x]) → RoomOk v
theorem RoomE.of {ao : Option Addr} {len cap : Nat} {x : Value} (h : len ≤ cap) : RoomE (.returned (.tuple #[.slice ao len cap, x])) := fun v y he => by
  simp only [Ending.returned.injEq, Value.tuple.injEq] at he
  have := congrArg (fun a => a[0]?) he
  simp at this
  subst this
  exact .of h

end Go.Proofs.Ytokeoebhmjefoaa

/- What slices.Backward tells of bytes: an iterator whose rounds are known: the last byte first, each with its place. -/
namespace Go.Proofs.Ytokeoebhmjefoaa
open Go.RowKit Go.Shelf

attribute [local go_sem] Oper.semAt_some

/-- the arguments of round r over N bytes -/
def revArgs (xs : List Nat) (r : Nat) : Array Value := #[.int .i64 (((xs.length - 1 - r : Nat) : Nat) : Int), .int .u8 ((xs.getD (xs.length - 1 - r) 0 : Nat) : Int)]

set_option maxRecDepth 100000 in
theorem srev_any (ao : Option Addr) (n cap : Nat) (w : World) : Calls Try.prog 73 #[.slice ao n cap] w fun e w' => e = .returned (.func (.func 95) #[] #[.pointer (some ⟨w.heap.size, 0, none⟩)]) ∧ w' = w.alloc (.cells #[.slice ao n cap] 25) := by
  have hmf : ∀ (fn : Fn) (first cap : Array Value) (w : World), (Instr.makeFunc fn first cap).run Try.prog w = .ok (.func fn first cap) w := fun _ _ _ _ => rfl
  go_enter Try.func73, Try.ntmps73
  go_wp2
  go_ret
  exact ⟨rfl, rfl⟩

set_option maxRecDepth 100000 in
set_option maxHeartbeats 600000 in
theorem srev_rounds (u : Value) (xs : List Nat) (g : Nat) (hl : xs.length < 1000000) : Rounds 95 #[.pointer (some ⟨g, 0, none⟩)] (revArgs xs) xs.length (fun W => W.cell? ⟨g, 0, none⟩ = some u ∧ RdB W u xs) := by
  intro l J W hrd hY h0
  obtain ⟨N, hN⟩ : ∃ N, xs.length = N := ⟨_, rfl⟩
  rw [hN]
  refine callsIn_of_wp Try.func95 rfl trivial ?_ rfl
  simp only [Try.ntmps95, List.size_toArray, List.length_cons, List.length_nil, Nat.reduceAdd, Nat.reduceSub, Array.replicate_succ, Array.replicate_zero, List.push_toArray, List.append_toArray, List.nil_append, List.cons_append]
  obtain ⟨hc, hb⟩ := hrd 0 W h0
  obtain ⟨ao, cap, rfl⟩ := hb.form
  have HN := Lib.hid hN
  rw [hN] at hl hc
  have HY := Lib.hid hY; have HRD := Lib.hid hrd
  have hNI : (N : Int) < 1000000 := by omega
  have hN0 : (0 : Int) ≤ (N : Int) := by omega
  clear hY hrd hb hN
  gi_wp2
  gi_loopw [3] (fun i wr => ∃ r : Nat, r ≤ N ∧ i = .int .i64 ((N : Int) - 1 - (r : Int)) ∧ J r wr) (fun i _ => (intOf i + 1).toNat)
  case atStart => exact ⟨0, Nat.zero_le _, by simp, h0⟩
  case round =>
    clear h0
    obtain ⟨r, hr, rfl, hj⟩ := hrel
    obtain ⟨q1, q2⟩ := HRD.out r wr hj
    rw [HN.out] at q1
    by_cases hlt : r < N
    · obtain ⟨fn, tmps, assign, body, hy, hR⟩ := HY.out r wr hj (by rw [HN.out]; exact hlt)
      obtain ⟨k, hk⟩ : ∃ k, N - 1 - r = k := ⟨_, rfl⟩
      unfold revArgs at hy
      rw [HN.out, hk] at hy
      obtain ⟨gb, ob, rfl, hbc⟩ := q2.at k (by rw [HN.out]; omega)
      obtain ⟨x, hx⟩ : ∃ x, xs.getD k 0 = x := ⟨_, rfl⟩
      rw [hx] at hy hbc
      have hkI : (N : Int) - 1 - (r : Int) = (k : Int) := by omega
      have hkN : (k : Int) < (N : Int) := by omega
      have hk0 : (0 : Int) ≤ (k : Int) := by omega
      rw [hkI]
      have HR := Lib.hid hR
      clear hR hj q2 hk hx
      gi_wp2
      refine ⟨rfl, HR.out.mono ?_⟩
      rintro e W3 ⟨rfl, hj3⟩
      have HJ3 := Lib.hid hj3
      clear hj3 HR
      gi_wp2
      go_roundw
      case rel => exact ⟨r + 1, by omega, by go_num, HJ3.out⟩
      case measure => simp [intOf]
    · obtain rfl : r = N := by omega
      rw [show (r : Int) - 1 - (r : Int) = -1 by omega]
      have HJ := Lib.hid hj
      clear hj q2
      gi_wp2
      go_end0
      exact ⟨⟨_, rfl⟩, HJ.out⟩

end Go.Proofs.Ytokeoebhmjefoaa

/- Plain mathematics of chapter 10: keys in their order, and where each stands. -/
namespace Go.Proofs.Ytokeoebhmjefoaa
open Go

def sumTo (g : Nat → Nat) : Nat → Nat
  | 0 => 0
  | n + 1 => sumTo g n + g n
def countTo (p : Nat → Bool) : Nat → Nat
  | 0 => 0
  | n + 1 => countTo p n + if p n then 1 else 0

theorem sumTo_le {g h : Nat → Nat} : ∀ n, (∀ a, a < n → g a ≤ h a) → sumTo g n ≤ sumTo h n
  | 0, _ => Nat.le_refl _
  | n + 1, H => by
    have h1 := sumTo_le n fun a ha => H a (by omega)
    have h2 := H n (by omega)
    simp only [sumTo]; omega
theorem sumTo_lt {g h : Nat → Nat} : ∀ n, (∀ a, a < n → g a ≤ h a) → ∀ b, b < n → g b < h b → sumTo g n < sumTo h n
  | 0, _, b, hb, _ => by omega
  | n + 1, H, b, hb, hlt => by
    have h2 := H n (by omega)
    simp only [sumTo]
    by_cases e : b = n
    · subst e
      have h1 := sumTo_le b fun a ha => H a (by omega)
      omega
    · have h1 := sumTo_lt n (fun a ha => H a (by omega)) b (by omega) hlt
      omega
theorem sumTo_congr {g h : Nat → Nat} (n : Nat) (H : ∀ a, a < n → g a = h a) : sumTo g n = sumTo h n :=
  Nat.le_antisymm (sumTo_le n fun a ha => Nat.le_of_eq (H a ha)) (sumTo_le n fun a ha => Nat.le_of_eq (H a ha).symm)
theorem sumTo_zero (n : Nat) : sumTo (fun _ => 0) n = 0 := by
  induction n with
  | zero => rfl
  | succ n ih => simp only [sumTo, ih]
theorem sumTo_add (g h : Nat → Nat) (n : Nat) : sumTo (fun a => g a + h a) n = sumTo g n + sumTo h n := by
  induction n with
  | zero => rfl
  | succ n ih => simp only [sumTo, ih]; omega
theorem sumTo_mul (g : Nat → Nat) (c n : Nat) : sumTo (fun a => g a * c) n = sumTo g n * c := by
  induction n with
  | zero => simp [sumTo]
  | succ n ih => simp only [sumTo, ih, Nat.add_mul]
theorem sumTo_one {g : Nat → Nat} : ∀ n, (∀ a, a < n → g a ≤ 1) → (∀ a b, a < n → b < n → 0 < g a → 0 < g b → a = b) → sumTo g n ≤ 1
  | 0, _, _ => by simp [sumTo]
  | n + 1, h1, h2 => by
    have hn := h1 n (by omega)
    simp only [sumTo]
    by_cases e : g n = 0
    · have := sumTo_one n (fun a ha => h1 a (by omega)) (fun a b ha hb => h2 a b (by omega) (by omega))
      omega
    · have : sumTo g n = sumTo (fun _ => 0) n := sumTo_congr n fun a ha => by
        by_cases hz : g a = 0
        · exact hz
        · have := h2 a n (by omega) (by omega) (by omega) (by omega); omega
      rw [this, sumTo_zero]; omega
theorem sumTo_pos {g : Nat → Nat} : ∀ n, 0 < sumTo g n → ∃ a, a < n ∧ 0 < g a
  | 0, h => by simp [sumTo] at h
  | n + 1, h => by
    simp only [sumTo] at h
    by_cases e : 0 < g n
    · exact ⟨n, by omega, e⟩
    · obtain ⟨a, ha, hg⟩ := sumTo_pos (g := g) n (by omega)
      exact ⟨a, by omega, hg⟩
theorem sumTo_at (g : Nat → Nat) : ∀ n a, a < n → g a ≤ sumTo g n
  | 0, a, h => by omega
  | n + 1, a, h => by
    simp only [sumTo]
    by_cases e : a = n
    · subst e; omega
    · have := sumTo_at g n a (by omega); omega

theorem countTo_le (p : Nat → Bool) : ∀ n, countTo p n ≤ n
  | 0 => Nat.le_refl _
  | n + 1 => by
    have := countTo_le p n
    simp only [countTo]; split <;> omega
theorem countTo_mono {p r : Nat → Bool} : ∀ n, (∀ a, a < n → p a = true → r a = true) → countTo p n ≤ countTo r n
  | 0, _ => Nat.le_refl _
  | n + 1, H => by
    have h1 := countTo_mono n fun a ha => H a (by omega)
    have h2 := H n (by omega)
    simp only [countTo]
    by_cases e : p n = true
    · rw [if_pos e, if_pos (h2 e)]; omega
    · rw [if_neg e]; split <;> omega
theorem countTo_mono_lt {p r : Nat → Bool} : ∀ n, (∀ a, a < n → p a = true → r a = true) → ∀ b, b < n → p b = false → r b = true → countTo p n < countTo r n
  | 0, _, b, hb, _, _ => by omega
  | n + 1, H, b, hb, e1, e2 => by
    have h2 := H n (by omega)
    simp only [countTo]
    by_cases e : b = n
    · subst e
      have h1 := countTo_mono b fun a ha => H a (by omega)
      rw [if_neg (by simp [e1]), if_pos e2]; omega
    · have h1 := countTo_mono_lt n (fun a ha => H a (by omega)) b (by omega) e1 e2
      by_cases ee : p n = true
      · rw [if_pos ee, if_pos (h2 ee)]; omega
      · rw [if_neg ee]; split <;> omega
theorem countTo_congr {p r : Nat → Bool} (n : Nat) (H : ∀ a, a < n → p a = r a) : countTo p n = countTo r n :=
  Nat.le_antisymm (countTo_mono n fun a ha h => by rw [← H a ha]; exact h) (countTo_mono n fun a ha h => by rw [H a ha]; exact h)
theorem countTo_none (p : Nat → Bool) (n : Nat) (H : ∀ a, a < n → p a = false) : countTo p n = 0 := by
  induction n with
  | zero => rfl
  | succ n ih => simp only [countTo]; rw [ih fun a ha => H a (by omega), if_neg (by simp [H n (by omega)])]
theorem countTo_all (p : Nat → Bool) (n : Nat) (H : ∀ a, a < n → p a = true) : countTo p n = n := by
  induction n with
  | zero => rfl
  | succ n ih => simp only [countTo]; rw [ih fun a ha => H a (by omega), if_pos (H n (by omega))]
theorem countTo_one {p : Nat → Bool} : ∀ n, (∀ a b, a < n → b < n → p a = true → p b = true → a = b) → countTo p n ≤ 1
  | 0, _ => by simp [countTo]
  | n + 1, h2 => by
    simp only [countTo]
    by_cases e : p n = true
    · rw [countTo_none p n fun a ha => by
        by_cases hz : p a = true
        · have := h2 a n (by omega) (by omega) hz e; omega
        · simpa using hz]
      rw [if_pos e]; omega
    · have := countTo_one n (fun a b ha hb => h2 a b (by omega) (by omega))
      rw [if_neg e]; omega
theorem countTo_pos {p : Nat → Bool} : ∀ n, 0 < countTo p n → ∃ a, a < n ∧ p a = true
  | 0, h => by simp [countTo] at h
  | n + 1, h => by
    simp only [countTo] at h
    by_cases e : p n = true
    · exact ⟨n, by omega, e⟩
    · rw [if_neg e] at h
      obtain ⟨a, ha, hg⟩ := countTo_pos n (by omega)
      exact ⟨a, by omega, hg⟩
theorem countTo_some {p : Nat → Bool} {n a : Nat} (ha : a < n) (h : p a = true) : 0 < countTo p n := by
  have := countTo_mono_lt (p := fun _ => false) (r := p) n (fun _ _ h => by simp at h) a ha rfl h
  omega
/-- how far a property reaches that falls -/
theorem countTo_thresh {p : Nat → Bool} (hp : ∀ d, p (d + 1) = true → p d = true) : ∀ n, (∀ d, d < countTo p n → p d = true) ∧ (countTo p n < n → p (countTo p n) = false)
  | 0 => ⟨fun d hd => by simp [countTo] at hd, fun h => by simp [countTo] at h⟩
  | n + 1 => by
    obtain ⟨h1, h2⟩ := countTo_thresh hp n
    have hle := countTo_le p n
    by_cases e : p n = true
    · have hc : countTo p n = n := by
        by_cases hlt : countTo p n < n
        · have hf := h2 hlt
          have : ∀ k, p (countTo p n + k) = true → p (countTo p n) = true := by
            intro k
            induction k with
            | zero => exact fun h => h
            | succ k ih => exact fun h => ih (hp _ h)
          rw [this (n - countTo p n) (by rw [show countTo p n + (n - countTo p n) = n by omega]; exact e)] at hf
          cases hf
        · omega
      have hs : countTo p (n + 1) = n + 1 := by simp only [countTo]; rw [hc, if_pos e]
      rw [hs]
      refine ⟨fun d hd => ?_, fun h => by omega⟩
      by_cases hd2 : d = n
      · subst hd2; exact e
      · exact h1 d (by omega)
    · have hs : countTo p (n + 1) = countTo p n := by simp only [countTo]; rw [if_neg e]; rfl
      rw [hs]
      refine ⟨h1, fun _ => ?_⟩
      by_cases hlt : countTo p n < n
      · exact h2 hlt
      · rw [show countTo p n = n by omega]; simpa using e
/-- a property of the first c alone -/
theorem countTo_first {p : Nat → Bool} {n c : Nat} (hc : c ≤ n) (H : ∀ d, d < n → (p d = true ↔ d < c)) : countTo p n = c := by
  induction n generalizing c with
  | zero => simp [countTo]; omega
  | succ n ih =>
    simp only [countTo]
    by_cases e : n < c
    · rw [if_pos ((H n (by omega)).2 e), countTo_all p n fun a ha => (H a (by omega)).2 (by omega)]; omega
    · rw [if_neg (fun h => e ((H n (by omega)).1 h)), ih (by omega) fun d hd => H d (by omega)]; omega

/-- the key of t and j stands ahead of that of s and i -/
def kless (f : Nat → Nat) (t j s i : Nat) : Prop := j * f s < i * f t ∨ (j * f s = i * f t ∧ t < s)
instance (f : Nat → Nat) (t j s i : Nat) : Decidable (kless f t j s i) := by unfold kless; infer_instance
def lessF (f : Nat → Nat) (t s i : Nat) : Nat := countTo (fun d => decide (kless f t (f t + d) s i)) (f t)
def placeF (f : Nat → Nat) (N s i : Nat) : Nat := sumTo (fun t => lessF f t s i) N

theorem kless_trans {f : Nat → Nat} {a i b j c k : Nat} (ha : 0 < f a) (hb : 0 < f b) (hc : 0 < f c) (h1 : kless f a i b j) (h2 : kless f b j c k) : kless f a i c k := by
  unfold kless at *
  have e1 : i * f b * f c ≤ j * f a * f c ∧ (i * f b < j * f a → i * f b * f c < j * f a * f c) := ⟨Nat.mul_le_mul_right _ (by rcases h1 with h | h <;> omega), fun h => Nat.mul_lt_mul_of_pos_right h hc⟩
  have e2 : j * f c * f a ≤ k * f b * f a ∧ (j * f c < k * f b → j * f c * f a < k * f b * f a) := ⟨Nat.mul_le_mul_right _ (by rcases h2 with h | h <;> omega), fun h => Nat.mul_lt_mul_of_pos_right h ha⟩
  have r1 : i * f b * f c = i * f c * f b := Nat.mul_right_comm _ _ _
  have r2 : j * f a * f c = j * f c * f a := Nat.mul_right_comm _ _ _
  have r3 : k * f b * f a = k * f a * f b := Nat.mul_right_comm _ _ _
  have back : ∀ {x y : Nat}, x * f b < y * f b → x < y := fun h => Nat.lt_of_mul_lt_mul_right h
  have back2 : ∀ {x y : Nat}, x * f b ≤ y * f b → x ≤ y := fun h => Nat.le_of_mul_le_mul_right h hb
  have hle : i * f c ≤ k * f a := back2 (by omega)
  rcases h1 with h1 | ⟨h1, t1⟩
  · left; exact back (by have := e1.2 h1; omega)
  · rcases h2 with h2 | ⟨h2, t2⟩
    · left; exact back (by have := e2.2 h2; omega)
    · right
      refine ⟨?_, by omega⟩
      have : i * f c * f b = k * f a * f b := by rw [← r1, h1, r2, h2, r3]
      exact Nat.eq_of_mul_eq_mul_right hb this
theorem kless_irr {f : Nat → Nat} {a i : Nat} : ¬ kless f a i a i := by unfold kless; omega
theorem kless_total {f : Nat → Nat} {a i b j : Nat} (ha : 0 < f a) (h : ¬ (a = b ∧ i = j)) : kless f a i b j ∨ kless f b j a i := by
  unfold kless
  by_cases e : i * f b = j * f a
  · by_cases s : a = b
    · subst s
      exact absurd ⟨rfl, Nat.eq_of_mul_eq_mul_right ha e⟩ h
    · omega
  · omega
theorem kless_same {f : Nat → Nat} {a i j : Nat} (ha : 0 < f a) : kless f a i a j ↔ i < j := by
  unfold kless
  constructor
  · rintro (h | ⟨_, h⟩)
    · exact Nat.lt_of_mul_lt_mul_right h
    · omega
  · exact fun h => Or.inl (Nat.mul_lt_mul_of_pos_right h ha)

theorem lessF_le (f : Nat → Nat) (t s i : Nat) : lessF f t s i ≤ f t := countTo_le _ _
theorem lessF_self {f : Nat → Nat} {s d : Nat} (hd : d < f s) : lessF f s s (f s + d) = d := by
  unfold lessF
  refine countTo_first (by omega) fun a ha => ?_
  rw [decide_eq_true_eq, kless_same (by omega)]; omega

/-- who stands ahead has a lesser place -/
theorem place_lt {f : Nat → Nat} {N s d t e : Nat} (hs : s < N) (hd : d < f s) (he : e < f t) (h : kless f s (f s + d) t (f t + e)) : placeF f N s (f s + d) < placeF f N t (f t + e) := by
  unfold placeF
  refine sumTo_lt N (fun a _ => ?_) s hs ?_
  · unfold lessF
    refine countTo_mono _ fun b hb hk => ?_
    rw [decide_eq_true_eq] at hk ⊢
    exact kless_trans (by omega) (by omega) (by omega) hk h
  · unfold lessF
    refine countTo_mono_lt _ (fun b hb hk => ?_) d hd ?_ ?_
    · rw [decide_eq_true_eq] at hk ⊢
      exact kless_trans (by omega) (by omega) (by omega) hk h
    · exact decide_eq_false kless_irr
    · exact decide_eq_true h
theorem place_inj {f : Nat → Nat} {N s d t e : Nat} (hs : s < N) (ht : t < N) (hd : d < f s) (he : e < f t) (h : placeF f N s (f s + d) = placeF f N t (f t + e)) : s = t ∧ d = e := by
  by_cases hk : s = t ∧ f s + d = f t + e
  · obtain ⟨rfl, h2⟩ := hk; exact ⟨rfl, by omega⟩
  · rcases kless_total (f := f) (by omega) hk with h1 | h1
    · have := place_lt hs hd he h1; omega
    · have := place_lt ht he hd h1; omega
theorem place_rise {f : Nat → Nat} {N s d e : Nat} (hs : s < N) (he : e < f s) (h : d < e) : placeF f N s (f s + d) < placeF f N s (f s + e) :=
  place_lt hs (by omega) he ((kless_same (by omega)).2 (by omega))
theorem place_room {f : Nat → Nat} {N s d : Nat} (hs : s < N) (hd : d < f s) : placeF f N s (f s + d) < sumTo f N := by
  unfold placeF
  refine sumTo_lt N (fun a _ => lessF_le f a s _) s hs ?_
  rw [lessF_self hd]; exact hd

/-- how many keys have a place below p -/
def keysTo (f : Nat → Nat) (N p : Nat) : Nat := sumTo (fun s => countTo (fun d => decide (placeF f N s (f s + d) < p)) (f s)) N
theorem countTo_parts (g : Nat → Nat) (p : Nat) : ∀ n, countTo (fun d => decide (g d < p + 1)) n = countTo (fun d => decide (g d < p)) n + countTo (fun d => decide (g d = p)) n
  | 0 => rfl
  | n + 1 => by
    simp only [countTo]
    rw [countTo_parts g p n]
    by_cases h1 : g n < p
    · rw [if_pos (decide_eq_true (by omega)), if_pos (decide_eq_true h1), if_neg (by simp; omega)]; omega
    · by_cases h2 : g n = p
      · rw [if_pos (decide_eq_true (by omega)), if_neg (by simp; omega), if_pos (decide_eq_true h2)]; omega
      · rw [if_neg (by simp; omega), if_neg (by simp; omega), if_neg (by simp; omega)]; omega
theorem keysTo_succ (f : Nat → Nat) (N p : Nat) : keysTo f N (p + 1) = keysTo f N p + sumTo (fun s => countTo (fun d => decide (placeF f N s (f s + d) = p)) (f s)) N := by
  unfold keysTo
  rw [← sumTo_add]
  exact sumTo_congr N fun s _ => countTo_parts (fun d => placeF f N s (f s + d)) p (f s)
theorem at_one (f : Nat → Nat) (N p : Nat) : sumTo (fun s => countTo (fun d => decide (placeF f N s (f s + d) = p)) (f s)) N ≤ 1 := by
  refine sumTo_one N (fun s hs => countTo_one _ fun a b ha hb h1 h2 => ?_) fun s t hs ht h1 h2 => ?_
  · rw [decide_eq_true_eq] at h1 h2
    exact (place_inj hs hs ha hb (h1.trans h2.symm)).2
  · obtain ⟨a, ha, h1⟩ := countTo_pos _ h1
    obtain ⟨b, hb, h2⟩ := countTo_pos _ h2
    rw [decide_eq_true_eq] at h1 h2
    exact (place_inj hs ht ha hb (h1.trans h2.symm)).1
theorem keysTo_zero (f : Nat → Nat) (N : Nat) : keysTo f N 0 = 0 := by
  unfold keysTo
  rw [sumTo_congr N (h := fun _ => 0) fun s _ => countTo_none _ _ fun a _ => by simp, sumTo_zero]
theorem keysTo_all (f : Nat → Nat) (N : Nat) : keysTo f N (sumTo f N) = sumTo f N := by
  unfold keysTo
  exact sumTo_congr N fun s hs => countTo_all _ _ fun a ha => decide_eq_true (place_room hs ha)
theorem keysTo_le (f : Nat → Nat) (N p : Nat) : keysTo f N p ≤ p := by
  induction p with
  | zero => rw [keysTo_zero]; exact Nat.le_refl _
  | succ p ih => rw [keysTo_succ]; have := at_one f N p; omega
theorem keysTo_far (f : Nat → Nat) (N p k : Nat) : keysTo f N (p + k) ≤ keysTo f N p + k := by
  induction k with
  | zero => exact Nat.le_refl _
  | succ k ih => rw [show p + (k + 1) = p + k + 1 by omega, keysTo_succ]; have := at_one f N (p + k); omega
/-- each place is a key's -/
theorem place_onto {f : Nat → Nat} {N p : Nat} (hp : p < sumTo f N) : ∃ s d, s < N ∧ d < f s ∧ placeF f N s (f s + d) = p := by
  have h1 := keysTo_far f N (p + 1) (sumTo f N - (p + 1))
  rw [show p + 1 + (sumTo f N - (p + 1)) = sumTo f N by omega, keysTo_all] at h1
  have h2 := keysTo_le f N p
  have h3 := keysTo_succ f N p
  obtain ⟨s, hs, hc⟩ := sumTo_pos (g := fun s => countTo (fun d => decide (placeF f N s (f s + d) = p)) (f s)) N (by omega)
  obtain ⟨d, hd, he⟩ := countTo_pos _ hc
  exact ⟨s, d, hs, hd, of_decide_eq_true he⟩

/-- a list that has each key's symbol at its place -/
structure IsSpread (f : Nat → Nat) (N : Nat) (l : List Nat) : Prop where
  len : l.length = sumTo f N
  at' : ∀ s d, s < N → d < f s → l.getD (placeF f N s (f s + d)) 0 = s
theorem IsSpread.one {f : Nat → Nat} {N : Nat} {l m : List Nat} (h : IsSpread f N l) (g : IsSpread f N m) : l = m := by
  refine List.ext_getElem (by rw [h.len, g.len]) fun p h1 h2 => ?_
  obtain ⟨s, d, hs, hd, rfl⟩ := place_onto (f := f) (N := N) (p := p) (by rw [← h.len]; exact h1)
  have e1 := h.at' s d hs hd
  have e2 := g.at' s d hs hd
  rw [List.getD_eq_getElem?_getD, List.getElem?_eq_getElem h1] at e1
  rw [List.getD_eq_getElem?_getD, List.getElem?_eq_getElem h2] at e2
  simp only [Option.getD_some] at e1 e2
  rw [e1, e2]
theorem IsSpread.is {f : Nat → Nat} {N : Nat} {l : List Nat} (h : IsSpread f N l) {p s : Nat} (hp : p < l.length) (e : l.getD p 0 = s) : s < N ∧ ∃ d, d < f s ∧ placeF f N s (f s + d) = p := by
  obtain ⟨t, d, ht, hd, rfl⟩ := place_onto (f := f) (N := N) (p := p) (by rw [← h.len]; exact hp)
  rw [h.at' t d ht hd] at e
  subst e
  exact ⟨ht, d, hd, rfl⟩
/-- the d-th place of s has d of them ahead -/
theorem IsSpread.count {f : Nat → Nat} {N : Nat} {l : List Nat} (h : IsSpread f N l) {s : Nat} (hs : s < N) (p : Nat) (hp : p ≤ l.length) : countTo (fun a => decide (l.getD a 0 = s)) p = countTo (fun d => decide (placeF f N s (f s + d) < p)) (f s) := by
  induction p with
  | zero => rw [countTo_none (fun d => decide (placeF f N s (f s + d) < 0)) _ fun a _ => by simp]; rfl
  | succ p ih =>
    simp only [countTo]
    rw [ih (by omega)]
    by_cases e : l.getD p 0 = s
    · obtain ⟨_, d, hd, hpl⟩ := h.is (by omega) e
      rw [if_pos (decide_eq_true e), countTo_first (c := d) (by omega) fun a ha => ?_, countTo_first (c := d + 1) (by omega) fun a ha => ?_]
      · rw [decide_eq_true_eq, ← hpl]
        constructor
        · intro hlt
          by_cases hx : a ≤ d
          · omega
          · have := place_rise (f := f) (N := N) hs ha (show d < a by omega); omega
        · intro hlt
          by_cases hx : a = d
          · subst hx; omega
          · have := place_rise (f := f) (N := N) hs hd (show a < d by omega); omega
      · rw [decide_eq_true_eq, ← hpl]
        constructor
        · intro hlt
          by_cases hx : a < d
          · exact hx
          · by_cases hy : a = d
            · subst hy; omega
            · have := place_rise (f := f) (N := N) hs ha (show d < a by omega); omega
        · exact fun hlt => place_rise (f := f) (N := N) hs hd hlt
    · rw [if_neg (by simpa using e), Nat.add_zero]
      refine countTo_congr _ fun a ha => ?_
      have : placeF f N s (f s + a) ≠ p := fun hc => e (by rw [← hc]; exact h.at' s a hs ha)
      exact decide_eq_decide.2 (by omega)
theorem IsSpread.nth {f : Nat → Nat} {N : Nat} {l : List Nat} (h : IsSpread f N l) {s d : Nat} (hs : s < N) (hd : d < f s) : countTo (fun a => decide (l.getD a 0 = s)) (placeF f N s (f s + d)) = d := by
  rw [h.count hs _ (by rw [h.len]; exact Nat.le_of_lt (place_room hs hd))]
  refine countTo_first (by omega) fun a ha => ?_
  rw [decide_eq_true_eq]
  constructor
  · intro hlt
    by_cases hx : a < d
    · exact hx
    · by_cases hy : a = d
      · subst hy; omega
      · have := place_rise (f := f) (N := N) hs ha (show d < a by omega); omega
  · exact fun hlt => place_rise (f := f) (N := N) hs hd hlt
theorem IsSpread.all {f : Nat → Nat} {N : Nat} {l : List Nat} (h : IsSpread f N l) {s : Nat} (hs : s < N) : countTo (fun a => decide (l.getD a 0 = s)) l.length = f s := by
  rw [h.count hs _ (Nat.le_refl _), h.len]
  exact countTo_all _ _ fun a ha => decide_eq_true (place_room hs ha)

/-- the first places -/
theorem place_first {f : Nat → Nat} {N s : Nat} (hs : s < N) (h : 0 < f s) : placeF f N s (f s) = countTo (fun t => decide (0 < f t)) s := by
  have key : ∀ n, sumTo (fun t => lessF f t s (f s)) n = countTo (fun t => decide (0 < f t ∧ t < s)) n := by
    intro n
    induction n with
    | zero => rfl
    | succ n ih =>
      simp only [sumTo, countTo]
      rw [ih]
      congr 1
      unfold lessF
      by_cases e : 0 < f n ∧ n < s
      · rw [if_pos (decide_eq_true e), countTo_first (c := 1) (by omega) fun a ha => ?_]
        rw [decide_eq_true_eq]
        unfold kless
        constructor
        · rintro (hk | ⟨hk, _⟩)
          · rw [Nat.mul_comm (f s)] at hk; have := Nat.lt_of_mul_lt_mul_right hk; omega
          · rw [Nat.mul_comm (f s)] at hk; have := Nat.eq_of_mul_eq_mul_right h hk; omega
        · intro hk
          right
          rw [show a = 0 by omega, Nat.add_zero]; exact ⟨Nat.mul_comm _ _, e.2⟩
      · rw [if_neg (by simpa using e), countTo_none _ _ fun a ha => decide_eq_false fun hk => ?_]
        unfold kless at hk
        rcases hk with hk | ⟨_, hk⟩
        · rw [Nat.mul_comm (f s)] at hk; have := Nat.lt_of_mul_lt_mul_right hk; omega
        · exact e ⟨by omega, hk⟩
  unfold placeF
  rw [key N, show N = s + (N - s) by omega]
  generalize N - s = k
  induction k with
  | zero => exact countTo_congr s fun a ha => decide_eq_decide.2 (by omega)
  | succ k ih => rw [show s + (k + 1) = s + k + 1 by omega]; simp only [countTo]; rw [ih, if_neg (by simp)]; rfl

/-- how far a symbol's keys reach -/
theorem less_near {f : Nat → Nat} {s t d : Nat} (hd : d < f s) : (f s + d) * f t ≤ (lessF f t s (f s + d) + f t) * f s ∧ (lessF f t s (f s + d) + f t) * f s ≤ (f s + d) * f t + if 0 < f t ∧ t ≠ s then f s else 0 := by
  by_cases hz : f t = 0
  · have : lessF f t s (f s + d) = 0 := by have := lessF_le f t s (f s + d); omega
    rw [this, hz]; simp
  · by_cases hts : t = s
    · subst hts
      rw [lessF_self hd, Nat.add_comm d (f t)]
      exact ⟨Nat.le_refl _, Nat.le_add_right _ _⟩
    · rw [if_pos ⟨by omega, hts⟩]
      have ht := countTo_thresh (p := fun d' => decide (kless f t (f t + d') s (f s + d))) (fun a hk => by
        rw [decide_eq_true_eq] at hk ⊢
        exact kless_trans (by omega) (by omega) (by omega) ((kless_same (by omega)).2 (show f t + a < f t + (a + 1) by omega)) hk) (f t)
      have hle := lessF_le f t s (f s + d)
      have ht : (∀ d', d' < lessF f t s (f s + d) → decide (kless f t (f t + d') s (f s + d)) = true) ∧ (lessF f t s (f s + d) < f t → decide (kless f t (f t + lessF f t s (f s + d)) s (f s + d)) = false) := ht
      revert hle ht
      generalize lessF f t s (f s + d) = c
      rintro hle ⟨h1, h2⟩
      constructor
      · by_cases hc : c < f t
        · have := h2 hc
          rw [decide_eq_false_iff_not] at this
          unfold kless at this
          refine Nat.le_of_not_lt fun hh => this (Or.inl ?_)
          rw [Nat.add_comm c (f t)] at hh
          exact hh
        · have e : c = f t := by omega
          rw [e]
          calc (f s + d) * f t ≤ (f s + f s) * f t := Nat.mul_le_mul_right _ (by omega)
            _ = (f t + f t) * f s := by rw [Nat.add_mul, Nat.add_mul, Nat.mul_comm]
      · by_cases hc : c = 0
        · subst hc
          rw [Nat.zero_add, Nat.mul_comm (f t)]
          have : f s * f t ≤ (f s + d) * f t := Nat.mul_le_mul_right _ (by omega)
          omega
        · have := h1 (c - 1) (by omega)
          rw [decide_eq_true_eq] at this
          unfold kless at this
          have e : (c + f t) * f s = (f t + (c - 1)) * f s + f s := by
            rw [← Nat.succ_mul]; congr 1; omega
          rw [e]; omega
theorem sum_others (f : Nat → Nat) (s c : Nat) (h : 0 < f s) : ∀ n, sumTo (fun t => if 0 < f t ∧ t ≠ s then c else 0) n + (if s < n then c else 0) = countTo (fun t => decide (0 < f t)) n * c
  | 0 => by simp [sumTo, countTo]
  | n + 1 => by
    have ih := sum_others f s c h n
    simp only [sumTo, countTo]
    by_cases e : n = s
    · subst e
      rw [if_neg (by omega)] at ih
      rw [if_neg (by omega), if_pos (by omega), if_pos (decide_eq_true h), Nat.add_mul, ← ih]; omega
    · by_cases hp : 0 < f n
      · rw [if_pos ⟨hp, e⟩, if_pos (decide_eq_true hp), Nat.add_mul, ← ih]
        by_cases h2 : s < n
        · rw [if_pos (by omega), if_pos h2]; omega
        · rw [if_neg (by omega), if_neg h2]; omega
      · have hd : decide (0 < f n) = false := decide_eq_false hp
        rw [if_neg (fun hh => hp hh.1), Nat.add_zero, if_neg (c := (fun t => decide (0 < f t)) n = true) (by rw [show (fun t => decide (0 < f t)) n = false from hd]; exact Bool.false_ne_true), Nat.add_zero (countTo _ _), ← ih]
        by_cases h2 : s < n
        · rw [if_pos (by omega), if_pos h2]
        · rw [if_neg (by omega), if_neg h2]
/-- a key's place is near where its fraction is -/
theorem place_near {f : Nat → Nat} {N s d : Nat} (hs : s < N) (hd : d < f s) :
    (f s + d) * sumTo f N ≤ (sumTo f N + placeF f N s (f s + d)) * f s ∧ (sumTo f N + placeF f N s (f s + d)) * f s + f s ≤ (f s + d) * sumTo f N + countTo (fun t => decide (0 < f t)) N * f s := by
  have e1 : (sumTo f N + placeF f N s (f s + d)) * f s = sumTo (fun t => (lessF f t s (f s + d) + f t) * f s) N := by
    rw [sumTo_mul, sumTo_add, Nat.add_comm]; rfl
  have e2 : (f s + d) * sumTo f N = sumTo (fun t => (f s + d) * f t) N := by
    rw [Nat.mul_comm, ← sumTo_mul]; exact sumTo_congr N fun a _ => Nat.mul_comm _ _
  have e3 := sum_others f s (f s) (by omega) N
  rw [if_pos hs] at e3
  rw [e1, e2]
  refine ⟨sumTo_le N fun t _ => (less_near hd).1, ?_⟩
  have := sumTo_le N (g := fun t => (lessF f t s (f s + d) + f t) * f s) (h := fun t => (f s + d) * f t + if 0 < f t ∧ t ≠ s then f s else 0) fun t _ => (less_near hd).2
  rw [sumTo_add] at this
  omega

end Go.Proofs.Ytokeoebhmjefoaa

/- Plain mathematics of chapter 7: logs to the base of two. -/
namespace Go.Proofs.Ytokeoebhmjefoaa
open Go

def floorI (n : Int) : Nat := Nat.log2 n.toNat
def ceilI (n : Int) : Nat := if n < 2 then 0 else Nat.log2 (n.toNat - 1) + 1
def widthI (n : Int) : Nat := if n < 1 then 0 else Nat.log2 n.toNat + 1
def pickI (n m most : Int) : Int := max (max (min ((floorI n : Int) - 2) most) 5) ((ceilI m : Nat) : Int)

theorem pow_le {a b : Nat} (h : a ≤ b) : 2 ^ a ≤ 2 ^ b := Nat.pow_le_pow_right (by omega) h
theorem lt_of_pow {a b : Nat} (h : 2 ^ a < 2 ^ b) : a < b := by
  rcases Nat.lt_or_ge a b with h1 | h1
  · exact h1
  · have := pow_le h1; omega
theorem two_pow_succ (k : Nat) : 2 ^ (k + 1) = 2 * 2 ^ k := by rw [Nat.pow_succ]; omega

theorem floor_spec {n : Int} (h : 1 ≤ n) : ((2 ^ floorI n : Nat) : Int) ≤ n ∧ n < ((2 ^ (floorI n + 1) : Nat) : Int) := by
  have h1 := Nat.log2_self_le (n := n.toNat) (by omega)
  have h2 := Nat.lt_log2_self (n := n.toNat)
  unfold floorI
  omega
theorem floor_unique {n : Int} {k : Nat} (h1 : ((2 ^ k : Nat) : Int) ≤ n) (h2 : n < ((2 ^ (k + 1) : Nat) : Int)) : floorI n = k := by
  have hp := Nat.two_pow_pos k
  have hs := floor_spec (n := n) (by omega)
  have a := lt_of_pow (a := floorI n) (b := k + 1) (by omega)
  have b := lt_of_pow (a := k) (b := floorI n + 1) (by omega)
  omega
theorem floor_small {n : Int} (h : n < 2) : floorI n = 0 := by
  by_cases h1 : n = 1
  · subst h1; decide
  · unfold floorI
    rw [show n.toNat = 0 by omega]; decide
theorem ceil_small {n : Int} (h : n < 2) : ceilI n = 0 := by unfold ceilI; rw [if_pos h]

theorem ceil_spec {n : Int} (h : 1 ≤ n) : n ≤ ((2 ^ ceilI n : Nat) : Int) ∧ (ceilI n = 0 ∨ ((2 ^ (ceilI n - 1) : Nat) : Int) < n) := by
  by_cases h1 : n < 2
  · rw [ceil_small h1]; exact ⟨by simp; omega, .inl rfl⟩
  · have a := Nat.log2_self_le (n := n.toNat - 1) (by omega)
    have b := Nat.lt_log2_self (n := n.toNat - 1)
    unfold ceilI
    rw [if_neg h1]
    refine ⟨by omega, .inr ?_⟩
    rw [Nat.add_sub_cancel]; omega
theorem ceil_unique {n : Int} {k : Nat} (h : 1 ≤ n) (h1 : n ≤ ((2 ^ k : Nat) : Int)) (h2 : k = 0 ∨ ((2 ^ (k - 1) : Nat) : Int) < n) : ceilI n = k := by
  obtain ⟨s1, s2⟩ := ceil_spec h
  have a : ceilI n ≤ k := by
    rcases s2 with s2 | s2
    · omega
    · have := lt_of_pow (a := ceilI n - 1) (b := k) (by omega); omega
  have b : k ≤ ceilI n := by
    rcases h2 with h2 | h2
    · omega
    · have := lt_of_pow (a := k - 1) (b := ceilI n) (by omega); omega
  omega

theorem floor_mono {n m : Int} (h : n ≤ m) : floorI n ≤ floorI m := by
  by_cases h1 : n < 2
  · rw [floor_small h1]; omega
  · have a := floor_spec (n := n) (by omega)
    have b := floor_spec (n := m) (by omega)
    have := lt_of_pow (a := floorI n) (b := floorI m + 1) (by omega)
    omega
theorem ceil_mono {n m : Int} (h : n ≤ m) : ceilI n ≤ ceilI m := by
  by_cases h1 : n < 2
  · rw [ceil_small h1]; omega
  · have a := ceil_spec (n := n) (by omega)
    have b := ceil_spec (n := m) (by omega)
    rcases a.2 with a2 | a2
    · omega
    · have := lt_of_pow (a := ceilI n - 1) (b := ceilI m) (by omega); omega

theorem floor_at (k : Nat) : floorI ((2 ^ k : Nat) : Int) = k := floor_unique (Int.le_refl _) (by have := Nat.two_pow_pos k; rw [two_pow_succ]; omega)
theorem ceil_at (k : Nat) : ceilI ((2 ^ k : Nat) : Int) = k := by
  have := Nat.two_pow_pos k
  refine ceil_unique (by omega) (Int.le_refl _) ?_
  cases k with
  | zero => exact .inl rfl
  | succ k => right; rw [Nat.add_sub_cancel, two_pow_succ]; have := Nat.two_pow_pos k; omega

theorem floor_le40 {n : Int} (h : n ≤ 1099511627776) : floorI n ≤ 40 := by
  have := floor_mono (n := n) (m := ((2 ^ 40 : Nat) : Int)) (by simpa using h)
  rwa [floor_at] at this
theorem ceil_le40 {n : Int} (h : n ≤ 1099511627776) : ceilI n ≤ 40 := by
  have := ceil_mono (n := n) (m := ((2 ^ 40 : Nat) : Int)) (by simpa using h)
  rwa [ceil_at] at this

theorem width_small {n : Int} (h : n < 1) : widthI n = 0 := by unfold widthI; rw [if_pos h]
theorem width_floor {n : Int} (h : 1 ≤ n) : widthI n = floorI n + 1 := by unfold widthI floorI; rw [if_neg (by omega)]
theorem width_le41 {n : Int} (h : n ≤ 1099511627776) : widthI n ≤ 41 := by
  by_cases h1 : n < 1
  · rw [width_small h1]; omega
  · rw [width_floor (by omega)]; have := floor_le40 h; omega

theorem floor_double {n : Int} (h : 1 ≤ n) : floorI (2 * n) = floorI n + 1 ∧ floorI (2 * n + 1) = floorI n + 1 := by
  have a := floor_spec h
  have e1 := two_pow_succ (floorI n)
  have e2 := two_pow_succ (floorI n + 1)
  exact ⟨floor_unique (by omega) (by omega), floor_unique (by omega) (by omega)⟩
theorem ceil_double {n : Int} (h : 1 ≤ n) : ceilI (2 * n) = ceilI n + 1 := by
  have a := ceil_spec h
  have e1 := two_pow_succ (ceilI n)
  refine ceil_unique (by omega) (by omega) (.inr ?_)
  rw [Nat.add_sub_cancel]
  rcases a.2 with a2 | a2
  · rw [a2]; simp; omega
  · by_cases h0 : ceilI n = 0
    · rw [h0]; simp; omega
    · have e2 := two_pow_succ (ceilI n - 1)
      rw [show ceilI n - 1 + 1 = ceilI n by omega] at e2
      omega
theorem width_double {n : Int} (h : 1 ≤ n) : widthI (2 * n) = widthI n + 1 ∧ widthI (2 * n + 1) = widthI n + 1 := by
  have := floor_double h
  rw [width_floor h, width_floor (by omega), width_floor (by omega)]; omega
theorem width_half {n : Int} (h : 1 ≤ n) : widthI n = widthI (n / 2) + 1 := by
  by_cases h1 : n = 1
  · subst h1; decide
  · have := width_double (n := n / 2) (by omega)
    by_cases h2 : n % 2 = 0
    · rw [show 2 * (n / 2) = n by omega] at this; exact this.1
    · rw [show 2 * (n / 2) + 1 = n by omega] at this; exact this.2

theorem both_at {n : Int} (h : 1 ≤ n) : ceilI n = floorI n ↔ n = ((2 ^ floorI n : Nat) : Int) := by
  have a := floor_spec h
  have b := ceil_spec h
  constructor
  · intro e; rw [e] at b; omega
  · intro e
    have := ceil_at (floorI n)
    rw [← e] at this; exact this

theorem pick_ge5 (n m most : Int) : 5 ≤ pickI n m most := by unfold pickI; omega
theorem pick_le40 {n m most : Int} (h : n ≤ 1099511627776) (h2 : m ≤ 1099511627776) : pickI n m most ≤ 40 := by
  have := floor_le40 h; have := ceil_le40 h2
  unfold pickI; omega
theorem pick_mono {n m most n' m' most' : Int} (h1 : n ≤ n') (h2 : m ≤ m') (h3 : most ≤ most') : pickI n m most ≤ pickI n' m' most' := by
  have := floor_mono h1; have := ceil_mono h2
  unfold pickI; omega

/-- a table has room -/
theorem pick_room {n m t : Int} (hm : 1 ≤ m) (ht : 5 ≤ t) (k : Nat) (hk : pickI n m t = (k : Int)) :
    m ≤ ((2 ^ k : Nat) : Int) ∧ ((k : Int) ≤ t ∨ ((2 ^ (k - 1) : Nat) : Int) < m) ∧ (k = 5 ∨ k ≤ floorI n ∨ ((2 ^ (k - 1) : Nat) : Int) < m) := by
  have c := ceil_spec hm
  unfold pickI at hk
  have hck : ceilI m ≤ k := by omega
  have hp := pow_le hck
  by_cases he : ceilI m = k
  · rw [he] at c
    refine ⟨c.1, ?_, ?_⟩
    · rcases c.2 with c2 | c2
      · left; omega
      · right; exact c2
    · rcases c.2 with c2 | c2
      · exfalso; omega
      · right; right; exact c2
  · refine ⟨by omega, by left; omega, ?_⟩
    by_cases h5 : k = 5
    · left; exact h5
    · right; left; omega

end Go.Proofs.Ytokeoebhmjefoaa

/- Plain mathematics of chapter 11: cells, and that each state is reached from each symbol in one way. -/
namespace Go.Proofs.Ytokeoebhmjefoaa
open Go

/-- a cell -/
structure Cl where
  Sym : Nat
  Bits : Int
  Base : Int
  deriving DecidableEq
def cl0 : Cl := ⟨0, 0, 0⟩

/-- how many bits the key of i takes -/
def bitsN (R i : Nat) : Nat := R - Nat.log2 i
def cellOf (R s i : Nat) : Cl := ⟨s, ((bitsN R i : Nat) : Int), ((i * 2 ^ bitsN R i : Nat) : Int) - ((2 ^ R : Nat) : Int)⟩

theorem log2_spec {i : Nat} (h : 1 ≤ i) : 2 ^ Nat.log2 i ≤ i ∧ i < 2 ^ (Nat.log2 i + 1) := by
  have := floor_spec (n := (i : Int)) (by omega)
  unfold floorI at this
  rw [Int.toNat_natCast] at this
  omega
theorem log2_unique {i k : Nat} (h1 : 2 ^ k ≤ i) (h2 : i < 2 ^ (k + 1)) : Nat.log2 i = k := by
  have := floor_unique (n := (i : Int)) (k := k) (by omega) (by omega)
  unfold floorI at this
  rw [Int.toNat_natCast] at this
  exact this
theorem log2_mono {i j : Nat} (h : i ≤ j) : Nat.log2 i ≤ Nat.log2 j := by
  have := floor_mono (n := (i : Int)) (m := (j : Int)) (by omega)
  unfold floorI at this
  rw [Int.toNat_natCast, Int.toNat_natCast] at this
  exact this
theorem log2_lt {i R : Nat} (h : 1 ≤ i) (h2 : i < 2 ^ (R + 1)) : Nat.log2 i ≤ R := by
  have := lt_of_pow (Nat.lt_of_le_of_lt (log2_spec h).1 h2)
  omega
/-- where a key's states lie -/
theorem bits_range {R i : Nat} (h : 1 ≤ i) (h2 : i < 2 ^ (R + 1)) : 2 ^ R ≤ i * 2 ^ bitsN R i ∧ (i + 1) * 2 ^ bitsN R i ≤ 2 ^ (R + 1) := by
  have h3 := log2_lt h h2
  obtain ⟨h4, h5⟩ := log2_spec h
  have e1 : 2 ^ R = 2 ^ Nat.log2 i * 2 ^ bitsN R i := by rw [← Nat.pow_add]; congr 1; unfold bitsN; omega
  have e2 : 2 ^ (R + 1) = 2 ^ (Nat.log2 i + 1) * 2 ^ bitsN R i := by rw [← Nat.pow_add]; congr 1; unfold bitsN; omega
  rw [e1, e2]
  exact ⟨Nat.mul_le_mul_right _ h4, Nat.mul_le_mul_right _ h5⟩

/-- i's numbers hold y -/
def covers (R i y : Nat) : Prop := i * 2 ^ bitsN R i ≤ y ∧ y < (i + 1) * 2 ^ bitsN R i
theorem covers_div {R i y : Nat} (h : covers R i y) : y / 2 ^ bitsN R i = i := by
  have hp := Nat.two_pow_pos (bitsN R i)
  refine Nat.div_eq_of_lt_le h.1 ?_
  exact h.2
theorem half_more {y k m : Nat} (h : k < m) : y / 2 ^ m ≤ y / 2 ^ k / 2 := by
  have : 2 ^ m = 2 ^ (k + 1) * 2 ^ (m - (k + 1)) := by rw [← Nat.pow_add]; congr 1; omega
  rw [this, ← Nat.div_div_eq_div_mul]
  refine Nat.le_trans (Nat.div_le_self _ _) ?_
  rw [Nat.pow_succ, ← Nat.div_div_eq_div_mul]
  exact Nat.le_refl _
theorem covers_one {R q i j y : Nat} (hi : q ≤ i) (hi2 : i < 2 * q) (hj : q ≤ j) (hj2 : j < 2 * q) (h1 : covers R i y) (h2 : covers R j y) : i = j := by
  have e1 := covers_div h1
  have e2 := covers_div h2
  by_cases hk : bitsN R i = bitsN R j
  · rw [hk] at e1; omega
  · by_cases hlt : bitsN R i < bitsN R j
    · have := half_more (y := y) hlt
      rw [e1, e2] at this; omega
    · have := half_more (y := y) (show bitsN R j < bitsN R i by omega)
      rw [e1, e2] at this; omega
theorem shift_in {q y : Nat} (hq : q ≤ y) : ∀ n, y / 2 ^ n < 2 * q → ∃ k, k ≤ n ∧ q ≤ y / 2 ^ k ∧ y / 2 ^ k < 2 * q
  | 0, h => ⟨0, Nat.le_refl _, by simpa using hq, h⟩
  | n + 1, h => by
    by_cases h2 : y / 2 ^ n < 2 * q
    · obtain ⟨k, hk, h3⟩ := shift_in hq n h2
      exact ⟨k, by omega, h3⟩
    · refine ⟨n + 1, Nat.le_refl _, ?_, h⟩
      rw [Nat.pow_succ, ← Nat.div_div_eq_div_mul]
      omega
theorem covers_some {R q x : Nat} (h1 : 1 ≤ q) (h2 : q ≤ 2 ^ R) (hx : x < 2 ^ R) : ∃ i, q ≤ i ∧ i < 2 * q ∧ covers R i (2 ^ R + x) := by
  have hp := Nat.two_pow_pos R
  have hd : (2 ^ R + x) / 2 ^ R < 2 * q := by
    have : (2 ^ R + x) / 2 ^ R < 2 := (Nat.div_lt_iff_lt_mul hp).2 (by omega)
    omega
  obtain ⟨k, hk, h3, h4⟩ := shift_in (show q ≤ 2 ^ R + x by omega) R hd
  refine ⟨_, h3, h4, ?_⟩
  have hpk := Nat.two_pow_pos k
  have e1 : 2 ^ R = 2 ^ (R - k) * 2 ^ k := by rw [← Nat.pow_add]; congr 1; omega
  have e2 : 2 ^ (R + 1) = 2 ^ (R - k + 1) * 2 ^ k := by rw [← Nat.pow_add]; congr 1; omega
  have hlo : 2 ^ (R - k) ≤ (2 ^ R + x) / 2 ^ k := (Nat.le_div_iff_mul_le hpk).2 (by rw [← e1]; omega)
  have hhi : (2 ^ R + x) / 2 ^ k < 2 ^ (R - k + 1) := (Nat.div_lt_iff_lt_mul hpk).2 (by rw [← e2, two_pow_succ]; omega)
  have hb : bitsN R ((2 ^ R + x) / 2 ^ k) = k := by unfold bitsN; rw [log2_unique hlo hhi]; omega
  unfold covers
  rw [hb]
  have hdm := Nat.div_add_mod (2 ^ R + x) (2 ^ k)
  have hmod := Nat.mod_lt (2 ^ R + x) hpk
  rw [Nat.mul_comm] at hdm
  refine ⟨by omega, ?_⟩
  rw [Nat.add_mul, Nat.one_mul]; omega

/-- a cell of the symbol s holds x -/
def inC (c : Cl) (s x : Nat) : Prop := c.Sym = s ∧ c.Base ≤ (x : Int) ∧ (x : Int) < c.Base + ((2 ^ c.Bits.toNat : Nat) : Int)
instance (c : Cl) (s x : Nat) : Decidable (inC c s x) := by unfold inC; infer_instance
theorem inC_cell {R s i t x : Nat} : inC (cellOf R s i) t x ↔ s = t ∧ covers R i (2 ^ R + x) := by
  unfold inC cellOf covers
  simp only [Int.toNat_natCast]
  rw [Nat.add_mul, Nat.one_mul]
  omega

structure IsDtab (f : Nat → Nat) (R : Nat) (l : List Cl) : Prop where
  len : l.length = 2 ^ R
  at' : ∀ s d, s < 256 → d < f s → l.getD (placeF f 256 s (f s + d)) cl0 = cellOf R s (f s + d)

theorem countTo_exact {p : Nat → Bool} {n a : Nat} (ha : a < n) (h : p a = true) (hu : ∀ b, b < n → p b = true → b = a) : countTo p n = 1 := by
  have h1 := countTo_some ha h
  have h2 := countTo_one (p := p) n fun x y hx hy h3 h4 => by rw [hu x hx h3, hu y hy h4]
  omega
theorem countTo_unique {p : Nat → Bool} {n : Nat} (h : countTo p n = 1) {a b : Nat} (ha : a < n) (hb : b < n) (h1 : p a = true) (h2 : p b = true) : a = b := by
  by_cases e : a = b
  · exact e
  · have : countTo (fun x => decide (x = a)) n < countTo p n := countTo_mono_lt n (fun x hx hh => by rw [decide_eq_true_eq] at hh; rw [hh]; exact h1) b hb (decide_eq_false fun hh => e hh.symm) h2
    have h3 := countTo_some (p := fun x => decide (x = a)) ha (decide_eq_true rfl)
    omega

theorem IsDtab.is {f : Nat → Nat} {R : Nat} {l : List Cl} (h : IsDtab f R l) (hs : sumTo f 256 = 2 ^ R) {a : Nat} (ha : a < 2 ^ R) : ∃ s d, s < 256 ∧ d < f s ∧ placeF f 256 s (f s + d) = a ∧ l.getD a cl0 = cellOf R s (f s + d) := by
  obtain ⟨s, d, h1, h2, h3⟩ := place_onto (f := f) (N := 256) (p := a) (by rw [hs]; exact ha)
  refine ⟨s, d, h1, h2, h3, ?_⟩
  rw [← h3]; exact h.at' s d h1 h2
theorem IsDtab.one {f : Nat → Nat} {R : Nat} {l m : List Cl} (hs : sumTo f 256 = 2 ^ R) (h : IsDtab f R l) (g : IsDtab f R m) : l = m := by
  refine List.ext_getElem (by rw [h.len, g.len]) fun p h1 h2 => ?_
  have hp : p < 2 ^ R := by rw [← h.len]; exact h1
  obtain ⟨s, d, hs1, hd, hpl, he⟩ := h.is hs hp
  have e2 := g.at' s d hs1 hd
  rw [hpl] at e2
  rw [List.getD_eq_getElem?_getD, List.getElem?_eq_getElem h1] at he
  rw [List.getD_eq_getElem?_getD, List.getElem?_eq_getElem h2] at e2
  simp only [Option.getD_some] at he e2
  rw [he, e2]
theorem f_le {f : Nat → Nat} {R s : Nat} (hs : sumTo f 256 = 2 ^ R) (h : s < 256) : f s ≤ 2 ^ R := by
  have := sumTo_at f 256 s h; omega
/-- each state is reached from each symbol that is there in one way -/
theorem IsDtab.reach {f : Nat → Nat} {R : Nat} {l : List Cl} (h : IsDtab f R l) (hs : sumTo f 256 = 2 ^ R) {s x : Nat} (h256 : s < 256) (hx : x < 2 ^ R) : countTo (fun b => decide (inC (l.getD b cl0) s x)) (2 ^ R) = if 0 < f s then 1 else 0 := by
  by_cases h0 : 0 < f s
  · rw [if_pos h0]
    obtain ⟨i, hi1, hi2, hcov⟩ := covers_some (R := R) (q := f s) (x := x) h0 (f_le hs h256) hx
    have hroom := place_room (f := f) (N := 256) (s := s) (d := i - f s) h256 (by omega)
    rw [hs] at hroom
    have hat := h.at' s (i - f s) h256 (by omega)
    rw [show f s + (i - f s) = i by omega] at hroom hat
    refine countTo_exact hroom (decide_eq_true (by rw [hat]; exact inC_cell.2 ⟨rfl, hcov⟩)) fun b hb hin => ?_
    obtain ⟨t, d, ht, hd, hpl, he⟩ := h.is hs hb
    rw [decide_eq_true_eq, he, inC_cell] at hin
    obtain ⟨rfl, hc2⟩ := hin
    have := covers_one hi1 hi2 (by omega) (by omega) hcov hc2
    rw [← hpl, this]
  · rw [if_neg h0]
    refine countTo_none _ _ fun b hb => decide_eq_false fun hin => ?_
    obtain ⟨t, d, ht, hd, hpl, he⟩ := h.is hs hb
    rw [he, inC_cell] at hin
    obtain ⟨rfl, _⟩ := hin
    omega

/-- whole cells -/
def WholeL (l : List Cl) : Prop :=
  (∃ R, 1 ≤ R ∧ R ≤ 12 ∧ l.length = 2 ^ R) ∧
  (∀ a, a < l.length → 0 ≤ (l.getD a cl0).Bits ∧ (l.getD a cl0).Bits ≤ 12 ∧ 0 ≤ (l.getD a cl0).Base ∧ (l.getD a cl0).Base ≤ (l.length : Int) - ((2 ^ (l.getD a cl0).Bits.toNat : Nat) : Int)) ∧
  ∀ a x, a < l.length → x < l.length → countTo (fun b => decide (inC (l.getD b cl0) (l.getD a cl0).Sym x)) l.length = 1

theorem cell_bounds {R q s i : Nat} (_h1 : 1 ≤ q) (h2 : q ≤ 2 ^ R) (hi : q ≤ i) (hi2 : i < 2 * q) : 0 ≤ (cellOf R s i).Base ∧ (cellOf R s i).Base + ((2 ^ bitsN R i : Nat) : Int) ≤ ((2 ^ R : Nat) : Int) := by
  have := bits_range (R := R) (i := i) (by omega) (by rw [two_pow_succ]; omega)
  rw [Nat.add_mul, Nat.one_mul, two_pow_succ] at this
  unfold cellOf
  simp only []
  omega
theorem IsDtab.whole {f : Nat → Nat} {R : Nat} {l : List Cl} (h : IsDtab f R l) (hs : sumTo f 256 = 2 ^ R) (h1 : 1 ≤ R) (h2 : R ≤ 12) : WholeL l := by
  refine ⟨⟨R, h1, h2, h.len⟩, fun a ha => ?_, fun a x ha hx => ?_⟩
  · rw [h.len] at ha ⊢
    obtain ⟨s, d, hs1, hd, hpl, he⟩ := h.is hs ha
    rw [he]
    have hb := cell_bounds (R := R) (q := f s) (s := s) (i := f s + d) (by omega) (f_le hs hs1) (by omega) (by omega)
    have e : (cellOf R s (f s + d)).Bits = ((bitsN R (f s + d) : Nat) : Int) := rfl
    rw [e, Int.toNat_natCast]
    have : bitsN R (f s + d) ≤ R := by unfold bitsN; omega
    exact ⟨by omega, by omega, hb.1, by omega⟩
  · rw [h.len] at ha hx ⊢
    obtain ⟨s, d, hs1, hd, hpl, he⟩ := h.is hs ha
    rw [he, show (cellOf R s (f s + d)).Sym = s from rfl, h.reach hs hs1 hx, if_pos (by omega)]

theorem getD_set_self {l : List Cl} {a : Nat} (h : a < l.length) (c : Cl) : (l.set a c).getD a cl0 = c := by
  rw [List.getD_eq_getElem?_getD, List.getElem?_set_self h]; rfl
theorem getD_set_other {l : List Cl} {a b : Nat} (h : a ≠ b) (c : Cl) : (l.set a c).getD b cl0 = l.getD b cl0 := by
  rw [List.getD_eq_getElem?_getD, List.getElem?_set_ne h, ← List.getD_eq_getElem?_getD]

theorem whole_moved {l : List Cl} (h : WholeL l) {a : Nat} (ha : a < l.length) {e : Int} (he : e ≠ 0) : ¬ WholeL (l.set a ⟨(l.getD a cl0).Sym, (l.getD a cl0).Bits, (l.getD a cl0).Base + e⟩) := by
  intro h'
  obtain ⟨_, hb, hc⟩ := h
  obtain ⟨_, _, hc'⟩ := h'
  obtain ⟨b0, b1, b2, b3⟩ := hb a ha
  have hp := Nat.two_pow_pos (l.getD a cl0).Bits.toNat
  have key : ∀ x : Nat, x < l.length → inC (l.getD a cl0) (l.getD a cl0).Sym x → ¬ inC ⟨(l.getD a cl0).Sym, (l.getD a cl0).Bits, (l.getD a cl0).Base + e⟩ (l.getD a cl0).Sym x → False := fun x hx hin hout => by
    have h1 := hc a x ha hx
    have h2 := hc' a x (by rw [List.length_set]; exact ha) (by rw [List.length_set]; exact hx)
    rw [getD_set_self ha, List.length_set] at h2
    rw [countTo_none _ _ fun b hb' => ?_] at h2
    · omega
    · by_cases hab : a = b
      · subst hab
        rw [getD_set_self ha]
        exact decide_eq_false hout
      · rw [getD_set_other hab]
        refine decide_eq_false fun hin2 => hab ?_
        exact countTo_unique h1 ha hb' (decide_eq_true hin) (decide_eq_true hin2)
  by_cases hpos : 0 < e
  · refine key (l.getD a cl0).Base.toNat (by omega) ⟨rfl, by omega, by omega⟩ fun hh => ?_
    have := hh.2.1
    simp only [] at this
    omega
  · refine key ((l.getD a cl0).Base + ((2 ^ (l.getD a cl0).Bits.toNat : Nat) : Int) - 1).toNat (by omega) ⟨rfl, by omega, by omega⟩ fun hh => ?_
    have := hh.2.2
    simp only [] at this
    omega
theorem whole_wider {l : List Cl} (h : WholeL l) {a : Nat} (ha : a < l.length) : ¬ WholeL (l.set a ⟨(l.getD a cl0).Sym, (l.getD a cl0).Bits + 1, (l.getD a cl0).Base⟩) := by
  intro h'
  obtain ⟨_, hb, hc⟩ := h
  obtain ⟨_, hb', hc'⟩ := h'
  obtain ⟨b0, b1, b2, b3⟩ := hb a ha
  have h3 := hb' a (by rw [List.length_set]; exact ha)
  rw [getD_set_self ha, List.length_set] at h3
  simp only [] at h3
  obtain ⟨c0, c1, c2, c3⟩ := h3
  have hp := Nat.two_pow_pos (l.getD a cl0).Bits.toNat
  have ht : ((l.getD a cl0).Bits + 1).toNat = (l.getD a cl0).Bits.toNat + 1 := by omega
  rw [ht, two_pow_succ] at c3
  obtain ⟨x, hx⟩ : ∃ x : Nat, (x : Int) = (l.getD a cl0).Base + ((2 ^ (l.getD a cl0).Bits.toNat : Nat) : Int) := ⟨((l.getD a cl0).Base + ((2 ^ (l.getD a cl0).Bits.toNat : Nat) : Int)).toNat, by omega⟩
  have hxl : x < l.length := by omega
  have h1 := hc a x ha hxl
  have h2 := hc' a x (by rw [List.length_set]; exact ha) (by rw [List.length_set]; exact hxl)
  rw [getD_set_self ha, List.length_set] at h2
  obtain ⟨b, hbl, hin⟩ := countTo_pos (p := fun b => decide (inC (l.getD b cl0) (l.getD a cl0).Sym x)) l.length (by omega)
  rw [decide_eq_true_eq] at hin
  have hab : a ≠ b := fun hh => by
    subst hh
    have := hin.2.2
    omega
  refine hab (countTo_unique h2 ha hbl (decide_eq_true ?_) (decide_eq_true ?_))
  · rw [getD_set_self ha]
    refine ⟨rfl, by simp only []; omega, ?_⟩
    simp only []
    rw [ht, two_pow_succ]; omega
  · rw [getD_set_other hab]; exact hin

/-- who has more states takes no more bits, but for one -/
theorem bits_near {R p q i j : Nat} (hp : 1 ≤ q) (h : q ≤ p) (hi : p ≤ i) (hj2 : j < 2 * q) (hj : q ≤ j) (hR : j < 2 ^ (R + 1)) : bitsN R i ≤ bitsN R j + 1 := by
  have h1 := log2_mono (show q ≤ i by omega)
  have h2 := log2_mono (show j ≤ 2 * q by omega)
  have h3 : Nat.log2 (2 * q) = Nat.log2 q + 1 := by
    have := (floor_double (n := (q : Int)) (by omega)).1
    unfold floorI at this
    rw [show (2 * (q : Int)).toNat = 2 * q by omega, Int.toNat_natCast] at this
    exact this
  have h4 := log2_lt (show 1 ≤ j by omega) hR
  unfold bitsN
  omega

end Go.Proofs.Ytokeoebhmjefoaa

/- Plain mathematics of chapter 12: how symbols are encoded. -/
namespace Go.Proofs.Ytokeoebhmjefoaa
open Go

/-- n bits are left over of y, by a symbol of the count q -/
def lefts (q y n : Nat) : Prop := q ≤ y / 2 ^ n ∧ y / 2 ^ n < 2 * q
theorem lefts_one {q y n m : Nat} (h1 : lefts q y n) (h2 : lefts q y m) : n = m := by
  obtain ⟨a1, a2⟩ := h1
  obtain ⟨b1, b2⟩ := h2
  by_cases hlt : n < m
  · have := half_more (y := y) hlt; omega
  · by_cases hgt : m < n
    · have := half_more (y := y) hgt; omega
    · omega
theorem lefts_some {R q x : Nat} (h1 : 1 ≤ q) (h2 : q ≤ 2 ^ R) (hx : x < 2 ^ R) : ∃ n, n ≤ R ∧ lefts q (2 ^ R + x) n := by
  have hp := Nat.two_pow_pos R
  have hd : (2 ^ R + x) / 2 ^ R < 2 * q := by
    have : (2 ^ R + x) / 2 ^ R < 2 := (Nat.div_lt_iff_lt_mul hp).2 (by omega)
    omega
  exact shift_in (show q ≤ 2 ^ R + x by omega) R hd
theorem lefts_le {R q x n : Nat} (h1 : 1 ≤ q) (h2 : q ≤ 2 ^ R) (hx : x < 2 ^ R) (h : lefts q (2 ^ R + x) n) : n ≤ R := by
  obtain ⟨m, hm, hl⟩ := lefts_some h1 h2 hx
  rw [lefts_one h hl]; exact hm
/-- the bits that are left over are those that the key takes -/
theorem lefts_bits {R q x n : Nat} (h1 : 1 ≤ q) (h2 : q ≤ 2 ^ R) (hx : x < 2 ^ R) (h : lefts q (2 ^ R + x) n) : bitsN R ((2 ^ R + x) / 2 ^ n) = n := by
  have hn := lefts_le h1 h2 hx h
  have hpk := Nat.two_pow_pos n
  have e1 : 2 ^ R = 2 ^ (R - n) * 2 ^ n := by rw [← Nat.pow_add]; congr 1; omega
  have e2 : 2 ^ (R + 1) = 2 ^ (R - n + 1) * 2 ^ n := by rw [← Nat.pow_add]; congr 1; omega
  have hlo : 2 ^ (R - n) ≤ (2 ^ R + x) / 2 ^ n := (Nat.le_div_iff_mul_le hpk).2 (by rw [← e1]; omega)
  have hhi : (2 ^ R + x) / 2 ^ n < 2 ^ (R - n + 1) := (Nat.div_lt_iff_lt_mul hpk).2 (by rw [← e2, two_pow_succ]; omega)
  unfold bitsN; rw [log2_unique hlo hhi]; omega
/-- what is encoded is decoded -/
theorem enc_cell {R q s x n : Nat} (h1 : 1 ≤ q) (h2 : q ≤ 2 ^ R) (hx : x < 2 ^ R) (h : lefts q (2 ^ R + x) n) :
    (cellOf R s ((2 ^ R + x) / 2 ^ n)).Bits = (n : Int) ∧ (cellOf R s ((2 ^ R + x) / 2 ^ n)).Base + (((2 ^ R + x) % 2 ^ n : Nat) : Int) = (x : Int) := by
  have hb := lefts_bits h1 h2 hx h
  unfold cellOf
  rw [hb]
  refine ⟨rfl, ?_⟩
  have := Nat.div_add_mod (2 ^ R + x) (2 ^ n)
  rw [Nat.mul_comm] at this
  simp only []
  omega
/-- what is decoded is encoded -/
theorem dec_lefts {R q i m : Nat} (hi : q ≤ i) (hi2 : i < 2 * q) (h1 : 1 ≤ q) (h2 : q ≤ 2 ^ R) (hm : m < 2 ^ bitsN R i) :
    ∃ x, x < 2 ^ R ∧ 2 ^ R + x = i * 2 ^ bitsN R i + m ∧ lefts q (2 ^ R + x) (bitsN R i) ∧ (2 ^ R + x) / 2 ^ bitsN R i = i ∧ (2 ^ R + x) % 2 ^ bitsN R i = m := by
  have hr := bits_range (R := R) (i := i) (by omega) (by rw [two_pow_succ]; omega)
  have hpk := Nat.two_pow_pos (bitsN R i)
  rw [Nat.add_mul, Nat.one_mul, two_pow_succ] at hr
  obtain ⟨x, hx⟩ : ∃ x, 2 ^ R + x = i * 2 ^ bitsN R i + m := ⟨i * 2 ^ bitsN R i + m - 2 ^ R, by omega⟩
  have hd : (i * 2 ^ bitsN R i + m) / 2 ^ bitsN R i = i := by
    rw [Nat.add_comm, Nat.add_mul_div_right _ _ hpk, Nat.div_eq_of_lt hm, Nat.zero_add]
  have hmm : (i * 2 ^ bitsN R i + m) % 2 ^ bitsN R i = m := by
    rw [Nat.add_comm, Nat.add_mul_mod_self_right, Nat.mod_eq_of_lt hm]
  refine ⟨x, by omega, hx, ?_, by rw [hx]; exact hd, by rw [hx]; exact hmm⟩
  unfold lefts
  rw [hx, hd]
  exact ⟨hi, hi2⟩

end Go.Proofs.Ytokeoebhmjefoaa

/- Plain mathematics of chapter 6: bytes by the byte ahead of each. -/
namespace Go.Proofs.Ytokeoebhmjefoaa
open Go

/-- each byte with its context, c being the first one's -/
def prs : Nat → List Nat → List (Nat × Nat)
  | _, [] => []
  | c, x :: r => (c, x) :: prs x r

/-- the last byte; c, if there is none -/
def lst : Nat → List Nat → Nat
  | c, [] => c
  | _, x :: r => lst x r

theorem prs_append (c : Nat) (xs ys : List Nat) : prs c (xs ++ ys) = prs c xs ++ prs (lst c xs) ys := by
  induction xs generalizing c with
  | nil => rfl
  | cons x r ih => simp only [List.cons_append, prs, lst, ih]

theorem prs_snd (c : Nat) (xs : List Nat) : (prs c xs).map (·.2) = xs := by
  induction xs generalizing c with
  | nil => rfl
  | cons x r ih => simp only [prs, List.map_cons, ih]

theorem prs_fst_lt (c : Nat) (xs : List Nat) (hc : c < 256) (hx : ∀ x ∈ xs, x < 256) : ∀ p ∈ prs c xs, p.1 < 256 := by
  induction xs generalizing c with
  | nil => simp [prs]
  | cons x r ih =>
    intro p hp
    simp only [prs, List.mem_cons] at hp
    rcases hp with rfl | hp
    · exact hc
    · exact ih x (hx x (by simp)) (fun y hy => hx y (by simp [hy])) p hp

theorem lst_lt (c : Nat) (xs : List Nat) (hc : c < 256) (hx : ∀ x ∈ xs, x < 256) : lst c xs < 256 := by
  induction xs generalizing c with
  | nil => exact hc
  | cons x r ih => exact ih x (hx x (by simp)) (fun y hy => hx y (by simp [hy]))

theorem lst_take (c : Nat) (xs : List Nat) (k : Nat) (h : k ≤ xs.length) : lst c (xs.take k) = (c :: xs).getD k 0 := by
  induction xs generalizing c k with
  | nil => simp at h; subst h; rfl
  | cons x r ih =>
    cases k with
    | zero => rfl
    | succ k =>
      rw [List.take_succ_cons, lst, ih x k (by simpa using h), List.getD_cons_succ]

theorem lst_last (c : Nat) (xs : List Nat) (h : 0 < xs.length) : lst c xs = xs.getD (xs.length - 1) 0 := by
  have := lst_take c xs xs.length (Nat.le_refl _)
  rw [List.take_length] at this
  rw [this]
  obtain ⟨k, hk⟩ : ∃ k, xs.length = k + 1 := ⟨xs.length - 1, by omega⟩
  rw [hk, List.getD_cons_succ]; rfl

/-- of pairs the bytes whose context is c -/
def selP (P : List (Nat × Nat)) (c : Int) : List Nat := (P.filter fun p => decide ((p.1 : Int) = c)).map (·.2)
/-- all bytes whose context is c -/
def sel (xs : List Nat) (c : Int) : List Nat := selP (prs 0 xs) c

theorem selP_append (P Q : List (Nat × Nat)) (c : Int) : selP (P ++ Q) c = selP P c ++ selP Q c := by simp [selP]
theorem selP_cons (p : Nat × Nat) (P : List (Nat × Nat)) (c : Int) : selP (p :: P) c = (if (p.1 : Int) = c then [p.2] else []) ++ selP P c := by
  unfold selP
  rw [List.filter_cons]
  by_cases h : (p.1 : Int) = c
  · rw [if_pos h, if_pos (decide_eq_true h)]; rfl
  · rw [if_neg h, if_neg (by simp [h])]; rfl

theorem sel_nil (c : Int) : sel [] c = [] := rfl
theorem sel_snoc (xs : List Nat) (x : Nat) (c : Int) : sel (xs ++ [x]) c = sel xs c ++ if ((lst 0 xs : Nat) : Int) = c then [x] else [] := by
  unfold sel
  rw [prs_append, selP_append]
  simp only [prs]
  rw [selP_cons]
  simp [selP]

theorem sel_sub (xs : List Nat) (c : Int) : List.Sublist (sel xs c) xs := by
  have h : List.Sublist ((prs 0 xs).filter fun p => decide ((p.1 : Int) = c)) (prs 0 xs) := List.filter_sublist
  have := h.map (·.2)
  rw [prs_snd] at this
  exact this

theorem sel_lt {xs : List Nat} (hx : ∀ x ∈ xs, x < 256) (c : Int) : ∀ x ∈ sel xs c, x < 256 := fun x h => hx x ((sel_sub xs c).subset h)
theorem sel_len (xs : List Nat) (c : Int) : (sel xs c).length ≤ xs.length := (sel_sub xs c).length_le

theorem sel_out {xs : List Nat} (hx : ∀ x ∈ xs, x < 256) (c : Int) (hc : c < 0 ∨ 255 < c) : sel xs c = [] := by
  unfold sel selP
  rw [List.filter_eq_nil_iff.2, List.map_nil]
  intro p hp
  have := prs_fst_lt 0 xs (by omega) hx p hp
  simp; omega

theorem sel_take_succ (xs : List Nat) (k : Nat) (h : k < xs.length) (c : Int) : sel (xs.take (k + 1)) c = sel (xs.take k) c ++ if (((0 :: xs).getD k 0 : Nat) : Int) = c then [xs.getD k 0] else [] := by
  have ht : xs.take (k + 1) = xs.take k ++ [xs.getD k 0] := by
    rw [List.take_succ_eq_append_getElem h, List.getD_eq_getElem?_getD, List.getElem?_eq_getElem h]; rfl
  rw [ht, sel_snoc, lst_take 0 xs k (by omega)]

/-- the context of the byte at i; -1, if there is none -/
def atI (xs : List Nat) (i : Int) : Int := if 0 ≤ i ∧ i < xs.length then (((0 :: xs).getD i.toNat 0 : Nat) : Int) else -1
theorem atI_nat (xs : List Nat) (k : Nat) (h : k < xs.length) : atI xs (k : Int) = (((0 :: xs).getD k 0 : Nat) : Int) := by
  unfold atI; rw [if_pos (by omega)]; simp
theorem atI_out (xs : List Nat) (i : Int) (h : i < 0 ∨ (xs.length : Int) ≤ i) : atI xs i = -1 := by
  unfold atI; rw [if_neg (by omega)]

/-- contexts below k that some byte has -/
def presTo (xs : List Nat) (k : Nat) : List Int := ((List.range k).filter fun c : Nat => decide (0 < (sel xs (c : Int)).length)).map fun c : Nat => (c : Int)
def pres (xs : List Nat) : List Int := presTo xs 256
theorem presTo_succ (xs : List Nat) (k : Nat) : presTo xs (k + 1) = presTo xs k ++ if 0 < (sel xs (k : Int)).length then [(k : Int)] else [] := by
  unfold presTo
  rw [List.range_succ, List.filter_append, List.map_append]
  congr 1
  by_cases h : 0 < (sel xs (k : Int)).length
  · rw [if_pos h]; simp [h]
  · rw [if_neg h]; simp [h]
theorem presTo_length (xs : List Nat) (k : Nat) : (presTo xs k).length ≤ k := by
  unfold presTo
  rw [List.length_map]
  exact Nat.le_trans (List.length_filter_le _ _) (by simp)
theorem pres_mem {xs : List Nat} {c : Int} : c ∈ pres xs ↔ 0 ≤ c ∧ c < 256 ∧ 0 < (sel xs c).length := by
  unfold pres presTo
  simp only [List.mem_map, List.mem_filter, List.mem_range, decide_eq_true_eq]
  constructor
  · rintro ⟨k, ⟨h1, h2⟩, rfl⟩
    exact ⟨by omega, by omega, h2⟩
  · rintro ⟨h1, h2, h3⟩
    refine ⟨c.toNat, ⟨by omega, ?_⟩, by omega⟩
    rw [Int.toNat_of_nonneg h1]; exact h3
theorem pres_rise (xs : List Nat) : (pres xs).Pairwise (· < ·) := by
  unfold pres presTo
  rw [List.pairwise_map]
  refine List.Pairwise.imp (fun h => by omega) (List.Pairwise.filter _ List.pairwise_lt_range)
theorem pres_step (xs : List Nat) (i : Nat) (h0 : 0 < i) (hi : i < (pres xs).length) : (pres xs).getD (i - 1) 0 < (pres xs).getD i 0 := by
  have := List.pairwise_iff_getElem.1 (pres_rise xs) (i - 1) i (by omega) hi (by omega)
  rwa [List.getD_eq_getElem?_getD, List.getD_eq_getElem?_getD, List.getElem?_eq_getElem (by omega), List.getElem?_eq_getElem hi]

/-- the greatest number of unlike bytes that a context below k has -/
def wid (xs : List Nat) : Nat → Nat
  | 0 => 0
  | k + 1 => max (wid xs k) (manyI (cnt (sel xs (k : Int))))
def widest (xs : List Nat) : Nat := wid xs 256
theorem wid_le (xs : List Nat) (k : Nat) : wid xs k ≤ 256 := by
  induction k with
  | zero => simp [wid]
  | succ k ih => have := manyI_le (cnt (sel xs (k : Int))); simp only [wid]; omega
theorem wid_ge (xs : List Nat) (k c : Nat) (h : c < k) : manyI (cnt (sel xs (c : Int))) ≤ wid xs k := by
  induction k with
  | zero => omega
  | succ k ih =>
    simp only [wid]
    by_cases hc : c = k
    · subst hc; omega
    · have := ih (by omega); omega
theorem wid_bound (xs : List Nat) (k m : Nat) (h : ∀ c, c < k → manyI (cnt (sel xs ((c : Nat) : Int))) ≤ m) : wid xs k ≤ m := by
  induction k with
  | zero => simp [wid]
  | succ k ih =>
    have h1 := ih (fun c hc => h c (by omega))
    have h2 := h k (by omega)
    simp only [wid]; omega

theorem pos_mono : ∀ (a b : List Int), a.length = b.length → (∀ k, k < a.length → 0 < a.getD k 0 → 0 < b.getD k 0) → pos a ≤ pos b
  | [], [], _, _ => by simp [pos]
  | [], _ :: _, h, _ => by simp at h
  | _ :: _, [], h, _ => by simp at h
  | x :: a, y :: b, h, hk => by
    have ih := pos_mono a b (by simpa using h) (fun k hk1 hk2 => by have := hk (k + 1) (by simpa using hk1); simp only [List.getD_cons_succ] at this; exact this hk2)
    have h0 := hk 0 (by simp)
    simp only [List.getD_cons_zero] at h0
    simp only [pos]
    by_cases hx : 0 < x
    · rw [if_pos hx, if_pos (h0 hx)]; omega
    · rw [if_neg hx]; omega

theorem many_mono (xs ys : List Nat) (h : ∀ v, xs.count v ≤ ys.count v) (hx : ∀ x ∈ xs, x < 256) (hy : ∀ x ∈ ys, x < 256) (hl : xs.length ≤ 1073741824) (hl2 : ys.length ≤ 1073741824) : manyI (cnt xs) ≤ manyI (cnt ys) := by
  unfold manyI
  rw [if_pos (cnt_right xs hx hl), if_pos (cnt_right ys hy hl2)]
  refine pos_mono _ _ (by rw [cnt_length, cnt_length]) fun k hk h0 => ?_
  rw [cnt_length] at hk
  rw [cnt_getD _ _ hk] at h0 ⊢
  have := h k
  omega

theorem widest_top (xs : List Nat) (hx : ∀ x ∈ xs, x < 256) (hl : xs.length ≤ 1073741824) : widest xs ≤ manyI (cnt xs) :=
  wid_bound xs 256 _ fun c _ => many_mono _ _ (fun v => (sel_sub xs (c : Int)).count_le v) (sel_lt hx _) hx (Nat.le_trans (sel_len xs _) hl) hl

theorem pos_zero_of (cs : List Int) (h : pos cs = 0) : ∀ c ∈ cs, ¬ 0 < c := by
  induction cs with
  | nil => simp
  | cons x r ih =>
    simp only [pos] at h
    intro c hc
    rcases List.mem_cons.1 hc with rfl | hc
    · intro h0; rw [if_pos h0] at h; omega
    · exact ih (by omega) c hc

theorem many_pos (xs : List Nat) (x : Nat) (hm : x ∈ xs) (hx : ∀ x ∈ xs, x < 256) (hl : xs.length ≤ 1073741824) : 0 < manyI (cnt xs) := by
  unfold manyI
  rw [if_pos (cnt_right xs hx hl)]
  rcases Nat.eq_zero_or_pos (pos (cnt xs)) with h | h
  · have h2 := pos_zero_of _ h _ (getD_mem (cs := cnt xs) (k := x) (by rw [cnt_length]; exact hx x hm))
    rw [cnt_getD _ _ (hx x hm)] at h2
    have := List.count_pos_iff.2 hm
    omega
  · exact h

theorem many_nil : manyI (cnt []) = 0 := by decide +kernel

theorem widest_pos (xs : List Nat) (hx : ∀ x ∈ xs, x < 256) (hl : xs.length ≤ 1073741824) : 0 < widest xs ↔ 0 < xs.length := by
  constructor
  · intro h
    cases xs with
    | nil =>
      have : widest [] ≤ 0 := wid_bound [] 256 0 fun c _ => by rw [sel_nil, many_nil]; exact Nat.le_refl _
      omega
    | cons x r => simp
  · intro h
    cases xs with
    | nil => simp at h
    | cons x r =>
      have hs : x ∈ sel (x :: r) ((0 : Nat) : Int) := by unfold sel; simp only [prs]; rw [selP_cons]; simp
      have h1 := many_pos (sel (x :: r) ((0 : Nat) : Int)) x hs (sel_lt hx _) (Nat.le_trans (sel_len _ _) hl)
      have h2 := wid_ge (x :: r) 256 0 (by omega)
      unfold widest; omega

/-- one byte more -/
theorem sel_more (xs : List Nat) (v : Nat) (c : Int) (hv : v < 256) : cnt (sel (xs ++ [v]) c) = if ((lst 0 xs : Nat) : Int) = c then (cnt (sel xs c)).set v ((cnt (sel xs c)).getD v 0 + 1) else cnt (sel xs c) := by
  rw [sel_snoc]
  by_cases h : ((lst 0 xs : Nat) : Int) = c
  · rw [if_pos h, if_pos h, cnt_snoc _ _ hv]
  · rw [if_neg h, if_neg h, List.append_nil]

theorem snoc_lt {xs : List Nat} {v : Nat} (hx : ∀ x ∈ xs, x < 256) (hv : v < 256) : ∀ x ∈ xs ++ [v], x < 256 := fun x h => by
  rcases List.mem_append.1 h with h | h
  · exact hx x h
  · simp at h; omega

theorem many_more (xs : List Nat) (v : Nat) (c : Int) (hx : ∀ x ∈ xs, x < 256) (hv : v < 256) (hl : xs.length < 1073741824) : manyI (cnt (sel xs c)) ≤ manyI (cnt (sel (xs ++ [v]) c)) ∧ manyI (cnt (sel (xs ++ [v]) c)) ≤ manyI (cnt (sel xs c)) + 1 := by
  rw [sel_snoc]
  by_cases h : ((lst 0 xs : Nat) : Int) = c
  · rw [if_pos h]
    have := many_snoc (sel xs c) v (sel_lt hx c) hv (Nat.lt_of_le_of_lt (sel_len xs c) hl)
    rw [this]
    split <;> omega
  · rw [if_neg h, List.append_nil]; omega

theorem wid_more (xs : List Nat) (v : Nat) (hx : ∀ x ∈ xs, x < 256) (hv : v < 256) (hl : xs.length < 1073741824) (k : Nat) : wid xs k ≤ wid (xs ++ [v]) k ∧ wid (xs ++ [v]) k ≤ wid xs k + 1 := by
  induction k with
  | zero => simp [wid]
  | succ k ih =>
    have := many_more xs v (k : Int) hx hv hl
    simp only [wid]; omega

/-- bytes behind bytes -/
def joinedC (X Y : List Int) (b0 last : Nat) (c : Nat) : List Int :=
  let w0 := addL X Y
  let w1 := if c = 0 then w0.set b0 (w0.getD b0 0 - 1) else w0
  if c = last then w1.set b0 (w1.getD b0 0 + 1) else w1

theorem set_getD (l : List Int) (i j : Nat) (z : Int) (hi : i < l.length) : (l.set i z).getD j 0 = if i = j then z else l.getD j 0 := by
  by_cases h : i = j
  · subst h; rw [if_pos rfl, List.getD_eq_getElem?_getD, List.getElem?_set_self hi]; rfl
  · rw [if_neg h, List.getD_eq_getElem?_getD, List.getElem?_set_ne h, ← List.getD_eq_getElem?_getD]

theorem count_opt (p : Prop) [Decidable p] (b v : Nat) : ((List.count v (if p then [b] else []) : Nat) : Int) = if p ∧ b = v then 1 else 0 := by
  by_cases h : p
  · rw [if_pos h]
    by_cases hb : b = v
    · subst hb; rw [if_pos ⟨h, rfl⟩]; simp
    · rw [if_neg (by simp [hb])]
      have : List.count v [b] = 0 := by rw [List.count_eq_zero]; simp; omega
      rw [this]; rfl
  · rw [if_neg h, if_neg (by simp [h])]; rfl

theorem sel_joins (a b : List Nat) (c : Nat) (ha : 0 < a.length) (hb : 0 < b.length) (hx : ∀ x ∈ b, x < 256) :
    cnt (sel (a ++ b) (c : Int)) = joinedC (cnt (sel a (c : Int))) (cnt (sel b (c : Int))) (b.getD 0 0) (a.getD (a.length - 1) 0) c := by
  cases b with
  | nil => simp at hb
  | cons b0 r =>
    have hb0 : b0 < 256 := hx b0 (by simp)
    rw [← lst_last 0 a ha, List.getD_cons_zero]
    have e1 : sel (a ++ b0 :: r) (c : Int) = sel a (c : Int) ++ ((if ((lst 0 a : Nat) : Int) = (c : Int) then [b0] else []) ++ selP (prs b0 r) (c : Int)) := by
      unfold sel
      rw [prs_append, selP_append]
      simp only [prs]
      rw [selP_cons]
    have e2 : sel (b0 :: r) (c : Int) = (if ((0 : Nat) : Int) = (c : Int) then [b0] else []) ++ selP (prs b0 r) (c : Int) := by
      unfold sel
      simp only [prs]
      rw [selP_cons]
    generalize lst 0 a = L at *
    generalize hA : sel a (c : Int) = A at *
    generalize hT : selP (prs b0 r) (c : Int) = T at *
    rw [e1, e2]
    have hl0 : (addL (cnt A) (cnt ((if ((0 : Nat) : Int) = (c : Int) then [b0] else []) ++ T))).length = 256 := by rw [addL_length _ _ (by rw [cnt_length, cnt_length]), cnt_length]
    unfold joinedC
    apply ext_getD
    · rw [cnt_length]
      simp only
      split <;> split <;> simp only [List.length_set, hl0]
    · intro v hv
      rw [cnt_length] at hv
      have g0 : ∀ u, u < 256 → (addL (cnt A) (cnt ((if ((0 : Nat) : Int) = (c : Int) then [b0] else []) ++ T))).getD u 0 = (A.count u : Int) + ((if ((0 : Nat) : Int) = (c : Int) ∧ b0 = u then 1 else 0) + (T.count u : Int)) := by
        intro u hu
        rw [addL_getD _ _ u (by rw [cnt_length]; exact hu) (by rw [cnt_length]; exact hu), cnt_getD _ _ hu, cnt_getD _ _ hu, List.count_append, Int.natCast_add, count_opt]
      rw [cnt_getD _ _ hv, List.count_append, List.count_append, Int.natCast_add, Int.natCast_add, count_opt]
      simp only
      generalize hw : addL (cnt A) (cnt ((if ((0 : Nat) : Int) = (c : Int) then [b0] else []) ++ T)) = w0 at *
      by_cases h0 : c = 0 <;> by_cases hL : c = L <;> by_cases hbv : b0 = v
      all_goals
        simp only [h0, hL, if_true, if_false]
        first
          | rw [set_getD _ _ _ _ (by rw [List.length_set, hl0]; exact hb0), set_getD _ _ _ _ (by rw [hl0]; exact hb0), set_getD _ _ _ _ (by rw [hl0]; exact hb0)]
          | rw [set_getD _ _ _ _ (by rw [hl0]; exact hb0)]
          | skip
        simp only [g0 v hv, g0 b0 hb0]
        subst_vars
        simp_all
        try omega

end Go.Proofs.Ytokeoebhmjefoaa

/- Plain mathematics of chapter 17: symbols as bits, by two states that take turns. -/
namespace Go.Proofs.Ytokeoebhmjefoaa
open Go

/-- the state whose turn it is -/
def lane (i : Nat) (st : Nat × Nat) : Nat := if i % 2 = 1 then st.2 else st.1
def setLane (i : Nat) (st : Nat × Nat) (x : Nat) : Nat × Nat := if i % 2 = 1 then (st.1, x) else (x, st.2)
theorem lane_set (i : Nat) (st : Nat × Nat) (x : Nat) : lane i (setLane i st x) = x := by
  unfold lane setLane
  by_cases h : i % 2 = 1
  · simp [h]
  · simp [h]
theorem set_set (i : Nat) (st : Nat × Nat) (x y : Nat) : setLane i (setLane i st x) y = setLane i st y := by
  unfold setLane
  by_cases h : i % 2 = 1
  · simp [h]
  · simp [h]
theorem set_lane (i : Nat) (st : Nat × Nat) : setLane i st (lane i st) = st := by
  unfold setLane lane
  by_cases h : i % 2 = 1
  · simp [h]
  · simp [h]
def lanesLt (N : Nat) (st : Nat × Nat) : Prop := st.1 < N ∧ st.2 < N
theorem lane_lt {N i : Nat} {st : Nat × Nat} (h : lanesLt N st) : lane i st < N := by
  unfold lane; split
  · exact h.2
  · exact h.1
theorem set_lt {N i x : Nat} {st : Nat × Nat} (h : lanesLt N st) (hx : x < N) : lanesLt N (setLane i st x) := by
  unfold setLane; split
  · exact ⟨h.1, hx⟩
  · exact ⟨hx, h.2⟩

/-- pairs of a context and a symbol, from the place i on, are the bits bs, and end with the states st; F tells counts -/
inductive Enc (R : Nat) (F : Nat → Nat → Nat) : Nat → List (Nat × Nat) → List Bool → Nat × Nat → Prop
  | nil (i : Nat) : Enc R F i [] [] (0, 0)
  | cons {i c s n : Nat} {P : List (Nat × Nat)} {bs : List Bool} {st : Nat × Nat} (h : Enc R F (i + 1) P bs st) (hn : lefts (F c s) (2 ^ R + lane i st) n) :
      Enc R F i ((c, s) :: P) (bs ++ bitsOf ((2 ^ R + lane i st) % 2 ^ n) n) (setLane i st (placeF (F c) 256 s ((2 ^ R + lane i st) / 2 ^ n)))

/-- each symbol has a count in its context, and the counts there have the sum -/
def FamOk (R : Nat) (F : Nat → Nat → Nat) (P : List (Nat × Nat)) : Prop := ∀ p ∈ P, p.2 < 256 ∧ 1 ≤ F p.1 p.2 ∧ sumTo (F p.1) 256 = 2 ^ R
theorem FamOk.tail {R : Nat} {F : Nat → Nat → Nat} {p : Nat × Nat} {P : List (Nat × Nat)} (h : FamOk R F (p :: P)) : FamOk R F P := fun q hq => h q (by simp [hq])

theorem enc_place {R : Nat} {f : Nat → Nat} {s x n : Nat} (hs : s < 256) (hsum : sumTo f 256 = 2 ^ R) (hn : lefts (f s) (2 ^ R + x) n) : placeF f 256 s ((2 ^ R + x) / 2 ^ n) < 2 ^ R := by
  obtain ⟨h1, h2⟩ := hn
  have hd : f s + ((2 ^ R + x) / 2 ^ n - f s) = (2 ^ R + x) / 2 ^ n := by omega
  have := place_room (f := f) (N := 256) (d := (2 ^ R + x) / 2 ^ n - f s) hs (by omega)
  rw [hd, hsum] at this
  exact this

theorem Enc.lt {R : Nat} {F : Nat → Nat → Nat} {i : Nat} {P : List (Nat × Nat)} {bs : List Bool} {st : Nat × Nat} (h : Enc R F i P bs st) : FamOk R F P → lanesLt (2 ^ R) st := by
  induction h with
  | nil i => intro _; exact ⟨Nat.two_pow_pos R, Nat.two_pow_pos R⟩
  | cons h hn ih =>
    intro hf
    have hp := hf _ (List.mem_cons_self ..)
    exact set_lt (ih hf.tail) (enc_place hp.1 hp.2.2 hn)
theorem Enc.one {R : Nat} {F : Nat → Nat → Nat} {i : Nat} {P : List (Nat × Nat)} {bs cs : List Bool} {st tt : Nat × Nat} (h : Enc R F i P bs st) (g : Enc R F i P cs tt) : bs = cs ∧ st = tt := by
  induction h generalizing cs tt with
  | nil i => cases g; exact ⟨rfl, rfl⟩
  | cons h hn ih =>
    cases g with
    | cons g gn =>
      obtain ⟨rfl, rfl⟩ := ih g
      rw [lefts_one hn gn]
      exact ⟨rfl, rfl⟩
theorem Enc.some {R : Nat} {F : Nat → Nat → Nat} (P : List (Nat × Nat)) (i : Nat) (hf : FamOk R F P) : ∃ bs st, Enc R F i P bs st := by
  induction P generalizing i with
  | nil => exact ⟨_, _, .nil i⟩
  | cons p P ih =>
    obtain ⟨c, s⟩ := p
    obtain ⟨bs, st, h⟩ := ih (i + 1) hf.tail
    have hp := hf _ (List.mem_cons_self ..)
    obtain ⟨n, _, hn⟩ := lefts_some hp.2.1 (f_le hp.2.2 hp.1) (lane_lt (i := i) (h.lt hf.tail))
    exact ⟨_, _, .cons h hn⟩

/-- what is decoded: n symbols, the tables T (none: the list is empty), the states st; or the error's number -/
def decG (T : Nat → Option (List Cl)) : Nat → Nat → Nat → List Bool → Nat × Nat → Except Nat (List Nat × List Bool × (Nat × Nat))
  | 0, _, _, bs, st => .ok ([], bs, st)
  | k + 1, i, c, bs, st => match T c with
    | none => .error 13
    | some l => if bs.length < (l.getD (lane i st) cl0).Bits.toNat then .error 3 else
      match decG T k (i + 1) (l.getD (lane i st) cl0).Sym (takeR bs (l.getD (lane i st) cl0).Bits.toNat) (setLane i st ((l.getD (lane i st) cl0).Base + ((takeV bs (l.getD (lane i st) cl0).Bits.toNat : Nat) : Int)).toNat) with
      | .error e => .error e
      | .ok (o, b, s) => .ok ((l.getD (lane i st) cl0).Sym :: o, b, s)

/-- what is encoded is decoded -/
theorem dec_enc {R : Nat} {F : Nat → Nat → Nat} {T : Nat → Option (List Cl)} (xs : List Nat) (i c : Nat) (b0 bs : List Bool) (st : Nat × Nat) (hf : FamOk R F (prs c xs)) (hT : ∀ p ∈ prs c xs, ∃ l, T p.1 = some l ∧ IsDtab (F p.1) R l) (h : Enc R F i (prs c xs) bs st) :
    decG T xs.length i c (b0 ++ bs) st = .ok (xs, b0, (0, 0)) := by
  induction xs generalizing i c bs st with
  | nil => cases h; simp [decG]
  | cons x r ih =>
    cases h with
    | @cons _ _ _ n _ bs' st' h hn =>
      have hp := hf (c, x) (List.mem_cons_self ..)
      obtain ⟨l, hl1, hl2⟩ := hT (c, x) (List.mem_cons_self ..)
      simp only [] at hp hl1 hl2
      have hlt := h.lt hf.tail
      obtain ⟨e1, e2⟩ := hn
      have hcell : l.getD (placeF (F c) 256 x ((2 ^ R + lane i st') / 2 ^ n)) cl0 = cellOf R x ((2 ^ R + lane i st') / 2 ^ n) := by
        have := hl2.at' x ((2 ^ R + lane i st') / 2 ^ n - F c x) hp.1 (by omega)
        rw [show F c x + ((2 ^ R + lane i st') / 2 ^ n - F c x) = (2 ^ R + lane i st') / 2 ^ n by omega] at this
        exact this
      obtain ⟨c1, c2⟩ := enc_cell (s := x) hp.2.1 (f_le hp.2.2 hp.1) (lane_lt (i := i) hlt) ⟨e1, e2⟩
      have hsym : (cellOf R x ((2 ^ R + lane i st') / 2 ^ n)).Sym = x := rfl
      obtain ⟨t1, t2⟩ := take_put (b0 ++ bs') ((2 ^ R + lane i st') % 2 ^ n) n
      rw [Nat.mod_eq_of_lt (Nat.mod_lt _ (Nat.two_pow_pos n))] at t1
      have ih' := ih (i + 1) x bs' st' hf.tail (fun p hp => hT p (by simp [prs, hp])) h
      simp only [List.length_cons, decG, hl1, lane_set, hcell, hsym, c1, Int.toNat_natCast]
      rw [← List.append_assoc, if_neg (by rw [List.length_append, bitsOf_length]; omega), t2, t1, c2, Int.toNat_natCast, set_set, set_lane, ih']

/-- what is decoded is encoded -/
theorem enc_dec {R : Nat} {F : Nat → Nat → Nat} {T : Nat → Option (List Cl)} (hT : ∀ c l, T c = some l → IsDtab (F c) R l ∧ sumTo (F c) 256 = 2 ^ R) (k i c : Nat) (bs b0 : List Bool) (st : Nat × Nat) (xs : List Nat) (hst : lanesLt (2 ^ R) st) (h : decG T k i c bs st = .ok (xs, b0, (0, 0))) :
    xs.length = k ∧ FamOk R F (prs c xs) ∧ (∀ p ∈ prs c xs, ∃ l, T p.1 = some l) ∧ ∃ bs', bs = b0 ++ bs' ∧ Enc R F i (prs c xs) bs' st := by
  induction k generalizing i c bs st xs with
  | zero =>
    simp only [decG, Except.ok.injEq, Prod.mk.injEq] at h
    obtain ⟨rfl, rfl, rfl⟩ := h
    exact ⟨rfl, fun p hp => by simp [prs] at hp, fun p hp => by simp [prs] at hp, [], by simp, .nil i⟩
  | succ k ih =>
    simp only [decG] at h
    cases hl : T c with
    | none => rw [hl] at h; simp at h
    | some l =>
      rw [hl] at h
      simp only [] at h
      obtain ⟨hd, hsum⟩ := hT c l hl
      obtain ⟨s, d, hs, hdl, hpl, hcell⟩ := hd.is hsum (lane_lt (i := i) hst)
      rw [hcell] at h
      have hq1 : 1 ≤ F c s := by omega
      have hq2 := f_le hsum hs
      have hb : (cellOf R s (F c s + d)).Bits.toNat = bitsN R (F c s + d) := by unfold cellOf; simp
      have hsy : (cellOf R s (F c s + d)).Sym = s := rfl
      rw [hb, hsy] at h
      by_cases hlen : bs.length < bitsN R (F c s + d)
      · rw [if_pos hlen] at h; simp at h
      · rw [if_neg hlen] at h
        obtain ⟨x, hx1, hx2, hx3, hx4, hx5⟩ := dec_lefts (R := R) (q := F c s) (i := F c s + d) (m := takeV bs (bitsN R (F c s + d))) (by omega) (by omega) hq1 hq2 (takeV_lt bs _)
        have hnext : ((cellOf R s (F c s + d)).Base + ((takeV bs (bitsN R (F c s + d)) : Nat) : Int)).toNat = x := by
          unfold cellOf
          simp only []
          omega
        rw [hnext] at h
        cases hr : decG T k (i + 1) s (takeR bs (bitsN R (F c s + d))) (setLane i st x) with
        | error e => rw [hr] at h; simp at h
        | ok p =>
          obtain ⟨o, b, s'⟩ := p
          rw [hr] at h
          simp only [Except.ok.injEq, Prod.mk.injEq] at h
          obtain ⟨rfl, rfl, rfl⟩ := h
          obtain ⟨i1, i2, i3, bs', i4, i5⟩ := ih (i + 1) s (takeR bs (bitsN R (F c s + d))) (setLane i st x) o (set_lt hst hx1) hr
          have hsplit : bs = takeR bs (bitsN R (F c s + d)) ++ bitsOf (takeV bs (bitsN R (F c s + d))) (bitsN R (F c s + d)) := by
            have h1 : takeR bs (bitsN R (F c s + d)) ++ bs.drop (bs.length - bitsN R (F c s + d)) = bs := List.take_append_drop _ _
            have h2 : (bs.drop (bs.length - bitsN R (F c s + d))).length = bitsN R (F c s + d) := by rw [List.length_drop]; omega
            have h3 := bitsOf_val (bs.drop (bs.length - bitsN R (F c s + d)))
            rw [h2] at h3
            unfold takeV
            rw [h3]
            exact h1.symm
          refine ⟨by simp [i1], ?_, ?_, bs' ++ bitsOf (takeV bs (bitsN R (F c s + d))) (bitsN R (F c s + d)), ?_, ?_⟩
          · intro p hp
            simp only [prs, List.mem_cons] at hp
            rcases hp with rfl | hp
            · exact ⟨hs, hq1, hsum⟩
            · exact i2 p hp
          · intro p hp
            simp only [prs, List.mem_cons] at hp
            rcases hp with rfl | hp
            · exact ⟨l, hl⟩
            · exact i3 p hp
          · rw [← List.append_assoc, ← i4]; exact hsplit
          · have hcons := Enc.cons (F := F) (c := c) (s := s) i5 (n := bitsN R (F c s + d)) (by rw [lane_set]; exact hx3)
            rw [lane_set, hx4, hx5, set_set, hpl, set_lane] at hcons
            exact hcons

end Go.Proofs.Ytokeoebhmjefoaa
