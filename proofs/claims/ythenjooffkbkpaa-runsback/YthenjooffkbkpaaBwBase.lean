/- The relation 'only the blocks of S may have turned', a Writer in memory, and what bitw.setBit does. -/
import Derived.Test.YthenjooffkbkpaaRows
import Derived.Test.YthenjooffkbkpaaBwMath
import Derived.WalkKit
import Derived.WalkSpells
import Derived.WalkLawsBesides
import Derived.RegionTactic
import Derived.ChangeAlike
import Derived.Deep.QuietTactic
import Derived.BigQuiet
import Derived.StillTailTactics
import Derived.Laws.CopyOwn
import Derived.Lib.Hide
import Derived.Deep.AppendLies
namespace Go.Proofs.Ythenjooffkbkpaa
open Go.RowKit

/-- Only blocks of S, and new ones, may have turned. -/
structure Chg (S : Nat → Prop) (w w' : World) : Prop where
  os : w'.os = w.os
  tape : w'.tape = w.tape
  output : w'.output = w.output
  size : w.heap.size ≤ w'.heap.size
  block : ∀ k, k < w.heap.size → ¬ S k → w'.heap[k]? = w.heap[k]?

theorem Chg.refl (S : Nat → Prop) (w : World) : Chg S w w := ⟨rfl, rfl, rfl, Nat.le_refl _, fun _ _ _ => rfl⟩
theorem Chg.trans {S T : Nat → Prop} {a b c : World} (h : Chg S a b) (k : Chg T b c) (hT : ∀ k, k < a.heap.size → T k → S k) : Chg S a c :=
  ⟨k.os.trans h.os, k.tape.trans h.tape, k.output.trans h.output, Nat.le_trans h.size k.size,
    fun i hi hs => (k.block i (Nat.lt_of_lt_of_le hi h.size) (fun ht => hs (hT i hi ht))).trans (h.block i hi hs)⟩
theorem Chg.mono {S T : Nat → Prop} {a b : World} (h : Chg S a b) (hT : ∀ k, k < a.heap.size → S k → T k) : Chg T a b :=
  ⟨h.os, h.tape, h.output, h.size, fun i hi hs => h.block i hi (fun hk => hs (hT i hi hk))⟩
theorem Chg.drew {S : Nat → Prop} {a b : World} (h : Chg S a b) : Chg S a b.drew := ⟨h.os, h.tape, h.output, h.size, h.block⟩
theorem Chg.drewN {S : Nat → Prop} {a b : World} (h : Chg S a b) (n : Nat) : Chg S a (b.drewN n) := ⟨h.os, h.tape, h.output, h.size, h.block⟩
theorem Chg.of_grown {w w' : World} {row : Option Nat} (h : w.grownBy w' row) : Chg (fun k => some k = row) w w' := ⟨h.os, h.tape, h.output, h.size, h.block⟩
theorem Chg.alloc (S : Nat → Prop) (w : World) (o : Obj) : Chg S w (w.alloc o) := ⟨rfl, rfl, rfl, by simp, fun k hk _ => Below.heap_alloc w o k hk⟩
theorem Chg.setCell (w : World) (a : Addr) (u : Value) : Chg (fun k => k = a.block) w (w.setCell a u) :=
  ⟨rfl, rfl, rfl, by simp [World.setCell], fun k _ hs => heap_setCell_other w a k u hs⟩
theorem Chg.of_below {w w' : World} (h : Below w.heap.size w w') : Chg (fun _ => False) w w' := ⟨h.os, h.tape, h.output, h.size, fun k hk _ => h.block k hk⟩
theorem Chg.below {S : Nat → Prop} {w w' : World} {B : Nat} (h : Chg S w w') (hB : B ≤ w.heap.size) (hS : ∀ k, k < B → ¬ S k) : Below B w w' :=
  ⟨h.os, h.tape, h.output, h.size, fun k hk => h.block k (by omega) (hS k hk)⟩
theorem Chg.own {S : Nat → Prop} {w w' : World} (h : Chg S w w') {base : Nat} {e : TypeId} {size : Nat} {v : Value} {n : Nat} {xs : List Value} (hown : w.ownsRow base e size v n xs)
    (hS : ∀ k, v.ownBlock = some k → ¬ S k) : w'.ownsRow base e size v n xs := by
  refine ⟨hown.1, ?_⟩
  rcases hown.2 with hn | ⟨g, cap, cur, rfl, hb, hgg, rest⟩
  · exact .inl hn
  · refine .inr ⟨g, cap, cur, rfl, hb, ?_, rest⟩
    rw [h.block g (Array.getElem?_eq_some_iff.1 hgg).1 (hS g rfl)]
    exact hgg

theorem ownsRow_mono {w : World} {base base' : Nat} {e : TypeId} {size : Nat} {v : Value} {n : Nat} {xs : List Value} (h : w.ownsRow base e size v n xs) (hb : base' ≤ base) : w.ownsRow base' e size v n xs := by
  refine ⟨h.1, ?_⟩
  rcases h.2 with hn | ⟨g, cap, cur, rfl, hb', rest⟩
  · exact .inl hn
  · exact .inr ⟨g, cap, cur, rfl, by omega, rest⟩

theorem ownsRow_base {w : World} {base base' : Nat} {e : TypeId} {size : Nat} {v : Value} {n : Nat} {xs : List Value} (h : w.ownsRow base e size v n xs) (hb : ∀ k, v.ownBlock = some k → base' ≤ k) : w.ownsRow base' e size v n xs := by
  refine ⟨h.1, ?_⟩
  rcases h.2 with hn | ⟨g, cap, cur, rfl, hb', rest⟩
  · exact .inl hn
  · exact .inr ⟨g, cap, cur, rfl, hb g rfl, rest⟩

/-- what each law's walk ends in -/
def Says (w : World) (e : Ending) (w' : World) : Prop := e = .returned (.bool true) ∧ Chg (fun _ => False) w w'

/-- bytes as values -/
def bv (xs : List Nat) : List Value := xs.map fun n : Nat => .int .u8 (n : Int)
theorem bv_length (xs : List Nat) : (bv xs).length = xs.length := by simp [bv]
theorem bv_set (xs : List Nat) (i n : Nat) : (bv xs).set i (.int .u8 (n : Int)) = bv (xs.set i n) := by simp [bv, List.map_set]
theorem bv_snoc (xs : List Nat) (n : Nat) : bv xs ++ [.int .u8 (n : Int)] = bv (xs ++ [n]) := by simp [bv]
theorem bv_get (xs : List Nat) (i : Nat) (h : i < xs.length) : (bv xs)[i]? = some (.int .u8 ((xs.getD i 0 : Nat) : Int)) := by
  simp [bv, List.getElem?_eq_getElem h]

theorem or_bit : ∀ k : Nat, k < 8 → ∀ x : Nat, x < 2 ^ k → bits .or .u8 (x : Int) ((2 : Int) ^ k % 256) = ((x + 2 ^ k : Nat) : Int) := by decide +kernel

theorem Try.infoU8 : (Try.prog.info? 5).map (fun i => (i.zero, i.size, i.bytes)) = some (some (.int .u8 0), 1, 1) := by kernel_rfl

set_option maxHeartbeats 400000 in
theorem setBit_any (g n cap i x : Nat) (w : World) (hc : w.cell? ⟨g, i / 8, none⟩ = some (.int .u8 (x : Int))) (hf : w.frozen? ⟨g, i / 8, none⟩ = false)
    (hi : i / 8 < n) (hi2 : i < 1000000000000) (hx : x < 2 ^ (i % 8)) :
    Calls Try.prog 36 #[.slice (some ⟨g, 0, none⟩) n cap, .int .i64 (i : Int)] w fun e w' => e = .returned (.tuple #[]) ∧ (w.setCell ⟨g, i / 8, none⟩ (.int .u8 ((x + 2 ^ (i % 8) : Nat) : Int))).drew = w' := by
  have H := Lib.hid (or_bit (i % 8) (by omega) x hx)
  have hx2 : 2 ^ (i % 8) ≤ 2 ^ 7 := Nat.pow_le_pow_right (by omega) (by omega)
  have hx0 : (0 : Int) ≤ x := by omega
  have hx1 : (x : Int) < 256 := by omega
  clear hx hx2
  go_enter Try.func36, Try.ntmps36
  go_wp2
  go_region
  all_goals (go_end0; exact ⟨rfl, by rw [H.out]⟩)

theorem setBit_row (base g n cap i : Nat) (xs : List Nat) (w : World) (hown : w.ownsRow base 5 1 (.slice (some ⟨g, 0, none⟩) n cap) n (bv xs))
    (hi : i / 8 < n) (hi2 : i < 1000000000000) (hx : xs.getD (i / 8) 0 < 2 ^ (i % 8)) :
    Calls Try.prog 36 #[.slice (some ⟨g, 0, none⟩) n cap, .int .i64 (i : Int)] w fun e w' => e = .returned (.tuple #[]) ∧
      w'.ownsRow base 5 1 (.slice (some ⟨g, 0, none⟩) n cap) n (bv (xs.set (i / 8) (xs.getD (i / 8) 0 + 2 ^ (i % 8)))) ∧ Chg (fun k => k = g) w w' := by
  have hlen : xs.length = n := by have := hown.1; simpa [bv] using this
  have hc := hown.cellAt (i / 8) (by omega)
  rw [bv_get xs (i / 8) (by omega)] at hc
  refine (setBit_any g n cap i (xs.getD (i / 8) 0) w hc (hown.frozenAt (i / 8)) hi hi2 hx).mono ?_
  rintro e w' ⟨rfl, rfl⟩
  have hs := hown.stored (i / 8) (.int .u8 ((xs.getD (i / 8) 0 + 2 ^ (i % 8) : Nat) : Int))
  rw [bv_set] at hs
  exact ⟨rfl, hs.1.drew, (Chg.setCell w ⟨g, i / 8, none⟩ _).drew⟩

end Go.Proofs.Ythenjooffkbkpaa
