/- Rows of numbers (int) in memory: read, or of one's own; what puncheonref01.Ints tells. -/
import Derived.Test.YthenjooffkbkpaaOpGen
import Derived.Test.YthenjooffkbkpaaHsMath
import Derived.Test.YthenjooffkbkpaaBrSplits
namespace Go.Proofs.Ythenjooffkbkpaa
open Go.RowKit

/-- numbers as values -/
def iw (zs : List Int) : List Value := zs.map fun z => .int .i64 z
theorem iw_length (zs : List Int) : (iw zs).length = zs.length := by simp [iw]
theorem iw_set (zs : List Int) (i : Nat) (z : Int) : (iw zs).set i (.int .i64 z) = iw (zs.set i z) := by simp [iw, List.map_set]
theorem iw_snoc (zs : List Int) (z : Int) : iw zs ++ [.int .i64 z] = iw (zs ++ [z]) := by simp [iw]
theorem iw_get (zs : List Int) (i : Nat) (h : i < zs.length) : (iw zs)[i]? = some (.int .i64 (zs.getD i 0)) := by
  simp [iw, List.getElem?_eq_getElem h]

theorem RdI.form {w : World} {v : Value} {zs : List Int} (h : RdI w v zs) : ∃ ao cap, v = .slice ao zs.length cap := by
  rcases h with ⟨rfl, ao, c, rfl⟩ | ⟨g, off, cap, rfl, _⟩
  · exact ⟨ao, c, rfl⟩
  · exact ⟨_, cap, rfl⟩

theorem RdI.at {w : World} {ao : Option Addr} {n cap : Nat} {zs : List Int} (h : RdI w (.slice ao n cap) zs) (k : Nat) (hk : k < zs.length) : ∃ g off, ao = some ⟨g, off, none⟩ ∧ w.cell? ⟨g, off + k, none⟩ = some (.int .i64 (zs.getD k 0)) := by
  rcases h with ⟨h0, _⟩ | ⟨g, off, cap', he, hc⟩
  · rw [h0] at hk; simp at hk
  · simp only [Value.slice.injEq] at he
    exact ⟨g, off, he.1, hc _ hk⟩

theorem RdB.at {w : World} {ao : Option Addr} {n cap : Nat} {xs : List Nat} (h : RdB w (.slice ao n cap) xs) (k : Nat) (hk : k < xs.length) : ∃ g off, ao = some ⟨g, off, none⟩ ∧ w.cell? ⟨g, off + k, none⟩ = some (.int .u8 ((xs.getD k 0 : Nat) : Int)) := by
  rcases h with ⟨h0, _⟩ | ⟨g, off, cap', he, hc⟩
  · rw [h0] at hk; simp at hk
  · simp only [Value.slice.injEq] at he
    exact ⟨g, off, he.1, hc _ hk⟩

/-- A block that is a row of numbers, of any kind (a slice's, or an array's). -/
def RowI (w : World) (g : Nat) (t : TypeId) (zs : List Int) : Prop := w.heap[g]? = some (.cells (iw zs).toArray t (0, 0))

theorem RowI.cell {w : World} {g : Nat} {t : TypeId} {zs : List Int} (h : RowI w g t zs) (k : Nat) (hk : k < zs.length) : w.cell? ⟨g, k, none⟩ = some (.int .i64 (zs.getD k 0)) := by
  rw [cell_of_row w g k _ _ _ h, List.getElem?_toArray, iw_get zs k hk]
theorem RowI.free {w : World} {g : Nat} {t : TypeId} {zs : List Int} (h : RowI w g t zs) (k : Nat) : w.frozen? ⟨g, k, none⟩ = false := frozen_of_row w g k _ _ h
theorem RowI.kept {S : Nat → Prop} {w w' : World} {g : Nat} {t : TypeId} {zs : List Int} (h : RowI w g t zs) (hc : Chg S w w') (hS : ¬ S g) : RowI w' g t zs := (hc.block g (lt_of_block h) hS).trans h
theorem RowI.lt {w : World} {g : Nat} {t : TypeId} {zs : List Int} (h : RowI w g t zs) : g < w.heap.size := lt_of_block h
theorem RowI.set {w : World} {g : Nat} {t : TypeId} {zs : List Int} (h : RowI w g t zs) (i : Nat) (z : Int) : RowI (w.setCell ⟨g, i, none⟩ (.int .i64 z)) g t (zs.set i z) := by
  have := heap_setCell_same w g i _ _ (.int .i64 z) h
  unfold RowI
  rw [this, List.setIfInBounds_toArray, iw_set]
theorem RowI.rd {w : World} {g : Nat} {t : TypeId} {zs : List Int} (h : RowI w g t zs) (cap : Nat) : RdI w (.slice (some ⟨g, 0, none⟩) zs.length cap) zs :=
  .inr ⟨g, 0, cap, rfl, fun j hj => by rw [Nat.zero_add]; exact h.cell j hj⟩

/-- The value v is a slice of the numbers zs, in memory from block base on, that may be written. -/
def OwnI (w : World) (base : Nat) (v : Value) (zs : List Int) : Prop :=
  ∃ g off cap, v = .slice (some ⟨g, off, none⟩) zs.length cap ∧ base ≤ g ∧ g < w.heap.size ∧ (∀ j, j < zs.length → w.cell? ⟨g, off + j, none⟩ = some (.int .i64 (zs.getD j 0))) ∧ ∀ j, w.frozen? ⟨g, off + j, none⟩ = false

theorem OwnI.rd {w : World} {base : Nat} {v : Value} {zs : List Int} (h : OwnI w base v zs) : RdI w v zs := by
  obtain ⟨g, off, cap, rfl, _, _, hc, _⟩ := h
  exact .inr ⟨g, off, cap, rfl, hc⟩
theorem OwnI.kept {S : Nat → Prop} {w w' : World} {base : Nat} {v : Value} {zs : List Int} (h : OwnI w base v zs) (hc : Chg S w w') (hS : ∀ k, v.ownBlock = some k → ¬ S k) : OwnI w' base v zs := by
  obtain ⟨g, off, cap, rfl, hb, hl, hcell, hf⟩ := h
  have hblk := hc.block g hl (hS g rfl)
  refine ⟨g, off, cap, rfl, hb, Nat.lt_of_lt_of_le hl hc.size, fun j hj => ?_, fun j => ?_⟩
  · rw [World.cell?_of_block (w := w) hblk]; exact hcell j hj
  · have := hf j
    unfold World.frozen? at this ⊢
    simp only [hblk]; exact this
theorem OwnI.mono {w : World} {base base' : Nat} {v : Value} {zs : List Int} (h : OwnI w base v zs) (hb : base' ≤ base) : OwnI w base' v zs := by
  obtain ⟨g, off, cap, rfl, h1, h2, h3⟩ := h
  exact ⟨g, off, cap, rfl, Nat.le_trans hb h1, h2, h3⟩
theorem OwnI.drew {w : World} {base : Nat} {v : Value} {zs : List Int} (h : OwnI w base v zs) : OwnI w.drew base v zs := h.kept ((Chg.refl (fun _ => False) w).drew) (by simp)
theorem RowI.own {w : World} {g : Nat} {t : TypeId} {zs : List Int} (h : RowI w g t zs) (cap base : Nat) (hb : base ≤ g) : OwnI w base (.slice (some ⟨g, 0, none⟩) zs.length cap) zs :=
  ⟨g, 0, cap, rfl, hb, h.lt, fun j hj => by rw [Nat.zero_add]; exact h.cell j hj, fun j => h.free _⟩

theorem OwnI.store {w : World} {base g off n cap : Nat} {zs : List Int} (h : OwnI w base (.slice (some ⟨g, off, none⟩) n cap) zs) (i : Nat) (hi : i < zs.length) (z : Int) :
    OwnI (w.setCell ⟨g, off + i, none⟩ (.int .i64 z)) base (.slice (some ⟨g, off, none⟩) n cap) (zs.set i z) := by
  obtain ⟨g', off', cap', he, hb, hl, hcell, hf⟩ := h
  simp only [Value.slice.injEq, Option.some.injEq, Addr.mk.injEq] at he
  obtain ⟨⟨rfl, rfl, -⟩, rfl, rfl⟩ := he
  refine ⟨g, off, cap, by simp, hb, by simpa [World.setCell] using hl, fun j hj => ?_, fun j => ?_⟩
  · rw [List.length_set] at hj
    by_cases hij : i = j
    · subst hij
      rw [World.cell?_setCell_same _ _ _ (hcell i hi), List.getD_eq_getElem?_getD, List.getElem?_set_self hi]; rfl
    · rw [World.cell?_setCell_other _ _ _ _ (by simp [hij]), hcell j hj, List.getD_eq_getElem?_getD, List.getD_eq_getElem?_getD, List.getElem?_set_ne hij]
  · rw [World.frozen?_setCell]; exact hf j

theorem drewN2 (w : World) (m n : Nat) : (w.drewN m).drewN n = w.drewN (m + n) := by
  simp [World.drewN, Nat.add_assoc]

theorem iw_zeros (n : Nat) : iw (List.replicate n 0) = List.replicate n (.int .i64 0) := by simp [iw]

theorem Try.infoInt : (Try.prog.info? 3).map (fun i => (i.zero, i.size, i.bytes)) = some (some (.int .i64 0), 1, 8) := by kernel_rfl

theorem zeros_iw (n : Nat) : (madeCells (Value.int .i64 0).cells (n * 1)).toList = iw (List.replicate n 0) := by
  rw [iw_zeros, Nat.mul_one]
  apply List.ext_getElem (by simp [madeCells])
  intro i h1 h2
  simp [madeCells, Value.cells, Nat.mod_one]

theorem RowI.of_own {w : World} {base g n : Nat} {zs : List Int} (h : w.ownsRow base 3 1 (.slice (some ⟨g, 0, none⟩) n n) n (iw zs)) : RowI w g 3 zs := by
  rcases h.2 with ⟨h0, _⟩ | ⟨g', cap, cur, he, _, hg, _, _, hs, ht⟩
  · simp at h0
  · simp only [Value.slice.injEq, Option.some.injEq, Addr.mk.injEq, and_true, true_and] at he
    obtain ⟨rfl, rfl⟩ := he
    have : cur = (iw zs).toArray := by
      apply Array.ext'
      rw [← ht, List.take_of_length_le (by rw [Array.length_toList, hs]; exact Nat.le_refl _)]
    rw [this] at hg
    exact hg

theorem wpList_make_ints {ops : Array Oper} {rest : List Oper} {o : Oper} {a : Act} {w : World} {Q : Exit → Act → World → Prop} (hg : o.guard = none) (l c : Operand) (hop : o.op = Op.makeSlice 22 l c)
    (L C : Int) (n : Nat) (hl : a.eval l = .int .i64 L) (hc : a.eval c = .int .i64 C) (hL : L = (n : Int)) (hC : C = (n : Int)) (hn : n < 100000000000) (Z : List Int) (hZ : Z = List.replicate n 0)
    (hK : ∀ w', RowI w' w.heap.size 3 Z → Chg (fun _ => False) w w' → wpList Try.prog ops Q rest (a.put o.dst (.slice (some ⟨w.heap.size, 0, none⟩) n n)) w') : wpList Try.prog ops Q (o :: rest) a w := by
  obtain ⟨i, hi, hz0, hz1, hz2⟩ := info_parts Try.infoInt
  refine wpList_make_full w hg l c 22 hop w.heap.size 3 i (.int .i64 0) 1 Try.underlying22 hi hz0 hz1 .i64 .i64 L C n hl hc hL hC (by rw [hz2]; omega) (by unfold maxLen; omega) (Nat.le_refl _) ?_
  intro w1 h1 h2
  rw [zeros_iw, ← hZ] at h1
  exact hK w1 (RowI.of_own h1) ((Chg.of_grown h2).mono fun k _ hk => by simp at hk)

/-- bytes that the call has laid -/
theorem rdb_new (w : World) (xs : List Nat) (cs : Array Value) (n : Nat) (fr : Nat × Nat) (h : cs.toList = bv xs) (hn : n = xs.length) : RdB (w.alloc (.cells cs 5 fr)) (.slice (some ⟨w.heap.size, 0, none⟩) n n) xs := by
  subst hn
  refine .inr ⟨w.heap.size, 0, xs.length, rfl, fun j hj => ?_⟩
  rw [cell_of_row _ _ _ _ _ _ (heap_alloc_new w _), Nat.zero_add, ← Array.getElem?_toList, h, bv_get xs j hj]

theorem eq_upTo {a b : List Int} (hl : a.length = b.length) (h : ∀ j, j < a.length → a.getD j 0 = b.getD j 0) : a = b := ext_getD hl h

/-- no more than there is room for -/
def RoomOk (v : Value) : Prop := ∀ ao len cap, v = .slice ao len cap → len ≤ cap

theorem RoomOk.of {ao : Option Addr} {len cap : Nat} (h : len ≤ cap) : RoomOk (.slice ao len cap) := fun _ _ _ e => by cases e; exact h

end Go.Proofs.Ythenjooffkbkpaa
