/- A block that is a row of bools. -/
import Derived.Test.YtgnenelfbmpfgaaBase2
namespace Go.Proofs.Ytgnenelfbmpfgaa
open Go.RowKit

/-- A block that is a row of bools. -/
def RowT (w : World) (g : Nat) (t : TypeId) (hs : List Bool) : Prop := w.heap[g]? = some (.cells (bl hs).toArray t (0, 0))
theorem bl_getD (hs : List Bool) (k : Nat) (hk : k < hs.length) : (bl hs)[k]? = some (.bool (hs.getD k false)) := by simp [bl, List.getElem?_eq_getElem hk]
theorem bl_setT (hs : List Bool) (i : Nat) (z : Bool) : (bl hs).set i (.bool z) = bl (hs.set i z) := by simp [bl, List.map_set]
theorem RowT.cell {w : World} {g : Nat} {t : TypeId} {hs : List Bool} (h : RowT w g t hs) (k : Nat) (hk : k < hs.length) : w.cell? ⟨g, k, none⟩ = some (.bool (hs.getD k false)) := by
  rw [cell_of_row w g k _ _ _ h, List.getElem?_toArray, bl_getD hs k hk]
theorem RowT.free {w : World} {g : Nat} {t : TypeId} {hs : List Bool} (h : RowT w g t hs) (k : Nat) : w.frozen? ⟨g, k, none⟩ = false := frozen_of_row w g k _ _ h
theorem RowT.kept {S : Nat → Prop} {w w' : World} {g : Nat} {t : TypeId} {hs : List Bool} (h : RowT w g t hs) (hc : Chg S w w') (hS : ¬ S g) : RowT w' g t hs := (hc.block g (lt_of_block h) hS).trans h
theorem RowT.lt {w : World} {g : Nat} {t : TypeId} {hs : List Bool} (h : RowT w g t hs) : g < w.heap.size := lt_of_block h
theorem RowT.set {w : World} {g : Nat} {t : TypeId} {hs : List Bool} (h : RowT w g t hs) (i : Nat) (z : Bool) : RowT (w.setCell ⟨g, i, none⟩ (.bool z)) g t (hs.set i z) := by
  have := heap_setCell_same w g i _ _ (.bool z) h
  unfold RowT
  rw [this, List.setIfInBounds_toArray, bl_setT]

end Go.Proofs.Ytgnenelfbmpfgaa
