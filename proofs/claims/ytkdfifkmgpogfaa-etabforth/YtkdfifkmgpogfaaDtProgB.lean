/- What dtab's eachOnce tells. THIS SPEAKS OF THE PROGRAM'S OWN TEXT. -/
import Derived.Test.YtkdfifkmgpogfaaDtProgA
import Derived.Test.YtkdfifkmgpogfaaDtOnce
import Derived.Test.YtkdfifkmgpogfaaBase3
import Derived.Deep.CutRange
import Derived.Deep.LoopGhost
import Derived.WalkMore
import Derived.Deep.OwnRows
namespace Go.Proofs.Ytkdfifkmgpogfaa
open Go.RowKit

theorem slice_ne {g n : Nat} : (Value.slice (some ⟨g, 0, none⟩) n n) ≠ .slice none 0 0 := fun h => by simp at h
theorem eqlBools (W : World) (a : Addr) (n c : Nat) : (binOp .eql 79 (.slice (some a) n c) (.slice none 0 0)).run Try.prog W = .ok (.bool false) W := by kernel_rfl
theorem eqlBools0 (W : World) (n c : Nat) : (binOp .eql 79 (.slice none n c) (.slice none 0 0)).run Try.prog W = .ok (.bool true) W := by kernel_rfl
theorem made_bools (w : World) (n : Nat) : RowT (w.alloc (.cells (madeCells #[.bool false] n) 4)) w.heap.size 4 (List.replicate n false) := by
  have : madeCells #[.bool false] n = (bl (List.replicate n false)).toArray := by
    apply Array.ext'
    rw [madeCells, Array.toList_map, Array.toList_range]
    refine List.ext_getElem (by simp [bl]) fun i h1 h2 => ?_
    simp [bl, Nat.mod_one]
  unfold RowT
  rw [← this]
  exact heap_alloc_new w _

end Go.Proofs.Ytkdfifkmgpogfaa
