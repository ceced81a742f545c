/- What bitf's Rest tells: memory of its own. -/
import Derived.Test.YthenjooffkbkpaaBfTake
namespace Go.Proofs.Ythenjooffkbkpaa
open Go.RowKit

/-- bytes behind the first q -/
theorem RdB.dropOwn {w : World} {g cap q : Nat} {xs : List Nat} (h : w.ownsRow 0 5 1 (.slice (some ⟨g, 0, none⟩) xs.length cap) xs.length (bv xs)) (hq : q ≤ xs.length) (c' : Nat) : RdB w (.slice (some ⟨g, q, none⟩) (xs.length - q) c') (xs.drop q) := by
  refine .inr ⟨g, q, c', by simp, fun j hj => ?_⟩
  have hj' : q + j < xs.length := by rw [List.length_drop] at hj; omega
  rw [h.cellAt (q + j) (by omega), bv_get xs (q + j) hj']
  simp [List.getD_eq_getElem?_getD]

theorem drop_bytes {xs : List Nat} (h : ∀ x ∈ xs, x < 256) (q : Nat) : ∀ x ∈ xs.drop q, x < 256 := fun x hx => h x (List.mem_of_mem_drop hx)

end Go.Proofs.Ythenjooffkbkpaa
