/- What the document's own cells (puncheonref11) tell: Same. -/
import Derived.Test.YtkdfifkmgpogfaaRowCe
import Derived.BigQuiet
namespace Go.Proofs.Ytkdfifkmgpogfaa
open Go.RowKit

theorem extC_getD {a b : List Cl} (hl : a.length = b.length) (h : ∀ k, k < a.length → a.getD k cl0 = b.getD k cl0) : a = b := by
  refine List.ext_getElem hl fun k h1 h2 => ?_
  have := h k h1
  rw [List.getD_eq_getElem?_getD, List.getD_eq_getElem?_getD, List.getElem?_eq_getElem h1, List.getElem?_eq_getElem h2] at this
  exact this

end Go.Proofs.Ytkdfifkmgpogfaa
