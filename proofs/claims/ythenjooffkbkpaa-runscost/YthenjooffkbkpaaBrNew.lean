/- What bitr.New tells. -/
import Derived.Test.YthenjooffkbkpaaBrRead
namespace Go.Proofs.Ythenjooffkbkpaa
open Go.RowKit

/-- there is a mark -/
def Marked (xs : List Nat) : Prop := xs ≠ [] ∧ xs.getD (xs.length - 1) 0 ≠ 0

instance (xs : List Nat) : Decidable (Marked xs) := by unfold Marked; infer_instance

end Go.Proofs.Ythenjooffkbkpaa
