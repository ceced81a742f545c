/- RunsPuts' walk. -/
import Derived.Test.YtllkfmnofklpmaaRnTakes
namespace Go.Proofs.Ytllkfmnofklpmaa
open Go.RowKit

/-- all numbers put, one behind the other -/
def rnAll (bs : List Bool) : List Int → List Bool
  | [] => bs
  | z :: r => rnAll (rnPutB bs z) r
theorem rnAll_append (bs : List Bool) (a b : List Int) : rnAll bs (a ++ b) = rnAll (rnAll bs a) b := by
  induction a generalizing bs with
  | nil => rfl
  | cons p r ih => exact ih _
theorem rnAll_succ (bs : List Bool) (zs : List Int) (k : Nat) (h : k < zs.length) : rnAll bs (zs.take (k + 1)) = rnPutB (rnAll bs (zs.take k)) (zs.getD k 0) := by
  rw [List.take_succ_eq_append_getElem h, rnAll_append, List.getD_eq_getElem?_getD, List.getElem?_eq_getElem h]; rfl
theorem rnAll_length (bs : List Bool) (zs : List Int) : (rnAll bs zs).length ≤ bs.length + 172 * zs.length := by
  induction zs generalizing bs with
  | nil => simp [rnAll]
  | cons p r ih =>
    have h1 := rnPutB_length bs p
    have h2 := rnCost_le p
    have h3 := ih (rnPutB bs p)
    simp only [rnAll, List.length_cons]; omega
theorem rnAll_take (zs : List Int) (k : Nat) (h : k ≤ 30) : (rnAll [] (zs.take k)).length ≤ 5160 := by
  have h1 := rnAll_length [] (zs.take k)
  have h2 : (zs.take k).length ≤ k := List.length_take_le _ _
  simp only [List.length_nil] at h1; omega

end Go.Proofs.Ytllkfmnofklpmaa
