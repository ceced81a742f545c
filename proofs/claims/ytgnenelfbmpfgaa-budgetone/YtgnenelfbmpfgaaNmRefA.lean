/- What the document's own norm (puncheonref08) tells: power, sum, neediest, richest. -/
import Derived.Test.YtgnenelfbmpfgaaHsRef
import Derived.Test.YtgnenelfbmpfgaaNmMathB
import Derived.Test.YtgnenelfbmpfgaaBase2
import Derived.Test.YtgnenelfbmpfgaaRowBo
namespace Go.Proofs.Ytgnenelfbmpfgaa
open Go.RowKit

/-- an index, or -1 -/
def idx : Option Nat → Int
  | none => -1
  | some b => (b : Int)

end Go.Proofs.Ytgnenelfbmpfgaa
