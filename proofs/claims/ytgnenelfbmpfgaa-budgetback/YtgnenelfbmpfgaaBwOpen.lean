/- An argument of type []Part, opened. -/
import Derived.Test.YtgnenelfbmpfgaaBwParts
import Derived.Test.YtgnenelfbmpfgaaOpGen
import Derived.WalkKit
import Derived.ProofKit
import Derived.OpenShut
import Derived.ShutString
import Derived.ChangeOld
import Derived.Below
import Derived.Deep.SlicePairs
namespace Go.Proofs.Ytgnenelfbmpfgaa
open Go.ChangeShapes Go.WideShapes Go.ChangeAt Go.RowKit Go.Deep

end Go.Proofs.Ytgnenelfbmpfgaa
