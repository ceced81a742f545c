/- puncheonlaw01.put's end, with the footprint named. -/
import Derived.Test.YtgnenelfbmpfgaaBwMany
import Derived.Test.YtgnenelfbmpfgaaBwAwake
namespace Go.Proofs.Ytgnenelfbmpfgaa
open Go.RowKit

end Go.Proofs.Ytgnenelfbmpfgaa
