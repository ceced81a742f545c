/- What puncheonlaw01.put does: a Writer with all parts. -/
import Derived.Test.YtgnenelfbmpfgaaBwParts
namespace Go.Proofs.Ytgnenelfbmpfgaa
open Go.RowKit

end Go.Proofs.Ytgnenelfbmpfgaa
