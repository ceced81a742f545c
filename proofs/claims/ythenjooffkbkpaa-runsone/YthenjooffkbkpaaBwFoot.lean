/- puncheonlaw01.put's end, with the footprint named. -/
import Derived.Test.YthenjooffkbkpaaBwMany
import Derived.Test.YthenjooffkbkpaaBwAwake
namespace Go.Proofs.Ythenjooffkbkpaa
open Go.RowKit

end Go.Proofs.Ythenjooffkbkpaa
