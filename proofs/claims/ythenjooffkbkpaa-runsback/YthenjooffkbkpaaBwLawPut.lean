/- What puncheonlaw01.put does: a Writer with all parts. -/
import Derived.Test.YthenjooffkbkpaaBwParts
namespace Go.Proofs.Ythenjooffkbkpaa
open Go.RowKit

end Go.Proofs.Ythenjooffkbkpaa
