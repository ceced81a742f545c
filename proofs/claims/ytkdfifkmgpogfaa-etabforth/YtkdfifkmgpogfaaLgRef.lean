/- What the document's own logs (puncheonref07) tell. -/
import Derived.Test.YtkdfifkmgpogfaaBase3
namespace Go.Proofs.Ytkdfifkmgpogfaa
open Go.RowKit

end Go.Proofs.Ytkdfifkmgpogfaa
