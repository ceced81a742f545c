/- What bitw.putBit does to a Writer. -/
import Derived.Test.YtnijfkbnggdbnaaBwPut
namespace Go.Proofs.Ytnijfkbnggdbnaa
open Go.RowKit

end Go.Proofs.Ytnijfkbnggdbnaa
