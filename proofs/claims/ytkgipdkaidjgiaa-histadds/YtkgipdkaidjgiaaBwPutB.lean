/- What bitw.putBit does to a Writer. -/
import Derived.Test.YtkgipdkaidjgiaaBwPut
namespace Go.Proofs.Ytkgipdkaidjgiaa
open Go.RowKit

end Go.Proofs.Ytkgipdkaidjgiaa
