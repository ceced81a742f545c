/- What bitw.putBit does to a Writer. -/
import Derived.Test.YtglejohoikobbaaBwPut
namespace Go.Proofs.Ytglejohoikobbaa
open Go.RowKit

end Go.Proofs.Ytglejohoikobbaa
