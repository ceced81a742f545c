/- What bitw.putBit does to a Writer. -/
import Derived.Test.YtjddaneafmdeeaaBwPut
namespace Go.Proofs.Ytjddaneafmdeeaa
open Go.RowKit

end Go.Proofs.Ytjddaneafmdeeaa
