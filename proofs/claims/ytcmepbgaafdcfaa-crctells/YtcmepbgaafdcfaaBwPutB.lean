/- What bitw.putBit does to a Writer. -/
import Derived.Test.YtcmepbgaafdcfaaBwPut
namespace Go.Proofs.Ytcmepbgaafdcfaa
open Go.RowKit

end Go.Proofs.Ytcmepbgaafdcfaa
