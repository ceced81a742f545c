/- What bitw.putBit does to a Writer. -/
import Derived.Test.YtkdgfnaelekjoaaBwPut
namespace Go.Proofs.Ytkdgfnaelekjoaa
open Go.RowKit

end Go.Proofs.Ytkdgfnaelekjoaa
