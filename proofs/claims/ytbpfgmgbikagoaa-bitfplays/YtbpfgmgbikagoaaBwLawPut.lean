/- What puncheonlaw01.put does: a Writer with all parts. -/
import Derived.Test.YtbpfgmgbikagoaaBwParts
namespace Go.Proofs.Ytbpfgmgbikagoaa
open Go.RowKit

end Go.Proofs.Ytbpfgmgbikagoaa
