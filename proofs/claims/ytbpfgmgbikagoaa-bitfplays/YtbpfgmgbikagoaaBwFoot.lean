/- puncheonlaw01.put's end, with the footprint named. -/
import Derived.Test.YtbpfgmgbikagoaaBwMany
import Derived.Test.YtbpfgmgbikagoaaBwAwake
namespace Go.Proofs.Ytbpfgmgbikagoaa
open Go.RowKit

end Go.Proofs.Ytbpfgmgbikagoaa
