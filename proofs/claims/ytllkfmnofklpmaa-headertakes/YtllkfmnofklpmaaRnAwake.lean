/- What puncheonlaw14.awake tells: the chapter's examples hold; RunsCost's walk. -/
import Derived.Test.YtllkfmnofklpmaaBase3
import Derived.Test.YtllkfmnofklpmaaBwPlays
namespace Go.Proofs.Ytllkfmnofklpmaa
open Go.RowKit

theorem ex14_put : rnOk 7 ∧ (rnPutB [] 7).length = 6 ∧ pack (rnPutB [] 7) = [31] ∧ rnCostN 7 = 6 := by decide +kernel
theorem ex14_take : rnTk [31] 0 7 = (7, 0, 6) := by decide +kernel
theorem ex14_less : (rnTk [31] 0 6).1 = 0 ∧ (rnTk [31] 0 6).2.1 = 13 := by decide +kernel

end Go.Proofs.Ytllkfmnofklpmaa
