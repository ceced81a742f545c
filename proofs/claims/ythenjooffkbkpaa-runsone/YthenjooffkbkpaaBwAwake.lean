/- What puncheonlaw01.awake tells: the chapter's example holds. -/
import Derived.Test.YthenjooffkbkpaaBwLawPut
import Derived.Test.YthenjooffkbkpaaBwBytes
namespace Go.Proofs.Ythenjooffkbkpaa
open Go.RowKit

theorem ex_bits : putB (putB [] 5 3) 1 2 = [true, false, true, true, false] := by decide
theorem ex_pack : pack [true, false, true, true, false] = [13] := by decide
theorem ex_close : pack ([true, false, true, true, false] ++ [true]) = [45] := by decide
theorem str13 : ((strB [13]).toList == [13]) = true := by decide +kernel
theorem str45 : ((strB [45]).toList == [45]) = true := by decide +kernel

end Go.Proofs.Ythenjooffkbkpaa
