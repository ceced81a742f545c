/- The zero value of 256 times 256 bools. -/
import Derived.Test.YtjddaneafmdeeaaCxMathC
import Derived.Test.YtjddaneafmdeeaaRowBo
namespace Go.Proofs.Ytjddaneafmdeeaa
open Go.RowKit

theorem zeroSeen : ∃ Z : List Value, Z = dbl 10 (List.replicate 64 (.bool false)) ∧ ∀ W : World, (zeroValue 41).run Try.prog W = .ok (.agg Z.toArray) W := ⟨_, rfl, fun W => by kernel_rfl⟩

theorem bl_rep (n : Nat) (b : Bool) : bl (List.replicate n b) = List.replicate n (.bool b) := by simp [bl]

end Go.Proofs.Ytjddaneafmdeeaa
