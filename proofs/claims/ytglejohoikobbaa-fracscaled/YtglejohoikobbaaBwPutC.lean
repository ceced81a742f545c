/- What bitw.New, Put, Bits do. -/
import Derived.Test.YtglejohoikobbaaBwPutB
namespace Go.Proofs.Ytglejohoikobbaa
open Go.RowKit

theorem wraps_u32 (n : Int) (h0 : 0 ≤ n) (h1 : n < 2 ^ 32) : IntKind.u32.wrap n = n := by rw [IntKind.wrap_u32]; omega

theorem and_one_bit (v k : Nat) (hv : v < 4294967296) : (bits BinOp.and IntKind.u32 ((v : Int) / 2 ^ k) 1 == 1) = decide (v / 2 ^ k % 2 = 1) := by
  have e : ((v : Int) / 2 ^ k) = ((v / 2 ^ k : Nat) : Int) := by simp
  have hl : v / 2 ^ k ≤ v := Nat.div_le_self _ _
  rw [e]
  generalize v / 2 ^ k = y at *
  have h := bits_mask .u32 32 (by decide) wraps_u32 1 (by decide) (y : Int) (by omega) (by omega)
  rw [show (1 : Int) = 2 ^ 1 - 1 from by decide, h]
  rw [Bool.eq_iff_iff]; simp; omega

end Go.Proofs.Ytglejohoikobbaa
