/- Plain: how long a header is; bytes that are cut off. -/
import Derived.Test.YtllkfmnofklpmaaHdMore
namespace Go.Proofs.Ytllkfmnofklpmaa
open Go.RowKit

theorem NormQ.cost {q : List Int} {k : Nat} (h : NormQ q k) : (hdBits q).length ≤ 256 * (k + 3) := by
  rw [h.bits]
  have := hdGo_length (fq q) k h.2.2.2.2 257 (2 ^ k) 0 (Nat.le_refl _) (by omega) (by rw [h.sum]; show _ = 0 + _; omega)
  rw [Nat.mul_comm] at this
  exact this
theorem bitsB_cut (xs : List Nat) (m : Nat) (h : m ≤ xs.length) : bitsB (xs.take m) = (bitsB xs).take (8 * m) := by
  have e : bitsB xs = bitsB (xs.take m) ++ bitsB (xs.drop m) := by rw [← bitsB_append, List.take_append_drop]
  have hl : (bitsB (xs.take m)).length = 8 * m := by rw [bitsB_length, List.length_take]; omega
  rw [e, ← hl, List.take_left]
theorem cut_pack (A : List Bool) (m : Nat) (h : m < (pack A).length) : cutBits ((pack A).take m) 0 A := by
  have hp := pack_length A
  have hl : ((pack A).take m).length = m := by rw [List.length_take]; omega
  refine ⟨Nat.zero_le _, by rw [hl]; omega, ?_⟩
  rw [hl, List.drop_zero, bitsB_cut _ _ (by omega), bitsB_pack, Nat.sub_zero, List.take_append_of_le_length (by omega)]

end Go.Proofs.Ytllkfmnofklpmaa
