/- The walk of BitrSplits. -/
import Derived.Test.YthenjooffkbkpaaBrAwake
namespace Go.Proofs.Ythenjooffkbkpaa
open Go.RowKit

theorem RdB.form {w : World} {v : Value} {xs : List Nat} (h : RdB w v xs) : ∃ ao cap, v = .slice ao xs.length cap := by
  rcases h with ⟨rfl, ao, c, rfl⟩ | ⟨g, off, cap, rfl, _⟩
  · exact ⟨ao, c, rfl⟩
  · exact ⟨_, cap, rfl⟩

theorem or_high (hi lo j : Nat) (hlo : lo < 2 ^ j) (hb : lo + 2 ^ j * hi < 4294967296) : bits .or .u32 ((hi : Int) * 2 ^ j % 4294967296) (lo : Int) = ((lo + 2 ^ j * hi : Nat) : Int) := by
  have e : ((hi : Int) * 2 ^ j % 4294967296) = ((2 ^ j * hi : Nat) : Int) := by
    have e1 : ((hi : Int) * 2 ^ j) = ((2 ^ j * hi : Nat) : Int) := by simp [Int.mul_comm]
    rw [e1]
    generalize 2 ^ j * hi = z at *
    omega
  rw [e, bits_or_nat .u32 wraps_u32 _ lo (by simp only [IntKind.bits]; omega) (by simp only [IntKind.bits]; omega)]
  congr 1
  have := Nat.two_pow_add_eq_or_of_lt hlo hi
  omega

end Go.Proofs.Ythenjooffkbkpaa
