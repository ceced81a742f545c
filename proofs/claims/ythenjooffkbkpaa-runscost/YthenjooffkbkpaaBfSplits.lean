/- The walk of BitfSplits. -/
import Derived.Test.YthenjooffkbkpaaBfAwake
namespace Go.Proofs.Ythenjooffkbkpaa
open Go.RowKit

/-- what Take tells, whether it does, and how many bits are taken then -/
def ftk (xs : List Nat) (p : Nat) (n : Int) : Nat × Bool × Nat := if 0 ≤ n ∧ n ≤ 24 ∧ (p : Int) + n ≤ 8 * xs.length then (fv xs p n.toNat, true, p + n.toNat) else (0, false, p)

theorem ftake_f (b : Nat) (o : Option Nat) (xs : List Nat) (p : Nat) (n : Int) (w : World) (h : Rf w b o xs p) :
    Calls Try.prog 29 #[.pointer (some ⟨b, 0, none⟩), .int .i64 n] w fun e w' => e = .returned (.tuple #[.int .u32 (((ftk xs p n).1 : Nat) : Int), .bool (ftk xs p n).2.1]) ∧ Rf w' b o xs (ftk xs p n).2.2 ∧ Chg (fun k => k = b) w w' := by
  have hp := h.2.2.1
  refine (ftake_any b o xs p n w h).mono ?_
  rintro e w' (⟨m, rfl, h1, h2, rfl, hr, hc⟩ | ⟨hn, rfl, hr, hc⟩)
  · have e1 : ftk xs p (m : Int) = (fv xs p m, true, p + m) := by unfold ftk; rw [if_pos (by omega)]; rfl
    rw [e1]; exact ⟨rfl, hr, hc⟩
  · have e1 : ftk xs p n = (0, false, p) := by unfold ftk; rw [if_neg (by omega)]
    rw [e1]; exact ⟨rfl, hr, hc.mono (fun _ _ h => h.elim)⟩

theorem fv_split (xs : List Nat) (p k c : Nat) (hc : c ≤ k) (hl : p + k ≤ 8 * xs.length) : fv xs p k = fv xs p c + 2 ^ c * fv xs (p + c) (k - c) := by
  unfold fv
  have e : ((bitsB xs).drop p).take k = ((bitsB xs).drop p).take c ++ ((bitsB xs).drop (p + c)).take (k - c) := by
    rw [← List.drop_drop, ← List.take_add]; congr 1; omega
  have el : (((bitsB xs).drop p).take c).length = c := by rw [List.length_take, List.length_drop, bitsB_length]; omega
  rw [e, val_append, el]

theorem ftk_le (xs : List Nat) (p : Nat) (n : Int) (h : p ≤ 8 * xs.length) : (ftk xs p n).2.2 ≤ 8 * xs.length := by
  unfold ftk; split
  · show p + n.toNat ≤ _; omega
  · exact h

end Go.Proofs.Ythenjooffkbkpaa
