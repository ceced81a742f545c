/- x[:n] of bytes that are read. -/
import Derived.Test.YthghlfghdmifoaaBase4
namespace Go.Proofs.Ythghlfghdmifoaa
open Go.RowKit

/-- b[:n] -/
theorem mslice_upto {w : World} {ao : Option Addr} {cap n : Nat} {xs : List Nat} (_h : RdB w (.slice ao xs.length cap) xs) (hn : n ≤ xs.length) (hcap : xs.length ≤ cap) :
    (∀ W : World, (Instr.slice 22 (.slice ao xs.length cap) none (some (.int .i64 (n : Int))) none).run Try.prog W = .ok (.slice ao n cap) W) ∧ ∀ W, RdB W (.slice ao xs.length cap) xs → RdB W (.slice ao n cap) (xs.take n) := by
  have hs : ∀ W, (sizeOf (Try.prog.elem 22)).run Try.prog W = .ok 1 W := fun W => by kernel_rfl
  refine ⟨fun W => ?_, fun W h => ?_⟩
  · rw [run_slice_h W 22 ao xs.length cap (by kernel_rfl) .i64 (n : Int) (by omega) (by omega), hs]
    have e : ∀ a : Option Addr, a.map (fun x => x.add 0) = a := by intro a; cases a <;> simp [Addr.add]
    simp [Result.andThen, sliced, e]
  · have el : (xs.take n).length = n := by rw [List.length_take]; omega
    rcases h with ⟨h0, _⟩ | ⟨g, off, cap', he, hc⟩
    · rw [h0] at hn
      have : n = 0 := by simpa using hn
      exact .inl ⟨by rw [this]; simp, ao, cap, by rw [this]⟩
    · simp only [Value.slice.injEq] at he
      refine .inr ⟨g, off, cap, by rw [el, he.1], fun j hj => ?_⟩
      rw [el] at hj
      rw [hc j (by omega)]
      simp only [List.getD_eq_getElem?_getD, List.getElem?_take, if_pos hj]

end Go.Proofs.Ythghlfghdmifoaa
