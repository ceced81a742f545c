/- An argument of type []int, opened. -/
import Derived.Test.YthenjooffkbkpaaOpGen
namespace Go.Proofs.Ythenjooffkbkpaa
open Go.ChangeShapes Go.WideShapes Go.ChangeAt Go.RowKit Go.Deep

theorem open_ints64 {H : Type} {enc : TypeId × Value → H} {W : World} {base : Nat} {spare : Nat → Bool} {held : Bool} {a : Option Addr} {len cap : Nat} {d : DataW H} {p : List MemPlace}
    (h : DataW.Trod enc Try.prog W base spare held 22 (.slice a len cap) d p) : ∃ zs, RdI W (.slice a len cap) zs ∧ ∀ z ∈ zs, -9223372036854775808 ≤ z ∧ z ≤ 9223372036854775807 := by
  obtain ⟨fuel, hf⟩ := h
  rcases open_ints Try.underlying22 Try.underlying3 cellsInt hf with ⟨hcs, _⟩ | ⟨x, l, c, zs, hcs, _, hl, _, hz, _, hcell, hwz⟩
  · simp [Value.cells] at hcs
    obtain ⟨rfl, rfl, rfl⟩ := hcs
    exact ⟨[], .inl ⟨rfl, none, 0, rfl⟩, by simp⟩
  · simp [Value.cells] at hcs
    obtain ⟨rfl, rfl, rfl⟩ := hcs
    have hlen : len ≤ zs.length := by rw [hz]; split <;> omega
    refine ⟨zs.take len, ?_, fun z hz' => by have := bounds_i64 (hwz z (List.mem_of_mem_take hz')); omega⟩
    by_cases h0 : len = 0
    · subst h0
      exact .inl ⟨by simp, some x, cap, rfl⟩
    · obtain ⟨g, off, rfl⟩ := spot_none (hcell 0 (by omega))
      refine .inr ⟨g, off, cap, by simp; omega, fun j hj => ?_⟩
      have hj' : j < len := by simp at hj; omega
      have hc := hcell j (by omega)
      rw [add_lit] at hc
      rw [hc]
      simp [List.getElem?_take, hj']

/-- the same, with how long it can be -/
theorem open_ints64L {H : Type} {enc : TypeId × Value → H} {W : World} {base : Nat} {spare : Nat → Bool} {held : Bool} {a : Option Addr} {len cap : Nat} {d : DataW H} {p : List MemPlace}
    (h : DataW.Trod enc Try.prog W base spare held 22 (.slice a len cap) d p) : ∃ zs, RdI W (.slice a len cap) zs ∧ (∀ z ∈ zs, -9223372036854775808 ≤ z ∧ z ≤ 9223372036854775807) ∧ zs.length ≤ 9223372036854775807 := by
  obtain ⟨zs, h1, h2⟩ := open_ints64 h
  refine ⟨zs, h1, h2, ?_⟩
  have hz : zs.length = len := by
    rcases h1 with ⟨rfl, ao, c, he⟩ | ⟨g, off, c, he, _⟩
    · simp only [Value.slice.injEq] at he; simp [he.2.1]
    · simp only [Value.slice.injEq] at he; exact he.2.1.symm
  obtain ⟨fuel, hf⟩ := h
  rcases open_ints Try.underlying22 Try.underlying3 cellsInt hf with ⟨hcs, _⟩ | ⟨x, l, c, ys, hcs, _, hl, hm, _⟩
  · simp [Value.cells] at hcs
    obtain ⟨rfl, rfl, rfl⟩ := hcs
    omega
  · simp [Value.cells] at hcs
    obtain ⟨rfl, rfl, rfl⟩ := hcs
    unfold maxLen at hm
    omega

end Go.Proofs.Ythenjooffkbkpaa
