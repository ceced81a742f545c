/- Opening a []byte argument with what is known of its room. -/
import Derived.Test.YtjddaneafmdeeaaOpGen
namespace Go.Proofs.Ytjddaneafmdeeaa
open Go.ChangeShapes Go.WideShapes Go.ChangeAt Go.RowKit Go.Deep

theorem open_bytesC {H : Type} {enc : TypeId × Value → H} {W : World} {base : Nat} {spare : Nat → Bool} {held : Bool} {a : Option Addr} {len cap : Nat} {d : DataW H} {p : List MemPlace}
    (h : DataW.Trod enc Try.prog W base spare held 22 (.slice a len cap) d p) : ∃ xs, (RdB W (.slice a len cap) xs ∧ ∀ x ∈ xs, x < 256) ∧ len ≤ cap ∧ cap ≤ maxLen := by
  obtain ⟨xs, hxs⟩ := open_bytes h
  refine ⟨xs, hxs, ?_⟩
  obtain ⟨fuel, hf⟩ := h
  rcases open_ints Try.underlying22 Try.underlying5 cellsU8 hf with ⟨hcs, _⟩ | ⟨x, l, c, zs, hcs, _, hl, hm, _⟩
  · simp [Value.cells] at hcs
    obtain ⟨rfl, rfl, rfl⟩ := hcs
    exact ⟨Nat.le_refl _, by unfold maxLen; omega⟩
  · simp [Value.cells] at hcs
    obtain ⟨rfl, rfl, rfl⟩ := hcs
    exact ⟨hl, hm⟩

end Go.Proofs.Ytjddaneafmdeeaa
