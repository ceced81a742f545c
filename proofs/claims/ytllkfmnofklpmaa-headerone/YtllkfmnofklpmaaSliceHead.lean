/- x[:n] of a row of bits. -/
import Derived.Test.YtllkfmnofklpmaaBase3
namespace Go.Proofs.Ytllkfmnofklpmaa
open Go.RowKit

/-- a slice of a row of bits: v[:h] -/
theorem slice_head {w : World} {v : Value} {bs : List Bool} (ho : w.ownsRow 0 4 1 v bs.length (bl bs)) (h : Nat) (hh : h ≤ bs.length) :
    ∃ ao2 c2, (∀ W : World, (Instr.slice 27 v none (some (.int .i64 (h : Int))) none).run Try.prog W = .ok (.slice ao2 h c2) W) ∧ RdQ w (.slice ao2 h c2) (bs.take h) := by
  have hcapo : ∃ ao cap, v = .slice ao bs.length cap ∧ bs.length ≤ cap ∧ cap ≤ maxLen ∧ (0 < bs.length → ∃ g, ao = some ⟨g, 0, none⟩) := by
    rcases ho.2 with ⟨rfl, h0⟩ | ⟨g, cap, cur, rfl, _, _, h1, h2, _⟩
    · exact ⟨none, 0, by rw [h0], by omega, by unfold maxLen; omega, fun h => by omega⟩
    · exact ⟨_, cap, rfl, h1, h2, fun _ => ⟨g, rfl⟩⟩
  obtain ⟨ao, cap, rfl, hcap, hmax, hao⟩ := hcapo
  have hs : ∀ W, (sizeOf (Try.prog.elem 27)).run Try.prog W = .ok 1 W := fun W => by kernel_rfl
  refine ⟨if cap = 0 then ao else ao.map (·.add 0), cap, fun W => ?_, ?_⟩
  · rw [run_slice_h W 27 ao bs.length cap (by kernel_rfl) .i64 (h : Int) (by omega) (by omega), hs]
    simp [Result.andThen, sliced]
  · by_cases hz : h = 0
    · exact .inl ⟨by rw [hz]; rfl, _, _, by rw [hz]⟩
    · rw [if_neg (by omega)]
      obtain ⟨g, hg⟩ := hao (by omega)
      subst hg
      have elen : (bs.take h).length = h := by rw [List.length_take]; omega
      refine .inr ⟨g, 0, cap, by rw [elen]; simp [Addr.add], fun j hj => ?_⟩
      rw [elen] at hj
      rw [Nat.zero_add, ho.cellAt j (by omega), bl_get bs j (by omega)]
      simp

end Go.Proofs.Ytllkfmnofklpmaa
