/- The walk of BitwPlays. -/
import Derived.Test.YtllkfmnofklpmaaBase3
import Derived.Deep.RegionWith
import Derived.Deep.RegionWith
namespace Go.Proofs.Ytllkfmnofklpmaa
open Go.RowKit

theorem bools_apart {w : World} {base n b : Nat} {v : Value} {xs : List Value} {o : Option Nat} {bs : List Bool} (h : w.ownsRow base 4 1 v n xs) (hw : Wr w b o bs) : ∀ k, v.ownBlock = some k → ¬ (k = b ∨ some k = o) := by
  intro k hk
  obtain ⟨v2, hb, ho, hown⟩ := hw
  rcases h.2 with ⟨rfl, _⟩ | ⟨g, cap, cur, rfl, _, hg, _⟩
  · simp [Value.ownBlock] at hk
  · simp only [Value.ownBlock, Option.some.injEq] at hk
    subst hk
    rintro (hx | hx)
    · subst hx; rw [hb] at hg; simp at hg
    · rcases hown.2 with ⟨rfl, _⟩ | ⟨g2, cap2, cur2, rfl, _, hg2, _⟩
      · rw [← hx] at ho; simp [Value.ownBlock] at ho
      · rw [← hx] at ho
        simp only [Value.ownBlock, Option.some.injEq] at ho
        subst ho
        rw [hg] at hg2; simp at hg2

end Go.Proofs.Ytllkfmnofklpmaa
