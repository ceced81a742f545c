/- A slice of parts that is read; all parts put; a Writer of the call's own. -/
import Derived.Test.YtjddaneafmdeeaaBwSame
namespace Go.Proofs.Ytjddaneafmdeeaa
open Go.RowKit

/-- The value is a slice of the parts ps (a number and how many bits), none of them beyond its kind. -/
structure RdP (w : World) (v : Value) (ps : List (Nat × Int)) : Prop where
  form : ∃ ao cap, v = .slice ao ps.length cap ∧ (0 < ps.length → ∃ g off, ao = some ⟨g, off, none⟩)
  cells : ∀ g off n cap, v = .slice (some ⟨g, off, none⟩) n cap → ∀ i (h : i < ps.length), w.cell? ⟨g, off + i * 2, none⟩ = some (.int .u32 (ps[i].1 : Int)) ∧ w.cell? ⟨g, off + i * 2 + 1, none⟩ = some (.int .i64 ps[i].2)
  wf : ∀ p ∈ ps, p.1 < 4294967296

theorem RdP.kept {S : Nat → Prop} {w w' : World} {v : Value} {ps : List (Nat × Int)} (h : RdP w v ps) (hc : Chg S w w') (hS : ∀ k, v.ownBlock = some k → ¬ S k) : RdP w' v ps := by
  refine ⟨h.form, fun g off n cap hv i hi => ?_, h.wf⟩
  have hh := h.cells g off n cap hv i hi
  have hlt : g < w.heap.size := block_lt_of_cell hh.1
  have hb := hc.block g hlt (hS g (by rw [hv]; rfl))
  rw [World.cell?_of_block (w := w) (a := ⟨g, off + i * 2, none⟩) hb, World.cell?_of_block (w := w) (a := ⟨g, off + i * 2 + 1, none⟩) hb]
  exact hh

/-- all parts put, one behind the other -/
def putAll (bs : List Bool) : List (Nat × Int) → List Bool
  | [] => bs
  | p :: r => putAll (putB bs p.1 p.2) r

theorem putAll_append (bs : List Bool) (a b : List (Nat × Int)) : putAll bs (a ++ b) = putAll (putAll bs a) b := by
  induction a generalizing bs with
  | nil => rfl
  | cons p r ih => exact ih _

theorem putAll_succ (bs : List Bool) (ps : List (Nat × Int)) (k : Nat) (h : k < ps.length) : putAll bs (ps.take (k + 1)) = putB (putAll bs (ps.take k)) ps[k].1 ps[k].2 := by
  rw [List.take_succ_eq_append_getElem h, putAll_append]; rfl

theorem putAll_length (bs : List Bool) (ps : List (Nat × Int)) : bs.length ≤ (putAll bs ps).length ∧ (putAll bs ps).length ≤ bs.length + 24 * ps.length := by
  induction ps generalizing bs with
  | nil => simp [putAll]
  | cons p r ih =>
    have h1 := putB_length bs p.1 p.2
    have h2 := ih (putB bs p.1 p.2)
    simp only [putAll, List.length_cons]; omega

end Go.Proofs.Ytjddaneafmdeeaa
