/- Pairs of numbers (puncheonlaw13.Pair) in memory, read. -/
import Derived.Test.YtgnenelfbmpfgaaHsBase
import Derived.Test.YtgnenelfbmpfgaaBgMath
namespace Go.Proofs.Ytgnenelfbmpfgaa
open Go.RowKit

/-- The value v is a slice of the pairs ps. -/
def RdPr (w : World) (v : Value) (ps : List (Int × Int)) : Prop :=
  (ps = [] ∧ ∃ ao c, v = .slice ao 0 c) ∨ ∃ g off cap, v = .slice (some ⟨g, off, none⟩) ps.length cap ∧ ∀ j, j < ps.length →
    w.cell? ⟨g, off + j * 2, none⟩ = some (.int .i64 (ps.getD j (0, 0)).1) ∧ w.cell? ⟨g, off + j * 2 + 1, none⟩ = some (.int .i64 (ps.getD j (0, 0)).2)
theorem RdPr.form {w : World} {v : Value} {ps : List (Int × Int)} (h : RdPr w v ps) : ∃ ao cap, v = .slice ao ps.length cap := by
  rcases h with ⟨rfl, ao, c, rfl⟩ | ⟨g, off, cap, rfl, _⟩
  · exact ⟨ao, c, rfl⟩
  · exact ⟨_, cap, rfl⟩
theorem RdPr.at {w : World} {ao : Option Addr} {n cap : Nat} {ps : List (Int × Int)} (h : RdPr w (.slice ao n cap) ps) (j : Nat) (hj : j < ps.length) : ∃ g off, ao = some ⟨g, off, none⟩ ∧
    w.cell? ⟨g, off + j * 2, none⟩ = some (.int .i64 (ps.getD j (0, 0)).1) ∧ w.cell? ⟨g, off + j * 2 + 1, none⟩ = some (.int .i64 (ps.getD j (0, 0)).2) := by
  rcases h with ⟨h0, _⟩ | ⟨g, off, cap', he, hc⟩
  · rw [h0] at hj; simp at hj
  · simp only [Value.slice.injEq] at he
    exact ⟨g, off, he.1, hc _ hj⟩
theorem RdPr.at' {w : World} {g off n cap : Nat} {ps : List (Int × Int)} (h : RdPr w (.slice (some ⟨g, off, none⟩) n cap) ps) (j : Nat) (hj : j < ps.length) :
    w.cell? ⟨g, off + j * 2, none⟩ = some (.int .i64 (ps.getD j (0, 0)).1) ∧ w.cell? ⟨g, off + j * 2 + 1, none⟩ = some (.int .i64 (ps.getD j (0, 0)).2) := by
  obtain ⟨g', off', he, hc⟩ := h.at j hj
  simp only [Option.some.injEq, Addr.mk.injEq] at he
  obtain ⟨rfl, rfl, -⟩ := he
  exact hc
theorem RdPr.kept {S : Nat → Prop} {w w' : World} {v : Value} {ps : List (Int × Int)} (h : RdPr w v ps) (hc : Chg S w w') (hS : ∀ k, v.ownBlock = some k → ¬ S k) : RdPr w' v ps := by
  rcases h with h | ⟨g, off, cap, rfl, hcell⟩
  · exact .inl h
  · refine .inr ⟨g, off, cap, rfl, fun j hj => ?_⟩
    have hh := hcell j hj
    have hlt : g < w.heap.size := block_lt_of_cell hh.1
    have hb := hc.block g hlt (hS g rfl)
    rw [World.cell?_of_block (w := w) (a := ⟨g, off + j * 2, none⟩) hb, World.cell?_of_block (w := w) (a := ⟨g, off + j * 2 + 1, none⟩) hb]
    exact hh
/-- none beyond its kind -/
def pairFits (q : Int × Int) : Prop := (-9223372036854775808 ≤ q.1 ∧ q.1 ≤ 9223372036854775807) ∧ (-9223372036854775808 ≤ q.2 ∧ q.2 ≤ 9223372036854775807)
theorem getD_memP {ps : List (Int × Int)} {k : Nat} (h : k < ps.length) : ps.getD k (0, 0) ∈ ps := by
  rw [List.getD_eq_getElem?_getD, List.getElem?_eq_getElem h]; exact List.getElem_mem h

/-- all pairs put, one behind the other -/
def bgAll (bs : List Bool) : List (Int × Int) → List Bool
  | [] => bs
  | p :: r => bgAll (bgPutB bs p.1 p.2) r
theorem bgAll_append (bs : List Bool) (a b : List (Int × Int)) : bgAll bs (a ++ b) = bgAll (bgAll bs a) b := by
  induction a generalizing bs with
  | nil => rfl
  | cons p r ih => exact ih _
theorem bgAll_succ (bs : List Bool) (ps : List (Int × Int)) (k : Nat) (h : k < ps.length) : bgAll bs (ps.take (k + 1)) = bgPutB (bgAll bs (ps.take k)) (ps.getD k (0, 0)).1 (ps.getD k (0, 0)).2 := by
  rw [List.take_succ_eq_append_getElem h, bgAll_append, List.getD_eq_getElem?_getD, List.getElem?_eq_getElem h]; rfl
theorem bgAll_length (bs : List Bool) (ps : List (Int × Int)) : (bgAll bs ps).length ≤ bs.length + 13 * ps.length := by
  induction ps generalizing bs with
  | nil => simp [bgAll]
  | cons p r ih =>
    have h1 := bgPutB_length bs p.1 p.2
    have h2 := bgCost_le p.1 p.2
    have h3 := ih (bgPutB bs p.1 p.2)
    simp only [bgAll, List.length_cons]; omega
theorem bgAll_take (ps : List (Int × Int)) (k : Nat) (h : k ≤ 40) : (bgAll [] (ps.take k)).length ≤ 520 := by
  have h1 := bgAll_length [] (ps.take k)
  have h2 : (ps.take k).length ≤ k := List.length_take_le _ _
  simp only [List.length_nil] at h1; omega

end Go.Proofs.Ytgnenelfbmpfgaa
