/- Counts that are told by few numbers: what puncheonref05.Some tells. -/
import Derived.Test.YtgnenelfbmpfgaaNmRefB
namespace Go.Proofs.Ytgnenelfbmpfgaa
open Go.RowKit

/-- The value v is a slice of the uint16s xs. -/
def RdH (w : World) (v : Value) (xs : List Nat) : Prop :=
  (xs = [] ∧ ∃ ao c, v = .slice ao 0 c) ∨ ∃ g off cap, v = .slice (some ⟨g, off, none⟩) xs.length cap ∧ ∀ j, j < xs.length → w.cell? ⟨g, off + j, none⟩ = some (.int .u16 ((xs.getD j 0 : Nat) : Int))
theorem RdH.form {w : World} {v : Value} {xs : List Nat} (h : RdH w v xs) : ∃ ao cap, v = .slice ao xs.length cap := by
  rcases h with ⟨rfl, ao, c, rfl⟩ | ⟨g, off, cap, rfl, _⟩
  · exact ⟨ao, c, rfl⟩
  · exact ⟨_, cap, rfl⟩
theorem RdH.at {w : World} {ao : Option Addr} {n cap : Nat} {xs : List Nat} (h : RdH w (.slice ao n cap) xs) (k : Nat) (hk : k < xs.length) : ∃ g off, ao = some ⟨g, off, none⟩ ∧ w.cell? ⟨g, off + k, none⟩ = some (.int .u16 ((xs.getD k 0 : Nat) : Int)) := by
  rcases h with ⟨h0, _⟩ | ⟨g, off, cap', he, hc⟩
  · rw [h0] at hk; simp at hk
  · simp only [Value.slice.injEq] at he
    exact ⟨g, off, he.1, hc _ hk⟩
theorem RdH.kept {S : Nat → Prop} {w w' : World} {v : Value} {xs : List Nat} (h : RdH w v xs) (hc : Chg S w w') (hS : ∀ k, v.ownBlock = some k → ¬ S k) : RdH w' v xs := by
  rcases h with h | ⟨g, off, cap, rfl, hcell⟩
  · exact .inl h
  · refine .inr ⟨g, off, cap, rfl, fun j hj => ?_⟩
    have := hcell j hj
    have hlt : g < w.heap.size := block_lt_of_cell this
    rw [World.cell?_of_block (w := w) (hc.block g hlt (hS g rfl))]; exact this

/-- the counts that the first k pairs tell -/
def someTo (l : List Nat) : Nat → List Int
  | 0 => List.replicate 256 0
  | k + 1 => (someTo l k).set (l.getD (2 * k) 0 % 256) ((l.getD (2 * k + 1) 0 : Nat) : Int)
theorem someTo_succ (l : List Nat) (k : Nat) : someTo l (k + 1) = (someTo l k).set (l.getD (2 * k) 0 % 256) ((l.getD (2 * k + 1) 0 : Nat) : Int) := rfl
def pairsN (l : List Nat) : Nat := min (l.length / 2) 40
def someC (l : List Nat) : List Int := someTo l (pairsN l)

theorem someTo_facts (l : List Nat) (hx : ∀ x ∈ l, x < 65536) (k : Nat) (hk : 2 * k ≤ l.length) : (someTo l k).length = 256 ∧ (∀ s, s < 256 → 0 ≤ (someTo l k).getD s 0) ∧ tot (someTo l k) ≤ 65535 * (k : Int) := by
  induction k with
  | zero =>
    refine ⟨List.length_replicate, fun s hs => ?_, ?_⟩
    · show 0 ≤ (List.replicate 256 (0 : Int)).getD s 0
      rw [List.getD_eq_getElem?_getD, List.getElem?_replicate, if_pos hs]; exact Int.le_refl _
    · show tot (List.replicate 256 0) ≤ _
      rw [tot_zeros]; simp
  | succ k ih =>
    obtain ⟨i1, i2, i3⟩ := ih (by omega)
    rw [someTo_succ]
    have hv : l.getD (2 * k + 1) 0 < 65536 := by
      rw [List.getD_eq_getElem?_getD, List.getElem?_eq_getElem (by omega)]
      exact hx _ (List.getElem_mem _)
    have hm : l.getD (2 * k) 0 % 256 < 256 := Nat.mod_lt _ (by omega)
    generalize l.getD (2 * k) 0 % 256 = u at *
    generalize l.getD (2 * k + 1) 0 = y at *
    refine ⟨by rw [List.length_set]; exact i1, fun s hs => ?_, ?_⟩
    · rw [iset_getD _ _ _ _ (by omega)]
      split
      · omega
      · exact i2 s hs
    · have := tot_set (someTo l k) u (y : Int) (by omega)
      have := i2 u hm
      omega

theorem someC_len (l : List Nat) (hx : ∀ x ∈ l, x < 65536) : (someC l).length = 256 := (someTo_facts l hx (pairsN l) (by unfold pairsN; omega)).1
theorem someC_right (l : List Nat) (hx : ∀ x ∈ l, x < 65536) : isRight (someC l) ∧ tot (someC l) ≤ 2621400 := by
  obtain ⟨h1, h2, h3⟩ := someTo_facts l hx (pairsN l) (by unfold pairsN; omega)
  have hp : (pairsN l : Int) ≤ 40 := by unfold pairsN; omega
  have ht : tot (someC l) ≤ 2621400 := by unfold someC; omega
  refine ⟨⟨h1, fun c hc => ?_, by omega⟩, ht⟩
  obtain ⟨i, hi, rfl⟩ := List.mem_iff_getElem.1 hc
  have hl' : (someC l).length = 256 := h1
  have : 0 ≤ (someC l).getD i 0 := h2 i (by omega)
  rw [List.getD_eq_getElem?_getD, List.getElem?_eq_getElem hi] at this
  exact this

end Go.Proofs.Ytgnenelfbmpfgaa
