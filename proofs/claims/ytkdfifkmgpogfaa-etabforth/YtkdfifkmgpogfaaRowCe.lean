/- Rows of cells (api.Cell) in memory: read, or of one's own. -/
import Derived.Test.YtkdfifkmgpogfaaBase3
namespace Go.Proofs.Ytkdfifkmgpogfaa
open Go.RowKit

/-- a cell as values -/
def cv (c : Cl) : List Value := [.int .u8 (c.Sym : Int), .int .i64 c.Bits, .int .i64 c.Base]
def cvs (l : List Cl) : List Value := l.flatMap cv
theorem cvs_length (l : List Cl) : (cvs l).length = l.length * 3 := by
  induction l with
  | nil => rfl
  | cons c r ih => simp [cvs, cv] at ih ⊢; omega
theorem cvs_get (l : List Cl) (j : Nat) (h : j < l.length) : (cvs l)[j * 3]? = some (.int .u8 ((l.getD j cl0).Sym : Int)) ∧ (cvs l)[j * 3 + 1]? = some (.int .i64 (l.getD j cl0).Bits) ∧ (cvs l)[j * 3 + 2]? = some (.int .i64 (l.getD j cl0).Base) := by
  induction l generalizing j with
  | nil => simp at h
  | cons c r ih =>
    have e : cvs (c :: r) = cv c ++ cvs r := by simp [cvs]
    cases j with
    | zero => rw [e]; exact ⟨rfl, rfl, rfl⟩
    | succ j =>
      have ih := ih j (by simpa using h)
      have hl : (cv c).length = 3 := rfl
      rw [e, List.getElem?_append_right (by omega), List.getElem?_append_right (by omega), List.getElem?_append_right (by omega), hl,
        show (j + 1) * 3 - 3 = j * 3 by omega, show (j + 1) * 3 + 1 - 3 = j * 3 + 1 by omega, show (j + 1) * 3 + 2 - 3 = j * 3 + 2 by omega]
      exact ih
theorem cvs_append (a b : List Cl) : cvs (a ++ b) = cvs a ++ cvs b := by simp [cvs]

/-- The value v is a slice of the cells l. -/
def RdC (w : World) (v : Value) (l : List Cl) : Prop :=
  (l = [] ∧ ∃ ao c, v = .slice ao 0 c) ∨ ∃ g off cap, v = .slice (some ⟨g, off, none⟩) l.length cap ∧ ∀ j, j < l.length →
    w.cell? ⟨g, off + j * 3, none⟩ = some (.int .u8 ((l.getD j cl0).Sym : Int)) ∧ w.cell? ⟨g, off + j * 3 + 1, none⟩ = some (.int .i64 (l.getD j cl0).Bits) ∧ w.cell? ⟨g, off + j * 3 + 2, none⟩ = some (.int .i64 (l.getD j cl0).Base)
theorem RdC.form {w : World} {v : Value} {l : List Cl} (h : RdC w v l) : ∃ ao cap, v = .slice ao l.length cap := by
  rcases h with ⟨rfl, ao, c, rfl⟩ | ⟨g, off, cap, rfl, _⟩
  · exact ⟨ao, c, rfl⟩
  · exact ⟨_, cap, rfl⟩
theorem RdC.at {w : World} {ao : Option Addr} {n cap : Nat} {l : List Cl} (h : RdC w (.slice ao n cap) l) (j : Nat) (hj : j < l.length) : ∃ g off, ao = some ⟨g, off, none⟩ ∧
    w.cell? ⟨g, off + j * 3, none⟩ = some (.int .u8 ((l.getD j cl0).Sym : Int)) ∧ w.cell? ⟨g, off + j * 3 + 1, none⟩ = some (.int .i64 (l.getD j cl0).Bits) ∧ w.cell? ⟨g, off + j * 3 + 2, none⟩ = some (.int .i64 (l.getD j cl0).Base) := by
  rcases h with ⟨h0, _⟩ | ⟨g, off, cap', he, hc⟩
  · rw [h0] at hj; simp at hj
  · simp only [Value.slice.injEq] at he
    exact ⟨g, off, he.1, hc _ hj⟩
theorem RdC.at' {w : World} {g off n cap : Nat} {l : List Cl} (h : RdC w (.slice (some ⟨g, off, none⟩) n cap) l) (j : Nat) (hj : j < l.length) :
    w.cell? ⟨g, off + j * 3, none⟩ = some (.int .u8 ((l.getD j cl0).Sym : Int)) ∧ w.cell? ⟨g, off + j * 3 + 1, none⟩ = some (.int .i64 (l.getD j cl0).Bits) ∧ w.cell? ⟨g, off + j * 3 + 2, none⟩ = some (.int .i64 (l.getD j cl0).Base) := by
  obtain ⟨g', off', he, hc⟩ := h.at j hj
  simp only [Option.some.injEq, Addr.mk.injEq] at he
  obtain ⟨rfl, rfl, -⟩ := he
  exact hc
theorem RdC.kept {S : Nat → Prop} {w w' : World} {v : Value} {l : List Cl} (h : RdC w v l) (hc : Chg S w w') (hS : ∀ k, v.ownBlock = some k → ¬ S k) : RdC w' v l := by
  rcases h with h | ⟨g, off, cap, rfl, hcell⟩
  · exact .inl h
  · refine .inr ⟨g, off, cap, rfl, fun j hj => ?_⟩
    have hh := hcell j hj
    have hlt : g < w.heap.size := block_lt_of_cell hh.1
    have hb := hc.block g hlt (hS g rfl)
    rw [World.cell?_of_block (w := w) (a := ⟨g, off + j * 3, none⟩) hb, World.cell?_of_block (w := w) (a := ⟨g, off + j * 3 + 1, none⟩) hb, World.cell?_of_block (w := w) (a := ⟨g, off + j * 3 + 2, none⟩) hb]
    exact hh

/-- none beyond its kind -/
def Cl.fits (c : Cl) : Prop := c.Sym < 256 ∧ (-9223372036854775808 ≤ c.Bits ∧ c.Bits ≤ 9223372036854775807) ∧ (-9223372036854775808 ≤ c.Base ∧ c.Base ≤ 9223372036854775807)

/-- A block that is a row of cells. -/
def RowC (w : World) (g : Nat) (t : TypeId) (l : List Cl) : Prop := w.heap[g]? = some (.cells (cvs l).toArray t (0, 0))
theorem RowC.cell {w : World} {g : Nat} {t : TypeId} {l : List Cl} (h : RowC w g t l) (j : Nat) (hj : j < l.length) :
    w.cell? ⟨g, j * 3, none⟩ = some (.int .u8 ((l.getD j cl0).Sym : Int)) ∧ w.cell? ⟨g, j * 3 + 1, none⟩ = some (.int .i64 (l.getD j cl0).Bits) ∧ w.cell? ⟨g, j * 3 + 2, none⟩ = some (.int .i64 (l.getD j cl0).Base) := by
  have hg := cvs_get l j hj
  rw [cell_of_row w g (j * 3) _ _ _ h, cell_of_row w g (j * 3 + 1) _ _ _ h, cell_of_row w g (j * 3 + 2) _ _ _ h, List.getElem?_toArray, List.getElem?_toArray, List.getElem?_toArray]
  exact hg
theorem RowC.free {w : World} {g : Nat} {t : TypeId} {l : List Cl} (h : RowC w g t l) (k : Nat) : w.frozen? ⟨g, k, none⟩ = false := frozen_of_row w g k _ _ h
theorem RowC.kept {S : Nat → Prop} {w w' : World} {g : Nat} {t : TypeId} {l : List Cl} (h : RowC w g t l) (hc : Chg S w w') (hS : ¬ S g) : RowC w' g t l := (hc.block g (lt_of_block h) hS).trans h
theorem RowC.lt {w : World} {g : Nat} {t : TypeId} {l : List Cl} (h : RowC w g t l) : g < w.heap.size := lt_of_block h
theorem RowC.rd {w : World} {g : Nat} {t : TypeId} {l : List Cl} (h : RowC w g t l) (cap : Nat) : RdC w (.slice (some ⟨g, 0, none⟩) l.length cap) l :=
  .inr ⟨g, 0, cap, rfl, fun j hj => by rw [Nat.zero_add]; exact h.cell j hj⟩

theorem cvs_set (l : List Cl) (j : Nat) (c : Cl) (h : j < l.length) : (((cvs l).set (j * 3) (.int .u8 (c.Sym : Int))).set (j * 3 + 1) (.int .i64 c.Bits)).set (j * 3 + 2) (.int .i64 c.Base) = cvs (l.set j c) := by
  induction l generalizing j with
  | nil => simp at h
  | cons d r ih =>
    have e : ∀ (x : Cl) (y : List Cl), cvs (x :: y) = cv x ++ cvs y := fun x y => by simp [cvs]
    cases j with
    | zero => rw [List.set_cons_zero, e, e]; rfl
    | succ j =>
      have ih := ih j (by simpa using h)
      have hl : (cv d).length = 3 := rfl
      rw [List.set_cons_succ, e, e, ← ih, List.set_append_right _ _ (by omega), List.set_append_right _ _ (by omega), List.set_append_right _ _ (by omega), hl,
        show (j + 1) * 3 - 3 = j * 3 by omega, show (j + 1) * 3 + 1 - 3 = j * 3 + 1 by omega, show (j + 1) * 3 + 2 - 3 = j * 3 + 2 by omega]
theorem RowC.set {w : World} {g : Nat} {t : TypeId} {l : List Cl} (h : RowC w g t l) (j : Nat) (hj : j < l.length) (c : Cl) :
    RowC (((w.setCell ⟨g, j * 3, none⟩ (.int .u8 (c.Sym : Int))).setCell ⟨g, j * 3 + 1, none⟩ (.int .i64 c.Bits)).setCell ⟨g, j * 3 + 2, none⟩ (.int .i64 c.Base)) g t (l.set j c) := by
  have h1 := heap_setCell_same w g (j * 3) _ _ (.int .u8 (c.Sym : Int)) h
  have h2 := heap_setCell_same _ g (j * 3 + 1) _ _ (.int .i64 c.Bits) h1
  have h3 := heap_setCell_same _ g (j * 3 + 2) _ _ (.int .i64 c.Base) h2
  unfold RowC
  rw [h3, List.setIfInBounds_toArray, List.setIfInBounds_toArray, List.setIfInBounds_toArray, cvs_set l j c hj]

end Go.Proofs.Ytkdfifkmgpogfaa
