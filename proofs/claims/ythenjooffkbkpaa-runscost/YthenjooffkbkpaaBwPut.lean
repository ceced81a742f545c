/- A Writer in memory; what bitw.putBit does to it. -/
import Derived.Test.YthenjooffkbkpaaBwBase
namespace Go.Proofs.Ythenjooffkbkpaa
open Go.RowKit

/-- The Writer at block b holds the bits bs; its bytes lie in the block o (none: there are none yet). -/
def Wr (w : World) (b : Nat) (o : Option Nat) (bs : List Bool) : Prop :=
  ∃ v, w.heap[b]? = some (.cells #[v, .int .i64 (bs.length : Int)] 49 (0, 0)) ∧ v.ownBlock = o ∧ w.ownsRow (b + 1) 5 1 v ((bs.length + 7) / 8) (bv (pack bs))

/-- From w to w' only the Writer has turned; it holds bs now. -/
def WrTo (w w' : World) (b : Nat) (o : Option Nat) (bs : List Bool) : Prop :=
  ∃ o', Wr w' b o' bs ∧ Chg (fun k => k = b ∨ some k = o) w w' ∧ (o' = o ∨ ∃ k, o' = some k ∧ w.heap.size ≤ k)

theorem Wr.lt {w : World} {b : Nat} {o : Option Nat} {bs : List Bool} (h : Wr w b o bs) : b < w.heap.size ∧ ∀ k, o = some k → b < k ∧ k < w.heap.size := by
  obtain ⟨v, hb, ho, hown⟩ := h
  refine ⟨lt_of_block hb, fun k hk => ?_⟩
  have := hown.lt k (ho.trans hk)
  omega

theorem Wr.kept {S : Nat → Prop} {w w' : World} {b : Nat} {o : Option Nat} {bs : List Bool} (h : Wr w b o bs) (hc : Chg S w w') (h1 : ¬ S b) (h2 : ∀ k, o = some k → ¬ S k) : Wr w' b o bs := by
  have hl := h.lt
  obtain ⟨v, hb, ho, hown⟩ := h
  exact ⟨v, (hc.block b hl.1 h1).trans hb, ho, hc.own hown (fun k hk => h2 k (ho.symm.trans hk))⟩

theorem WrTo.trans {a w w' : World} {b : Nat} {o o1 : Option Nat} {bs : List Bool} (hc : Chg (fun k => k = b ∨ some k = o) a w) (h1 : o1 = o ∨ ∃ k, o1 = some k ∧ a.heap.size ≤ k) (h : WrTo w w' b o1 bs) : WrTo a w' b o bs := by
  obtain ⟨o', hw, hc', ho'⟩ := h
  refine ⟨o', hw, hc.trans hc' ?_, ?_⟩
  · intro k hk h'
    rcases h' with h' | h'
    · exact .inl h'
    · rcases h1 with rfl | ⟨k1, rfl, hk1⟩
      · exact .inr h'
      · simp only [Option.some.injEq] at h'; omega
  · rcases ho' with rfl | ⟨k, rfl, hk⟩
    · exact h1
    · exact .inr ⟨k, rfl, Nat.le_trans hc.size hk⟩

theorem cells2 {w : World} {b : Nat} {x y : Value} {t : TypeId} (h : w.heap[b]? = some (.cells #[x, y] t (0, 0))) :
    w.cell? ⟨b, 0, none⟩ = some x ∧ w.cell? ⟨b, 1, none⟩ = some y ∧ w.frozen? ⟨b, 0, none⟩ = false ∧ w.frozen? ⟨b, 1, none⟩ = false := by
  refine ⟨?_, ?_, frozen_of_row w b 0 _ t h, frozen_of_row w b 1 _ t h⟩
  · rw [cell_of_row w b 0 _ t _ h]; rfl
  · rw [cell_of_row w b 1 _ t _ h]; rfl

theorem set2_0 {w : World} {b : Nat} {x y u : Value} {t : TypeId} (h : w.heap[b]? = some (.cells #[x, y] t (0, 0))) : (w.setCell ⟨b, 0, none⟩ u).heap[b]? = some (.cells #[u, y] t (0, 0)) := by
  rw [heap_setCell_same w b 0 _ t u h]; rfl
theorem set2_1 {w : World} {b : Nat} {x y u : Value} {t : TypeId} (h : w.heap[b]? = some (.cells #[x, y] t (0, 0))) : (w.setCell ⟨b, 1, none⟩ u).heap[b]? = some (.cells #[x, u] t (0, 0)) := by
  rw [heap_setCell_same w b 1 _ t u h]; rfl

theorem slice_of_own {w : World} {base : Nat} {e : TypeId} {v : Value} {n : Nat} {xs : List Value} (h : w.ownsRow base e 1 v n xs) (hn : 0 < n) : ∃ g cap, v = .slice (some ⟨g, 0, none⟩) n cap ∧ base ≤ g := by
  rcases h.2 with ⟨_, h0⟩ | ⟨g, cap, cur, h, hb, _⟩
  · omega
  · exact ⟨g, cap, h, hb⟩

/-- the last line of putBit's walk: one bit more, in a world in which the row already holds it -/
theorem wr_close {w w2 : World} {b g cap : Nat} {o : Option Nat} {bs : List Bool} {one : Bool}
    (hb : w2.heap[b]? = some (.cells #[.slice (some ⟨g, 0, none⟩) ((bs.length + 1 + 7) / 8) cap, .int .i64 (bs.length : Int)] 49 (0, 0)))
    (hown : w2.ownsRow (b + 1) 5 1 (.slice (some ⟨g, 0, none⟩) ((bs.length + 1 + 7) / 8) cap) ((bs.length + 1 + 7) / 8) (bv (pack (bs ++ [one]))))
    (hc : Chg (fun k => k = b ∨ some k = o) w w2) (ho : some g = o ∨ w.heap.size ≤ g) :
    WrTo w (w2.setCell ⟨b, 1, none⟩ (.int .i64 ((bs.length : Int) + 1))) b o (bs ++ [one]) := by
  have hl := hown.lt g rfl
  refine ⟨some g, ⟨.slice (some ⟨g, 0, none⟩) ((bs.length + 1 + 7) / 8) cap, (by rw [set2_1 hb]; simp), rfl, ?_⟩, hc.trans (Chg.setCell w2 ⟨b, 1, none⟩ _) (fun k _ hk => .inl hk), ?_⟩
  · have := ownsRow_setCell_below hown (a := ⟨b, 1, none⟩) (by show b < b + 1; omega) (.int .i64 ((bs.length : Int) + 1))
    simpa using this
  · rcases ho with h | h
    · exact .inl h
    · exact .inr ⟨g, rfl, h⟩

end Go.Proofs.Ythenjooffkbkpaa
