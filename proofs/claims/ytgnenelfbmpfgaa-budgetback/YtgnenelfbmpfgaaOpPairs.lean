/- An argument of type []Pair, opened. -/
import Derived.Test.YtgnenelfbmpfgaaRdPairs
import Derived.Test.YtgnenelfbmpfgaaBwOpen
namespace Go.Proofs.Ytgnenelfbmpfgaa
open Go.ChangeShapes Go.WideShapes Go.ChangeAt Go.RowKit Go.Deep

theorem open_pairs {H : Type} {enc : TypeId × Value → H} {W : World} {base : Nat} {spare : Nat → Bool} {held : Bool} {a : Option Addr} {len cap : Nat} {d : DataW H} {p : List MemPlace}
    (h : DataW.Trod enc Try.prog W base spare held 22 (.slice a len cap) d p) : ∃ ps, RdPr W (.slice a len cap) ps ∧ ∀ q ∈ ps, pairFits q := by
  obtain ⟨fuel, hf⟩ := h
  rcases open_slice_pairs Try.underlying22 Try.underlying29 (by kernel_rfl) rfl rfl (by kernel_rfl) (by kernel_rfl) hf with ⟨hcs, _⟩ | ⟨x, l, c, m, n, V0, V1, D0, D1, P0, P1, hcs, _, hl, _, hm, _, hcell⟩
  · simp [Value.cells] at hcs
    obtain ⟨rfl, rfl, rfl⟩ := hcs
    exact ⟨[], .inl ⟨rfl, none, 0, rfl⟩, by simp⟩
  · simp [Value.cells] at hcs
    obtain ⟨rfl, rfl, rfl⟩ := hcs
    have hlm : len ≤ m := by rw [hm]; split <;> omega
    have each : ∀ i, i < m → ∃ (q : Int × Int), W.cell? (x.add (i * 2)) = some (.int .i64 q.1) ∧ W.cell? (x.add (i * 2 + 1)) = some (.int .i64 q.2) ∧ pairFits q := by
      intro i hi
      obtain ⟨c0, c1, t0, t1⟩ := hcell i hi
      obtain ⟨u, e0, _, wu⟩ := DataW.trod_int Try.underlying3 t0
      obtain ⟨v, e1, _, wv⟩ := DataW.trod_int Try.underlying3 t1
      simp at e0 e1
      exact ⟨(u, v), by rw [c0, e0], by rw [c1, e1], bounds_i64 wu, bounds_i64 wv⟩
    obtain ⟨q, hq⟩ := choose_lt each
    have hlen : ((List.range len).map q).length = len := by simp
    refine ⟨(List.range len).map q, ?_, fun y hy => ?_⟩
    · by_cases h0 : len = 0
      · subst h0; exact .inl ⟨rfl, _, _, rfl⟩
      · have h00 := (hq 0 (by omega)).1
        obtain ⟨g, off, rfl⟩ := spot_none (by simpa using h00)
        refine .inr ⟨g, off, cap, by rw [hlen], fun j hj => ?_⟩
        rw [hlen] at hj
        have hh := hq j (by omega)
        rw [add_lit, add_lit] at hh
        have e : ((List.range len).map q).getD j (0, 0) = q j := by simp [List.getD_eq_getElem?_getD, hj]
        rw [e]
        exact ⟨hh.1, by rw [Nat.add_assoc]; exact hh.2.1⟩
    · simp only [List.mem_map, List.mem_range] at hy
      obtain ⟨i, hi, rfl⟩ := hy
      exact (hq i (by omega)).2.2

end Go.Proofs.Ytgnenelfbmpfgaa
