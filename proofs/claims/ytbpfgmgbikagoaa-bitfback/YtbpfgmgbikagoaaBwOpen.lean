/- An argument of type []Part, opened. -/
import Derived.Test.YtbpfgmgbikagoaaBwParts
import Derived.Test.YtbpfgmgbikagoaaOpGen
import Derived.WalkKit
import Derived.ProofKit
import Derived.OpenShut
import Derived.ShutString
import Derived.ChangeOld
import Derived.Below
import Derived.Deep.SlicePairs
namespace Go.Proofs.Ytbpfgmgbikagoaa
open Go.ChangeShapes Go.WideShapes Go.ChangeAt Go.RowKit Go.Deep

theorem open_parts {H : Type} {enc : TypeId × Value → H} {W : World} {base : Nat} {spare : Nat → Bool} {held : Bool} {a : Option Addr} {len cap : Nat} {d : DataW H} {p : List MemPlace}
    (h : DataW.Trod enc Try.prog W base spare held 36 (.slice a len cap) d p) : ∃ ps, RdP W (.slice a len cap) ps := by
  obtain ⟨fuel, hf⟩ := h
  rcases open_slice_pairs Try.underlying36 Try.underlying41 (by kernel_rfl) rfl rfl (by kernel_rfl) (by kernel_rfl) hf with ⟨hcs, _⟩ | ⟨x, l, c, m, n, V0, V1, D0, D1, P0, P1, hcs, _, hl, _, hm, _, hcell⟩
  · simp [Value.cells] at hcs
    obtain ⟨rfl, rfl, rfl⟩ := hcs
    exact ⟨[], ⟨none, 0, rfl, fun h => by simp at h⟩, fun g off n cap hv => by simp at hv, by simp⟩
  · simp [Value.cells] at hcs
    obtain ⟨rfl, rfl, rfl⟩ := hcs
    have hlm : len ≤ m := by rw [hm]; split <;> omega
    have each : ∀ i, i < m → ∃ (q : Nat × Int), W.cell? (x.add (i * 2)) = some (.int .u32 (q.1 : Int)) ∧ W.cell? (x.add (i * 2 + 1)) = some (.int .i64 q.2) ∧ q.1 < 4294967296 := by
      intro i hi
      obtain ⟨c0, c1, t0, t1⟩ := hcell i hi
      obtain ⟨u, e0, _, wu⟩ := DataW.trod_int Try.underlying29 t0
      obtain ⟨v, e1, _, wv⟩ := DataW.trod_int Try.underlying3 t1
      simp at e0 e1
      obtain ⟨hu0, hu1⟩ := wf_u32 wu
      refine ⟨(u.toNat, v), ?_, by rw [c1, e1], by omega⟩
      rw [c0, e0, Int.toNat_of_nonneg hu0]
    obtain ⟨q, hq⟩ := choose_lt each
    refine ⟨(List.range len).map q, ⟨some x, cap, by simp, fun h => ?_⟩, fun g off n2 cap2 hv i hi => ?_, fun y hy => ?_⟩
    · have := (hq 0 (by simp at h; omega)).1
      obtain ⟨g, off, rfl⟩ := spot_none (by simpa using this)
      exact ⟨g, off, rfl⟩
    · simp at hi
      simp only [Value.slice.injEq, Option.some.injEq] at hv
      obtain ⟨rfl, _, _⟩ := hv
      have hh := hq i (by omega)
      rw [add_lit, add_lit] at hh
      simp only [List.getElem_map, List.getElem_range]
      exact ⟨hh.1, by rw [Nat.add_assoc]; exact hh.2.1⟩
    · simp only [List.mem_map, List.mem_range] at hy
      obtain ⟨i, hi, rfl⟩ := hy
      exact (hq i (by omega)).2.2

end Go.Proofs.Ytbpfgmgbikagoaa
