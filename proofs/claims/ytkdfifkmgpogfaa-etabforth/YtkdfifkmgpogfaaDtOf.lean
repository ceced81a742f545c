/- What the document's own dtab.Of (puncheonref11.Of) tells. -/
import Derived.Test.YtkdfifkmgpogfaaBase3
import Derived.Test.YtkdfifkmgpogfaaLgRef
import Derived.Test.YtkdfifkmgpogfaaDtRef
import Derived.Deep.RegionHeld3
namespace Go.Proofs.Ytkdfifkmgpogfaa
open Go.RowKit

/-- what Of tells -/
def DtabSays (w : World) (q : List Int) (e : Ending) (w' : World) : Prop :=
  ∃ v', e = .returned (.tuple #[v', .int .i64 (if logI (totalI q) = 0 then 1 else 0)]) ∧ (logI (totalI q) ≠ 0 → ∃ l, RdC w' v' l ∧ IsDtab (fq q) (logI (totalI q)) l) ∧ (logI (totalI q) = 0 → RdC w' v' []) ∧ Chg (fun _ => False) w w'

/-- the keys up to that of s and d have their cells -/
def DoneC (f : Nat → Nat) (R s d : Nat) (out : List Cl) : Prop := ∀ t e, (t < s ∧ e < f t) ∨ (t = s ∧ e < d) → out.getD (placeF f 256 t (f t + e)) cl0 = cellOf R t (f t + e)
theorem doneC_zero (f : Nat → Nat) (R : Nat) (out : List Cl) : DoneC f R 0 0 out := fun t e h => by omega
theorem doneC_next {f : Nat → Nat} {R s : Nat} {out : List Cl} (h : DoneC f R s (f s) out) : DoneC f R (s + 1) 0 out := fun t e ht => by
  refine h t e ?_
  by_cases hts : t = s
  · subst hts; exact .inr ⟨rfl, by omega⟩
  · exact .inl ⟨by omega, by omega⟩
theorem doneC_step {f : Nat → Nat} {R s d : Nat} {out : List Cl} (hl : out.length = sumTo f 256) (hs : s < 256) (hd : d < f s) (h : DoneC f R s d out) : DoneC f R s (d + 1) (out.set (placeF f 256 s (f s + d)) (cellOf R s (f s + d))) := fun t e ht => by
  have hp := place_room (f := f) (N := 256) hs hd
  by_cases hk : t = s ∧ e = d
  · obtain ⟨rfl, rfl⟩ := hk
    exact getD_set_self (by omega) _
  · have hte : t ≤ s ∧ e < f t := by
      rcases ht with ⟨h1, h2⟩ | ⟨rfl, h2⟩
      · exact ⟨by omega, h2⟩
      · exact ⟨Nat.le_refl _, by omega⟩
    rw [getD_set_other (fun he => hk (by
      have := place_inj (f := f) (N := 256) hs (by omega) hd hte.2 he
      exact ⟨this.1.symm, this.2.symm⟩))]
    exact h t e (by omega)
theorem doneC_all {f : Nat → Nat} {R : Nat} {out : List Cl} (hl : out.length = 2 ^ R) (h : DoneC f R 256 0 out) : IsDtab f R out := ⟨hl, fun s d hs hd => h s d (.inl ⟨hs, hd⟩)⟩

theorem Try.infoCell : (Try.prog.info? 48).map (fun i => (i.zero, i.size, i.bytes)) = some (some (.agg #[.int .u8 0, .int .i64 0, .int .i64 0]), 3, 24) := by kernel_rfl
theorem zeros_cvs (n : Nat) : (madeCells (Value.agg #[.int .u8 0, .int .i64 0, .int .i64 0]).cells (n * 3)).toList = cvs (List.replicate n cl0) := by
  have hl : (madeCells (Value.agg #[.int .u8 0, .int .i64 0, .int .i64 0]).cells (n * 3)).toList.length = n * 3 := by simp [madeCells]
  apply List.ext_getElem?
  intro i
  by_cases hi : i < n * 3
  · obtain ⟨j, r, hr, rfl⟩ : ∃ j r, r < 3 ∧ i = j * 3 + r := ⟨i / 3, i % 3, Nat.mod_lt _ (by decide), by omega⟩
    have hj : j < n := by omega
    have hg := cvs_get (List.replicate n cl0) j (by simpa using hj)
    have h0 : (List.replicate n cl0).getD j cl0 = cl0 := by simp [List.getD_eq_getElem?_getD, hj]
    rw [h0] at hg
    have hm : (madeCells (Value.agg #[.int .u8 0, .int .i64 0, .int .i64 0]).cells (n * 3)).toList[j * 3 + r]? = some ((Value.agg #[.int .u8 0, .int .i64 0, .int .i64 0]).cells[(j * 3 + r) % 3]!) := by
      simp only [madeCells, Array.toList_map, List.getElem?_map, Array.toList_range, List.getElem?_range hi, Option.map_some]
      rfl
    rw [hm]
    obtain rfl | rfl | rfl : r = 0 ∨ r = 1 ∨ r = 2 := by omega
    · rw [show (j * 3 + 0) % 3 = 0 by omega]; exact hg.1.symm
    · rw [show (j * 3 + 1) % 3 = 1 by omega]; exact hg.2.1.symm
    · rw [show (j * 3 + 2) % 3 = 2 by omega]; exact hg.2.2.symm
  · rw [List.getElem?_eq_none (by rw [hl]; omega), List.getElem?_eq_none (by rw [cvs_length]; simp; omega)]
theorem RowC.of_own {w : World} {base g n : Nat} {l : List Cl} (h : w.ownsRow base 48 3 (.slice (some ⟨g, 0, none⟩) n n) n (cvs l)) : RowC w g 48 l := by
  rcases h.2 with ⟨h0, _⟩ | ⟨g', cap, cur, he, _, hg, _, _, hs, ht⟩
  · simp at h0
  · simp only [Value.slice.injEq, Option.some.injEq, Addr.mk.injEq, and_true, true_and] at he
    obtain ⟨rfl, rfl⟩ := he
    have : cur = (cvs l).toArray := by
      apply Array.ext'
      rw [← ht, List.take_of_length_le (by rw [Array.length_toList, hs]; exact Nat.le_refl _)]
    rw [this] at hg
    exact hg
theorem wpList_make_cells {ops : Array Oper} {rest : List Oper} {o : Oper} {a : Act} {w : World} {Q : Exit → Act → World → Prop} (hg : o.guard = none) (l c : Operand) (hop : o.op = Op.makeSlice 42 l c)
    (L C : Int) (n : Nat) (hl : a.eval l = .int .i64 L) (hc : a.eval c = .int .i64 C) (hL : L = (n : Int)) (hC : C = (n : Int)) (hn : n < 100000000000) (Z : List Cl) (hZ : Z = List.replicate n cl0)
    (hK : ∀ w', RowC w' w.heap.size 48 Z → Chg (fun _ => False) w w' → wpList Try.prog ops Q rest (a.put o.dst (.slice (some ⟨w.heap.size, 0, none⟩) n n)) w') : wpList Try.prog ops Q (o :: rest) a w := by
  obtain ⟨i, hi, hz0, hz1, hz2⟩ := info_parts Try.infoCell
  refine wpList_make_full w hg l c 42 hop w.heap.size 48 i (.agg #[.int .u8 0, .int .i64 0, .int .i64 0]) 3 Try.underlying42 hi hz0 hz1 .i64 .i64 L C n hl hc hL hC (by rw [hz2]; omega) (by unfold maxLen; omega) (Nat.le_refl _) ?_
  intro w1 h1 h2
  rw [zeros_cvs, ← hZ] at h1
  exact hK w1 (RowC.of_own h1) ((Chg.of_grown h2).mono fun k _ hk => by simp at hk)

/-- the same, in memory that is new -/
def DtabOwn (w : World) (q : List Int) (e : Ending) (w' : World) : Prop :=
  ∃ v', e = .returned (.tuple #[v', .int .i64 (if logI (totalI q) = 0 then 1 else 0)]) ∧ (logI (totalI q) ≠ 0 → ∃ l g n, v' = .slice (some ⟨g, 0, none⟩) l.length n ∧ w.heap.size ≤ g ∧ RowC w' g 48 l ∧ IsDtab (fq q) (logI (totalI q)) l) ∧ (logI (totalI q) = 0 → RdC w' v' []) ∧ Chg (fun _ => False) w w'

end Go.Proofs.Ytkdfifkmgpogfaa
