/- append(s, x...): cells x that are read, onto a row of cells of the call's own; cells that may be written. -/
import Derived.Test.YtkdfifkmgpogfaaDtOf
import Derived.Test.YtkdfifkmgpogfaaBase3
namespace Go.Proofs.Ytkdfifkmgpogfaa
open Go.RowKit

theorem RdC.news {w : World} {a : Addr} {n cap : Nat} {xs : List Cl} (h : RdC w (.slice (some a) n cap) xs) : ∀ j u, (cvs xs)[j]? = some u → w.cell? (a.add j) = some u := by
  intro j u hu
  rcases h with ⟨rfl, _⟩ | ⟨g, off, cap', he, hc⟩
  · simp [cvs] at hu
  · simp only [Value.slice.injEq, Option.some.injEq] at he
    obtain ⟨rfl, rfl, rfl⟩ := he
    have hj : j < xs.length * 3 := by rw [← cvs_length]; exact (List.getElem?_eq_some_iff.1 hu).1
    obtain ⟨i, r, hr, rfl⟩ : ∃ i r, r < 3 ∧ j = i * 3 + r := ⟨j / 3, j % 3, Nat.mod_lt _ (by decide), by omega⟩
    have hg := cvs_get xs i (by omega)
    have hcc := hc i (by omega)
    rw [add_lit]
    obtain rfl | rfl | rfl : r = 0 ∨ r = 1 ∨ r = 2 := by omega
    · have := hg.1; rw [Nat.add_zero] at hu ⊢; rw [this] at hu; rw [← Option.some.inj hu]; exact hcc.1
    · rw [hg.2.1] at hu; rw [← Option.some.inj hu, ← Nat.add_assoc]; exact hcc.2.1
    · rw [hg.2.2] at hu; rw [← Option.some.inj hu, ← Nat.add_assoc]; exact hcc.2.2
theorem cvs_one (xs : List Cl) : ∀ u ∈ cvs xs, u.oneCell' = true := by
  intro u hu
  simp only [cvs, List.mem_flatMap, cv] at hu
  obtain ⟨x, _, hx⟩ := hu
  simp at hx
  rcases hx with rfl | rfl | rfl <;> rfl
theorem run_appendC_nil (w : World) (ty : TypeId) (base n c : Nat) (v : Value) (ys : List Value) (hown : w.ownsRow base 48 3 v n ys) :
    (Builtin.append_ #[42, 42] ty #[v, .slice none 0 c]).run Try.prog w = .ok v w := by
  obtain ⟨i, hi, hz0, hz1, hz2⟩ := info_parts Try.infoCell
  rcases hown.2 with ⟨rfl, _⟩ | ⟨g, cap, cur, rfl, _, hg, hn, _⟩
  · simp [Builtin.append_, run_underlying Try.underlying42, sizeOf, typeInfo, hi, Builtin.lenOf, Builtin.firstCells]
  · simp [Builtin.append_, run_underlying Try.underlying42, sizeOf, typeInfo, hi, Builtin.lenOf, Builtin.firstCells, hn, storeCells]

theorem wp_append_cells {o : Oper} {a : Act} {w : World} {K : Act → World → Prop} {Q : Exit → Act → World → Prop} (s x : Operand)
    (ho : o.op = .call { callee := .builtin .append, args := #[s, x], argTypes := #[42, 42] })
    (base : Nat) (v : Value) (ys : List Cl) (hs : a.eval s = v) (hown : w.ownsRow base 48 3 v ys.length (cvs ys))
    (u : Value) (xs : List Cl) (hx : a.eval x = u) (hr : RdC w u xs) (hb : base ≤ w.heap.size) (hl : ys.length + xs.length < 10000000000)
    (h : ∀ v' w', w'.ownsRow base 48 3 v' (ys ++ xs).length (cvs (ys ++ xs)) → Chg (fun k => some k = v.ownBlock) w w' → K (a.put o.dst v') w') : o.wp Try.prog a w K Q := by
  obtain ⟨i, hi, hz0, hz1, hz2⟩ := info_parts Try.infoCell
  obtain ⟨ao, cap, hu⟩ := hr.form
  subst hu
  cases ao with
  | none =>
    have h0 : xs = [] := by
      rcases hr with ⟨h0, _⟩ | ⟨g, off, cap', he, _⟩
      · exact h0
      · simp at he
    subst h0
    have hrun := run_appendC_nil w o.type base ys.length cap v (cvs ys) hown
    rw [List.length_nil] at hx
    unfold Oper.wp execOp
    simp only [ho, resolve, invoke, builtin, Sem.run_bind, Sem.run_pure, Result.andThen_ok, List.map_toArray, List.map_cons, List.map_nil, hs, hx, hrun]
    exact h v w (by rw [List.append_nil]; exact hown) (Chg.refl _ _)
  | some ad =>
    refine wp_append_own w s x 42 ho base 48 i (.agg #[.int .u8 0, .int .i64 0, .int .i64 0]) 3 24 Try.underlying42 hi hz0 hz1 hz2 rfl (by decide) v ys.length (cvs ys) hs hown ad xs.length cap (cvs xs) hx (by rw [cvs_length]) (RdC.news hr) (cvs_one xs) (by unfold maxLen; omega) (by omega) hb fun v' w' h2 h3 _ => ?_
    exact h v' w' (by rw [List.length_append, cvs_append]; exact h2) (Chg.of_grown h3)

theorem wpList_append_cells {ops : Array Oper} {rest : List Oper} {o : Oper} {a : Act} {w : World} {Q : Exit → Act → World → Prop} (hgd : o.guard = none) (s x : Operand)
    (ho : o.op = .call { callee := .builtin .append, args := #[s, x], argTypes := #[42, 42] })
    (base : Nat) (v : Value) (ys : List Cl) (hs : a.eval s = v) (hown : w.ownsRow base 48 3 v ys.length (cvs ys))
    (u : Value) (xs : List Cl) (hx : a.eval x = u) (hr : RdC w u xs) (hb : base ≤ w.heap.size) (hl : ys.length + xs.length < 10000000000)
    (h : ∀ v' w', w'.ownsRow base 48 3 v' (ys ++ xs).length (cvs (ys ++ xs)) → Chg (fun k => some k = v.ownBlock) w w' → wpList Try.prog ops Q rest (a.put o.dst v') w') :
    wpList Try.prog ops Q (o :: rest) a w :=
  wpList_plain hgd fun _ hK => wp_append_cells s x ho base v ys hs hown u xs hx hr hb hl fun v' w' h2 h3 => hK _ _ (h v' w' h2 h3)

/-- The value v is a slice of the cells l, in memory from block base on, that may be written. -/
def OwnC (w : World) (base : Nat) (v : Value) (l : List Cl) : Prop :=
  ∃ g off cap, v = .slice (some ⟨g, off, none⟩) l.length cap ∧ base ≤ g ∧ g < w.heap.size ∧ (∀ j, j < l.length →
    w.cell? ⟨g, off + j * 3, none⟩ = some (.int .u8 ((l.getD j cl0).Sym : Int)) ∧ w.cell? ⟨g, off + j * 3 + 1, none⟩ = some (.int .i64 (l.getD j cl0).Bits) ∧ w.cell? ⟨g, off + j * 3 + 2, none⟩ = some (.int .i64 (l.getD j cl0).Base)) ∧ ∀ j, w.frozen? ⟨g, off + j, none⟩ = false
theorem OwnC.rd {w : World} {base : Nat} {v : Value} {l : List Cl} (h : OwnC w base v l) : RdC w v l := by
  obtain ⟨g, off, cap, rfl, _, _, hc, _⟩ := h
  exact .inr ⟨g, off, cap, rfl, hc⟩
theorem OwnC.kept {S : Nat → Prop} {w w' : World} {base : Nat} {v : Value} {l : List Cl} (h : OwnC w base v l) (hc : Chg S w w') (hS : ∀ k, v.ownBlock = some k → ¬ S k) : OwnC w' base v l := by
  obtain ⟨g, off, cap, rfl, hb, hl, hcell, hf⟩ := h
  have hblk := hc.block g hl (hS g rfl)
  refine ⟨g, off, cap, rfl, hb, Nat.lt_of_lt_of_le hl hc.size, fun j hj => ?_, fun j => ?_⟩
  · rw [World.cell?_of_block (w := w) (a := ⟨g, off + j * 3, none⟩) hblk, World.cell?_of_block (w := w) (a := ⟨g, off + j * 3 + 1, none⟩) hblk, World.cell?_of_block (w := w) (a := ⟨g, off + j * 3 + 2, none⟩) hblk]; exact hcell j hj
  · have := hf j
    unfold World.frozen? at this ⊢
    simp only [hblk]; exact this
theorem OwnC.of_own {w : World} {base : Nat} {v : Value} {l : List Cl} (h : w.ownsRow base 48 3 v l.length (cvs l)) (h0 : 0 < l.length) : OwnC w base v l := by
  rcases h.2 with ⟨rfl, h1⟩ | ⟨g, cap, cur, rfl, hb, hg, h3⟩
  · omega
  · refine ⟨g, 0, cap, rfl, hb, lt_of_block hg, fun j hj => ?_, fun j => frozen_of_row w g _ _ _ hg⟩
    have hh := cvs_get l j hj
    rw [Nat.zero_add, h.cellAt (j * 3) (by omega), h.cellAt (j * 3 + 1) (by omega), h.cellAt (j * 3 + 2) (by omega)]
    exact hh
theorem getD_setC (l : List Cl) (i j : Nat) (c : Cl) (hi : i < l.length) : (l.set i c).getD j cl0 = if i = j then c else l.getD j cl0 := by
  by_cases h : i = j
  · subst h; rw [if_pos rfl, getD_set_self hi]
  · rw [if_neg h, getD_set_other h]
theorem OwnC.storeBase {w : World} {base g off n cap : Nat} {l : List Cl} (h : OwnC w base (.slice (some ⟨g, off, none⟩) n cap) l) (i : Nat) (hi : i < l.length) (z : Int) :
    OwnC (w.setCell ⟨g, off + i * 3 + 2, none⟩ (.int .i64 z)) base (.slice (some ⟨g, off, none⟩) n cap) (l.set i ⟨(l.getD i cl0).Sym, (l.getD i cl0).Bits, z⟩) := by
  obtain ⟨g', off', cap', he, hb, hl, hcell, hf⟩ := h
  simp only [Value.slice.injEq, Option.some.injEq, Addr.mk.injEq] at he
  obtain ⟨⟨rfl, rfl, -⟩, rfl, rfl⟩ := he
  refine ⟨g, off, cap, by simp, hb, by simpa [World.setCell] using hl, fun j hj => ?_, fun j => ?_⟩
  · rw [List.length_set] at hj
    have hcj := hcell j hj
    rw [getD_setC _ _ _ _ hi, World.cell?_setCell_other _ _ _ _ (fun hh => by simp only [Addr.mk.injEq] at hh; omega), World.cell?_setCell_other _ _ _ _ (fun hh => by simp only [Addr.mk.injEq] at hh; omega)]
    by_cases hij : i = j
    · subst hij
      rw [if_pos rfl, World.cell?_setCell_same _ _ _ hcj.2.2]
      exact ⟨hcj.1, hcj.2.1, rfl⟩
    · rw [if_neg hij, World.cell?_setCell_other _ _ _ _ (fun hh => by simp only [Addr.mk.injEq] at hh; omega)]
      exact hcj
  · rw [World.frozen?_setCell]; exact hf j
theorem OwnC.storeBits {w : World} {base g off n cap : Nat} {l : List Cl} (h : OwnC w base (.slice (some ⟨g, off, none⟩) n cap) l) (i : Nat) (hi : i < l.length) (z : Int) :
    OwnC (w.setCell ⟨g, off + i * 3 + 1, none⟩ (.int .i64 z)) base (.slice (some ⟨g, off, none⟩) n cap) (l.set i ⟨(l.getD i cl0).Sym, z, (l.getD i cl0).Base⟩) := by
  obtain ⟨g', off', cap', he, hb, hl, hcell, hf⟩ := h
  simp only [Value.slice.injEq, Option.some.injEq, Addr.mk.injEq] at he
  obtain ⟨⟨rfl, rfl, -⟩, rfl, rfl⟩ := he
  refine ⟨g, off, cap, by simp, hb, by simpa [World.setCell] using hl, fun j hj => ?_, fun j => ?_⟩
  · rw [List.length_set] at hj
    have hcj := hcell j hj
    rw [getD_setC _ _ _ _ hi, World.cell?_setCell_other _ _ _ _ (fun hh => by simp only [Addr.mk.injEq] at hh; omega), World.cell?_setCell_other (a := ⟨g, off + i * 3 + 1, none⟩) (b := ⟨g, off + j * 3 + 2, none⟩) _ _ (fun hh => by simp only [Addr.mk.injEq] at hh; omega)]
    by_cases hij : i = j
    · subst hij
      rw [if_pos rfl, World.cell?_setCell_same _ _ _ hcj.2.1]
      exact ⟨hcj.1, rfl, hcj.2.2⟩
    · rw [if_neg hij, World.cell?_setCell_other _ _ _ _ (fun hh => by simp only [Addr.mk.injEq] at hh; omega)]
      exact hcj
  · rw [World.frozen?_setCell]; exact hf j

end Go.Proofs.Ytkdfifkmgpogfaa
