/- For ModelOrder: append of bytes in a region that draws; b[k:]. -/
import Derived.Test.YthghlfghdmifoaaMdFits
namespace Go.Proofs.Ythghlfghdmifoaa
open Go.RowKit

theorem step_append_bytes {ops : Array Oper} {o : Oper} {a : Act} {W : World} {K : Act → World → Prop} {Q : Exit → Act → World → Prop} {E : Prop} (hgd : o.guard = none) (s x : Operand)
    (ho : o.op = .call { callee := .builtin .append, args := #[s, x], argTypes := #[22, 22] })
    (base : Nat) (v : Value) (ys : List Nat) (hs : a.eval s = v) (hown : W.ownsRow base 5 1 v ys.length (bv ys))
    (u : Value) (xs : List Nat) (hx : a.eval x = u) (hr : RdB W u xs) (hb : base ≤ W.heap.size) (hl : ys.length + xs.length < 100000000000)
    (h : ∀ v' w', w'.ownsRow base 5 1 v' (ys ++ xs).length (bv (ys ++ xs)) → Chg (fun k => some k = v.ownBlock) W w' → K (a.put o.dst v') w') :
    if Region.wanted o (yielded ops a.tmps) = true then Oper.wp Try.prog o a W K Q else E := by
  have hw : Region.wanted o (yielded ops a.tmps) = true := by simp [Region.wanted, hgd]
  rw [if_pos hw]
  exact wp_append_bytes s x ho base v ys hs hown u xs hx hr hb hl h

/-- a model's block is no row of bytes -/
theorem Mb.row {w w' : World} {g : Nat} {log : Int} {one : Bool} {cv : Value} {B n : Nat} {v : Value} {xs : List Value} (h : Mb w g log one cv) (ho : w.ownsRow B 5 1 v n xs) (hc : Chg (fun k => some k = v.ownBlock) w w') : Mb w' g log one cv := by
  refine h.kept hc fun he => ?_
  rcases ho.2 with ⟨rfl, _⟩ | ⟨g', cap, cur, rfl, _, hg, _⟩
  · cases he
  · simp only [Value.ownBlock, Option.some.injEq] at he
    subst he
    have := hg.symm.trans h
    simp at this
theorem own_roomOk {w : World} {B n : Nat} {v : Value} {xs : List Value} (ho : w.ownsRow B 5 1 v n xs) : RoomOk v := by
  rcases ho.2 with ⟨rfl, _⟩ | ⟨g', cap, cur, rfl, _, hg, hn, _⟩
  · exact RoomOk.of (Nat.le_refl _)
  · exact RoomOk.of hn
theorem own_chg {W w w' : World} {v : Value} {n : Nat} {xs : List Value} (h : Chg (fun _ => False) W w) (ho : w.ownsRow W.heap.size 5 1 v n xs) (hc : Chg (fun k => some k = v.ownBlock) w w') : Chg (fun _ => False) W w' :=
  h.trans hc fun k hk he => by have := (ho.lt k he.symm).1; omega

/-- b[q:] -/
theorem mslice_from {w : World} {ao : Option Addr} {cap q : Nat} {xs : List Nat} (h : RdB w (.slice ao xs.length cap) xs) (hq : q ≤ xs.length) (hcap : xs.length ≤ cap) :
    ∃ ao2 c2, (∀ W : World, (Instr.slice 22 (.slice ao xs.length cap) (some (.int .i64 (q : Int))) none none).run Try.prog W = .ok (.slice ao2 (xs.length - q) c2) W) ∧ ∀ W, RdB W (.slice ao xs.length cap) xs → RdB W (.slice ao2 (xs.length - q) c2) (xs.drop q) := by
  refine ⟨if cap = q then ao else ao.map (·.add q), cap - q, fun W => ?_, fun W h => ?_⟩
  · have hs : (sizeOf (Try.prog.elem 22)).run Try.prog W = .ok 1 W := by kernel_rfl
    rw [run_slice_l W 22 ao xs.length cap (by kernel_rfl) .i64 (q : Int) (by omega) (by omega), hs]
    simp [Result.andThen, sliced]
  · by_cases hz : xs.length = q
    · exact .inl ⟨by rw [← hz]; simp, _, _, by rw [hz, Nat.sub_self]⟩
    · rw [if_neg (by omega)]
      rcases h with ⟨h0, _⟩ | ⟨g, off, cap', he, hc⟩
      · rw [h0] at hq hz; simp at hq hz; omega
      · simp only [Value.slice.injEq] at he
        obtain ⟨rfl, -, -⟩ := he
        refine .inr ⟨g, off + q, cap - q, by simp [Addr.add], fun j hj => ?_⟩
        rw [List.length_drop] at hj
        rw [Nat.add_assoc, hc (q + j) (by omega)]
        simp only [List.getD_eq_getElem?_getD, List.getElem?_drop]

end Go.Proofs.Ythghlfghdmifoaa
