/- Several Writers side by side: those that aren't put into stay as they were. -/
import Derived.Test.YthenjooffkbkpaaBwParts
namespace Go.Proofs.Ythenjooffkbkpaa
open Go.RowKit

/-- two Writers that share no block -/
def Dj (b : Nat) (o : Option Nat) (b' : Nat) (o' : Option Nat) : Prop := b ≠ b' ∧ o ≠ some b' ∧ o' ≠ some b ∧ (o = none ∨ o ≠ o')

theorem Dj.symm {b b' : Nat} {o o' : Option Nat} (h : Dj b o b' o') : Dj b' o' b o := by
  obtain ⟨h1, h2, h3, h4⟩ := h
  refine ⟨fun h => h1 h.symm, h3, h2, ?_⟩
  rcases h4 with h | h
  · cases o' with
    | none => exact .inl rfl
    | some k => exact .inr (by rw [h]; simp)
  · exact .inr fun e => h e.symm

theorem Dj.step {w : World} {b b' : Nat} {o o1 o' : Option Nat} {ys : List Bool} (h : Dj b o b' o') (hy : Wr w b' o' ys) (h1 : o1 = o ∨ ∃ k, o1 = some k ∧ w.heap.size ≤ k) : Dj b o1 b' o' := by
  rcases h1 with rfl | ⟨k, rfl, hk⟩
  · exact h
  · have hl := hy.lt
    refine ⟨h.1, fun e => ?_, h.2.2.1, .inr fun e => ?_⟩
    · simp only [Option.some.injEq] at e; omega
    · have := (hl.2 k e.symm).2; omega

theorem Dj.keep {w w' : World} {b b' : Nat} {o o' : Option Nat} {ys : List Bool} (h : Dj b o b' o') (hy : Wr w b' o' ys) (hc : Chg (fun k => k = b ∨ some k = o) w w') : Wr w' b' o' ys := by
  refine hy.kept hc ?_ ?_
  · rintro (h' | h')
    · exact h.1 h'.symm
    · exact h.2.1 h'.symm
  · rintro k hk (h' | h')
    · exact h.2.2.1 (by rw [hk, h'])
    · rcases h.2.2.2 with h4 | h4
      · rw [h4] at h'; cases h'
      · exact h4 (by rw [hk, h'])

/-- all of it lies from B on -/
def Above (B b : Nat) (o : Option Nat) : Prop := B ≤ b ∧ ∀ k, o = some k → B ≤ k

theorem Above.mono {B B' b : Nat} {o : Option Nat} (h : Above B b o) (hB : B' ≤ B) : Above B' b o := ⟨Nat.le_trans hB h.1, fun k hk => Nat.le_trans hB (h.2 k hk)⟩

theorem Above.step {w : World} {B b : Nat} {o o1 : Option Nat} (h : Above B b o) (hs : B ≤ w.heap.size) (h1 : o1 = o ∨ ∃ k, o1 = some k ∧ w.heap.size ≤ k) : Above B b o1 := by
  rcases h1 with rfl | ⟨k, rfl, hk⟩
  · exact h
  · exact ⟨h.1, fun j hj => by simp only [Option.some.injEq] at hj; omega⟩

theorem Dj.of_above {w : World} {b b' : Nat} {o o' : Option Nat} {xs : List Bool} (hx : Wr w b o xs) (h : Above w.heap.size b' o') : Dj b o b' o' := by
  have hl := hx.lt
  refine ⟨by have := h.1; omega, fun e => by have := (hl.2 _ e).2; have := h.1; omega, fun e => by have := h.2 _ e; omega, ?_⟩
  cases o with
  | none => exact .inl rfl
  | some k => exact .inr fun e => by have := (hl.2 k rfl).2; have := h.2 k e.symm; omega

theorem Chg.up {w w1 w2 : World} {b : Nat} {o : Option Nat} (h : Chg (fun _ => False) w w1) (h2 : Chg (fun k => k = b ∨ some k = o) w1 w2) (ha : Above w.heap.size b o) : Chg (fun _ => False) w w2 :=
  h.trans h2 fun k hk hx => by
    rcases hx with hx | hx
    · have := ha.1; omega
    · have := ha.2 k hx.symm; omega

theorem Chg.next {w w1 w2 : World} (h : Chg (fun _ => False) w w1) (h2 : Chg (fun _ => False) w1 w2) : Chg (fun _ => False) w w2 := h.trans h2 fun _ _ h => h

/-- append at an operation that stands under a guard which says yes -/
theorem wpList_append_want {P : Program} {ops : Array Oper} {rest : List Oper} {o : Oper} {a : Act} {w : World} {Q : Exit → Act → World → Prop} (s x : Operand) (t : TypeId)
    (ho : o.op = .call { callee := .builtin .append, args := #[s, x], argTypes := #[t, t] })
    (base : Nat) (e : TypeId) (i : TypeInfo) (z : Value) (size bytes : Nat) (ht : P.underlying t = some (.slice e)) (hi : P.info? e = some i) (hz : i.zero = some z)
    (hsize : i.size = size) (hby : i.bytes = bytes) (hzs : z.cells.size = size) (hsz : 0 < size)
    (v : Value) (n : Nat) (xs : List Value) (hs : a.eval s = v) (hown : w.ownsRow base e size v n xs)
    (ad : Addr) (m c : Nat) (news : List Value) (hx : a.eval x = .slice (some ad) m c) (hl : news.length = m * size) (hnews : ∀ j u, news[j]? = some u → w.cell? (ad.add j) = some u) (h1 : ∀ u ∈ news, u.oneCell' = true)
    (hm : 0 < m) (h63 : n + m ≤ maxLen) (hbytes : (n + m) * bytes ≤ 140737488355328) (hbase : base ≤ w.heap.size)
    (hw : Region.wanted o (yielded ops a.tmps) = true)
    (h : ∀ g cap w', w'.ownsRow base e size (.slice (some ⟨g, 0, none⟩) (n + m) cap) (n + m) (xs ++ news) → w.grownBy w' v.ownBlock → (v.ownBlock = some g ∨ g = w.heap.size) → wpList P ops Q rest (a.put o.dst (.slice (some ⟨g, 0, none⟩) (n + m) cap)) w') :
    wpList P ops Q (o :: rest) a w :=
  BigFrame.wpList_want hw fun _ hK => wp_append_lies w s x t ho base e i z size bytes ht hi hz hsize hby hzs hsz v n xs hs hown ad m c news hx hl hnews h1 hm h63 hbytes hbase _ rfl fun g cap w' h2 h3 h4 _ => hK _ _ (h g cap w' h2 h3 h4)

end Go.Proofs.Ythenjooffkbkpaa
