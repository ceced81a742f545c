/- Texts that other texts of this claim rest on, one behind the other (MdRd BwParts BwMany BfRead ApBytes ApInts CxRef MdRef MdRefB HsHist HpMath HpA HpAB NqBase NqMath NqHeap NqSwap NqDiv NqOps). -/
import Derived.Test.YthghlfghdmifoaaBase1
import Derived.BigQuiet
import Derived.Deep.RegionHeld3
import Derived.Handy
import Derived.StillTailTactics
import Derived.BigRegion
import Derived.WalkSmall
import Derived.OneCell
import Derived.Deep.AppendLies
import Derived.Deep.RegionLaw
/- Lists of lists of numbers, and models, in memory. -/
namespace Go.Proofs.Ythghlfghdmifoaa
open Go.RowKit

/-- The value v is a slice of the lists L. -/
def RdLL (w : World) (v : Value) (L : List (List Int)) : Prop :=
  (L = [] ∧ ∃ ao c, v = .slice ao 0 c) ∨ ∃ g off cap, v = .slice (some ⟨g, off, none⟩) L.length cap ∧ ∀ j, j < L.length → ∃ u, w.cell? ⟨g, off + j, none⟩ = some u ∧ RdIr w u (L.getD j [])
theorem RdLL.form {w : World} {v : Value} {L : List (List Int)} (h : RdLL w v L) : ∃ ao cap, v = .slice ao L.length cap := by
  rcases h with ⟨rfl, ao, c, rfl⟩ | ⟨g, off, cap, rfl, _⟩
  · exact ⟨ao, c, rfl⟩
  · exact ⟨_, cap, rfl⟩
theorem RdLL.room {w : World} {ao : Option Addr} {n cap : Nat} {L : List (List Int)} (h : RdLL w (.slice ao n cap) L) (j : Nat) (hj : j < L.length) : ∃ g off u, ao = some ⟨g, off, none⟩ ∧ w.cell? ⟨g, off + j, none⟩ = some u ∧ RdIr w u (L.getD j []) := by
  rcases h with ⟨h0, _⟩ | ⟨g, off, cap', he, hc⟩
  · rw [h0] at hj; simp at hj
  · simp only [Value.slice.injEq] at he
    obtain ⟨u, h1, h2⟩ := hc j hj
    exact ⟨g, off, u, he.1, h1, h2⟩
theorem RdLL.at {w : World} {ao : Option Addr} {n cap : Nat} {L : List (List Int)} (h : RdLL w (.slice ao n cap) L) (j : Nat) (hj : j < L.length) : ∃ g off u, ao = some ⟨g, off, none⟩ ∧ w.cell? ⟨g, off + j, none⟩ = some u ∧ RdI w u (L.getD j []) := by
  obtain ⟨g, off, u, h1, h2, h3⟩ := h.room j hj
  exact ⟨g, off, u, h1, h2, h3.1⟩
theorem RdLL.kept {w w' : World} {v : Value} {L : List (List Int)} (h : RdLL w v L) (hc : Chg (fun _ => False) w w') : RdLL w' v L := by
  rcases h with h | ⟨g, off, cap, rfl, hcell⟩
  · exact .inl h
  · refine .inr ⟨g, off, cap, rfl, fun j hj => ?_⟩
    obtain ⟨u, h1, h2⟩ := hcell j hj
    have hb := hc.block g (block_lt_of_cell h1) (by simp)
    exact ⟨u, by rw [World.cell?_of_block (w := w) (a := ⟨g, off + j, none⟩) hb]; exact h1, h2.kept hc (by simp)⟩
theorem RdLL.nil (w : World) (ao : Option Addr) (c : Nat) : RdLL w (.slice ao 0 c) [] := .inl ⟨rfl, ao, c, rfl⟩

/-- a model as a value -/
def mdv (m : Md) (cv : Value) : Value := .agg #[.int .i64 m.log, .bool m.one, cv]
/-- The value v is the model m. -/
def RdM (w : World) (v : Value) (m : Md) : Prop := ∃ cv, v = mdv m cv ∧ RdLL w cv m.cs
theorem RdM.kept {w w' : World} {v : Value} {m : Md} (h : RdM w v m) (hc : Chg (fun _ => False) w w') : RdM w' v m := by
  obtain ⟨cv, h1, h2⟩ := h
  exact ⟨cv, h1, h2.kept hc⟩
/-- The value v is the model m, whatever turns below block B. -/
def RdMF (B : Nat) (w : World) (v : Value) (m : Md) : Prop := ∀ (S : Nat → Prop) (w' : World), Chg S w w' → (∀ k, B ≤ k → ¬ S k) → RdM w' v m
theorem RdMF.rd {B : Nat} {w : World} {v : Value} {m : Md} (h : RdMF B w v m) : RdM w v m := h (fun _ => False) w (Chg.refl _ _) (by simp)
/-- numbers that an int holds, and lengths that a machine has -/
def Md.fit64 (m : Md) : Prop := (-9223372036854775808 ≤ m.log ∧ m.log ≤ 9223372036854775807) ∧ m.cs.length < 100000000000 ∧ ∀ l ∈ m.cs, l.length < 100000000000 ∧ ∀ z ∈ l, -9223372036854775808 ≤ z ∧ z ≤ 9223372036854775807
theorem Md.fit64.at {m : Md} (h : m.fit64) (j : Nat) (hj : j < m.cs.length) : (m.cs.getD j []).length < 100000000000 ∧ ∀ z ∈ m.cs.getD j [], -9223372036854775808 ≤ z ∧ z ≤ 9223372036854775807 := by
  refine h.2.2 _ ?_
  rw [List.getD_eq_getElem?_getD, List.getElem?_eq_getElem hj]
  exact List.getElem_mem _

/-- the first lists are of the log -/
theorem right_take {m : Md} {k : Nat} (h : ∀ j, j < k → okL m.log m.one (m.cs.getD j [])) (hk : k = m.cs.length) : ∀ l ∈ m.cs, okL m.log m.one l := by
  intro l hl
  obtain ⟨j, hj, rfl⟩ := List.mem_iff_getElem.1 hl
  have := h j (by omega)
  rwa [List.getD_eq_getElem?_getD, List.getElem?_eq_getElem hj] at this
theorem Md.right.at {m : Md} (h : m.right) (j : Nat) (hj : j < m.cs.length) : okL m.log m.one (m.cs.getD j []) := by
  refine h.2.2 _ ?_
  rw [List.getD_eq_getElem?_getD, List.getElem?_eq_getElem hj]
  exact List.getElem_mem _

theorem Md.right.fit64 {m : Md} (h : m.right) : m.fit64 := by
  refine ⟨by have := h.1; omega, by have := h.2.1; split at this <;> omega, fun l hl => ?_⟩
  rcases h.2.2 l hl with ⟨h1, _⟩ | h1
  · subst h1; simp
  · obtain ⟨hr, h256⟩ := log_right (l := l) (by have := h.1; omega)
    refine ⟨by omega, fun z hz => ?_⟩
    obtain ⟨i, hi, rfl⟩ := List.mem_iff_getElem.1 hz
    have := hr.one i hi
    rw [List.getD_eq_getElem?_getD, List.getElem?_eq_getElem hi] at this
    simp only [Option.getD_some] at this
    omega
theorem md0_fit64 : md0.fit64 := ⟨by simp [md0], by simp [md0], fun l hl => by simp [md0] at hl⟩

end Go.Proofs.Ythghlfghdmifoaa

/- A slice of parts that is read; all parts put; a Writer of the call's own. -/
namespace Go.Proofs.Ythghlfghdmifoaa
open Go.RowKit

/-- The value is a slice of the parts ps (a number and how many bits), none of them beyond its kind. -/
structure RdP (w : World) (v : Value) (ps : List (Nat × Int)) : Prop where
  form : ∃ ao cap, v = .slice ao ps.length cap ∧ (0 < ps.length → ∃ g off, ao = some ⟨g, off, none⟩)
  cells : ∀ g off n cap, v = .slice (some ⟨g, off, none⟩) n cap → ∀ i (h : i < ps.length), w.cell? ⟨g, off + i * 2, none⟩ = some (.int .u32 (ps[i].1 : Int)) ∧ w.cell? ⟨g, off + i * 2 + 1, none⟩ = some (.int .i64 ps[i].2)
  wf : ∀ p ∈ ps, p.1 < 4294967296

theorem RdP.kept {S : Nat → Prop} {w w' : World} {v : Value} {ps : List (Nat × Int)} (h : RdP w v ps) (hc : Chg S w w') (hS : ∀ k, v.ownBlock = some k → ¬ S k) : RdP w' v ps := by
  refine ⟨h.form, fun g off n cap hv i hi => ?_, h.wf⟩
  have hh := h.cells g off n cap hv i hi
  have hlt : g < w.heap.size := block_lt_of_cell hh.1
  have hb := hc.block g hlt (hS g (by rw [hv]; rfl))
  rw [World.cell?_of_block (w := w) (a := ⟨g, off + i * 2, none⟩) hb, World.cell?_of_block (w := w) (a := ⟨g, off + i * 2 + 1, none⟩) hb]
  exact hh

/-- all parts put, one behind the other -/
def putAll (bs : List Bool) : List (Nat × Int) → List Bool
  | [] => bs
  | p :: r => putAll (putB bs p.1 p.2) r

theorem putAll_append (bs : List Bool) (a b : List (Nat × Int)) : putAll bs (a ++ b) = putAll (putAll bs a) b := by
  induction a generalizing bs with
  | nil => rfl
  | cons p r ih => exact ih _

theorem putAll_succ (bs : List Bool) (ps : List (Nat × Int)) (k : Nat) (h : k < ps.length) : putAll bs (ps.take (k + 1)) = putB (putAll bs (ps.take k)) ps[k].1 ps[k].2 := by
  rw [List.take_succ_eq_append_getElem h, putAll_append]; rfl

theorem putAll_length (bs : List Bool) (ps : List (Nat × Int)) : bs.length ≤ (putAll bs ps).length ∧ (putAll bs ps).length ≤ bs.length + 24 * ps.length := by
  induction ps generalizing bs with
  | nil => simp [putAll]
  | cons p r ih =>
    have h1 := putB_length bs p.1 p.2
    have h2 := ih (putB bs p.1 p.2)
    simp only [putAll, List.length_cons]; omega

end Go.Proofs.Ythghlfghdmifoaa

/- Several Writers side by side: those that aren't put into stay as they were. -/
namespace Go.Proofs.Ythghlfghdmifoaa
open Go.RowKit

/-- two Writers that share no block -/
def Dj (b : Nat) (o : Option Nat) (b' : Nat) (o' : Option Nat) : Prop := b ≠ b' ∧ o ≠ some b' ∧ o' ≠ some b ∧ (o = none ∨ o ≠ o')

theorem Dj.symm {b b' : Nat} {o o' : Option Nat} (h : Dj b o b' o') : Dj b' o' b o := by
  obtain ⟨h1, h2, h3, h4⟩ := h
  refine ⟨fun h => h1 h.symm, h3, h2, ?_⟩
  rcases h4 with h | h
  · cases o' with
    | none => exact .inl rfl
    | some k => exact .inr (by rw [h]; simp)
  · exact .inr fun e => h e.symm

/-- all of it lies from B on -/
def Above (B b : Nat) (o : Option Nat) : Prop := B ≤ b ∧ ∀ k, o = some k → B ≤ k

theorem Above.mono {B B' b : Nat} {o : Option Nat} (h : Above B b o) (hB : B' ≤ B) : Above B' b o := ⟨Nat.le_trans hB h.1, fun k hk => Nat.le_trans hB (h.2 k hk)⟩

theorem Above.step {w : World} {B b : Nat} {o o1 : Option Nat} (h : Above B b o) (hs : B ≤ w.heap.size) (h1 : o1 = o ∨ ∃ k, o1 = some k ∧ w.heap.size ≤ k) : Above B b o1 := by
  rcases h1 with rfl | ⟨k, rfl, hk⟩
  · exact h
  · exact ⟨h.1, fun j hj => by simp only [Option.some.injEq] at hj; omega⟩

theorem Chg.up {w w1 w2 : World} {b : Nat} {o : Option Nat} (h : Chg (fun _ => False) w w1) (h2 : Chg (fun k => k = b ∨ some k = o) w1 w2) (ha : Above w.heap.size b o) : Chg (fun _ => False) w w2 :=
  h.trans h2 fun k hk hx => by
    rcases hx with hx | hx
    · have := ha.1; omega
    · have := ha.2 k hx.symm; omega

theorem Chg.next {w w1 w2 : World} (h : Chg (fun _ => False) w w1) (h2 : Chg (fun _ => False) w1 w2) : Chg (fun _ => False) w w2 := h.trans h2 fun _ _ h => h

/-- append at an operation that stands under a guard which says yes -/
theorem wpList_append_want {P : Program} {ops : Array Oper} {rest : List Oper} {o : Oper} {a : Act} {w : World} {Q : Exit → Act → World → Prop} (s x : Operand) (t : TypeId)
    (ho : o.op = .call { callee := .builtin .append, args := #[s, x], argTypes := #[t, t] })
    (base : Nat) (e : TypeId) (i : TypeInfo) (z : Value) (size bytes : Nat) (ht : P.underlying t = some (.slice e)) (hi : P.info? e = some i) (hz : i.zero = some z)
    (hsize : i.size = size) (hby : i.bytes = bytes) (hzs : z.cells.size = size) (hsz : 0 < size)
    (v : Value) (n : Nat) (xs : List Value) (hs : a.eval s = v) (hown : w.ownsRow base e size v n xs)
    (ad : Addr) (m c : Nat) (news : List Value) (hx : a.eval x = .slice (some ad) m c) (hl : news.length = m * size) (hnews : ∀ j u, news[j]? = some u → w.cell? (ad.add j) = some u) (h1 : ∀ u ∈ news, u.oneCell' = true)
    (hm : 0 < m) (h63 : n + m ≤ maxLen) (hbytes : (n + m) * bytes ≤ 140737488355328) (hbase : base ≤ w.heap.size)
    (hw : Region.wanted o (yielded ops a.tmps) = true)
    (h : ∀ g cap w', w'.ownsRow base e size (.slice (some ⟨g, 0, none⟩) (n + m) cap) (n + m) (xs ++ news) → w.grownBy w' v.ownBlock → (v.ownBlock = some g ∨ g = w.heap.size) → wpList P ops Q rest (a.put o.dst (.slice (some ⟨g, 0, none⟩) (n + m) cap)) w') :
    wpList P ops Q (o :: rest) a w :=
  BigFrame.wpList_want hw fun _ hK => wp_append_lies w s x t ho base e i z size bytes ht hi hz hsize hby hzs hsz v n xs hs hown ad m c news hx hl hnews h1 hm h63 hbytes hbase _ rfl fun g cap w' h2 h3 h4 _ => hK _ _ (h g cap w' h2 h3 h4)

end Go.Proofs.Ythghlfghdmifoaa

/- slices.Clone of bytes; a bitf.Reader in memory; what bitf's begun, bitAt, Left, New do. -/
namespace Go.Proofs.Ythghlfghdmifoaa
open Go.RowKit

theorem RdB.news {w : World} {a : Addr} {n cap : Nat} {xs : List Nat} (h : RdB w (.slice (some a) n cap) xs) : ∀ j u, (bv xs)[j]? = some u → w.cell? (a.add j) = some u := by
  intro j u hu
  rcases h with ⟨rfl, _⟩ | ⟨g, off, cap', he, hc⟩
  · simp [bv] at hu
  · simp only [Value.slice.injEq, Option.some.injEq] at he
    obtain ⟨rfl, rfl, rfl⟩ := he
    have hj : j < xs.length := by rw [← bv_length]; exact (List.getElem?_eq_some_iff.1 hu).1
    rw [bv_get xs j hj] at hu
    rw [← Option.some.inj hu, show (⟨g, off, none⟩ : Addr).add j = ⟨g, off + j, none⟩ from by unfold Addr.add; split <;> simp_all]
    exact hc j hj

theorem eqlNil (W : World) (a : Addr) (n c : Nat) : (binOp .eql 22 (.slice (some a) n c) (.slice none 0 0)).run Try.prog W = .ok (.bool false) W := by kernel_rfl
theorem eqlNil0 (W : World) (n c : Nat) : (binOp .eql 22 (.slice none n c) (.slice none 0 0)).run Try.prog W = .ok (.bool true) W := by kernel_rfl

end Go.Proofs.Ythghlfghdmifoaa

/- append(s, x...): bytes x that are read, nil or not, onto a row of bytes of the call's own. -/
namespace Go.Proofs.Ythghlfghdmifoaa
open Go.RowKit

theorem run_append_nil (w : World) (ty : TypeId) (base n c : Nat) (v : Value) (ys : List Value) (hown : w.ownsRow base 5 1 v n ys) :
    (Builtin.append_ #[22, 22] ty #[v, .slice none 0 c]).run Try.prog w = .ok v w := by
  obtain ⟨i, hi, hz0, hz1, hz2⟩ := info_parts Try.infoU8
  rcases hown.2 with ⟨rfl, _⟩ | ⟨g, cap, cur, rfl, _, hg, hn, _⟩
  · simp [Builtin.append_, run_underlying Try.underlying22, sizeOf, typeInfo, hi, Builtin.lenOf, Builtin.firstCells]
  · simp [Builtin.append_, run_underlying Try.underlying22, sizeOf, typeInfo, hi, Builtin.lenOf, Builtin.firstCells, hn, storeCells]

theorem wp_append_bytes {o : Oper} {a : Act} {w : World} {K : Act → World → Prop} {Q : Exit → Act → World → Prop} (s x : Operand)
    (ho : o.op = .call { callee := .builtin .append, args := #[s, x], argTypes := #[22, 22] })
    (base : Nat) (v : Value) (ys : List Nat) (hs : a.eval s = v) (hown : w.ownsRow base 5 1 v ys.length (bv ys))
    (u : Value) (xs : List Nat) (hx : a.eval x = u) (hr : RdB w u xs) (hb : base ≤ w.heap.size) (hl : ys.length + xs.length < 100000000000)
    (h : ∀ v' w', w'.ownsRow base 5 1 v' (ys ++ xs).length (bv (ys ++ xs)) → Chg (fun k => some k = v.ownBlock) w w' → K (a.put o.dst v') w') : o.wp Try.prog a w K Q := by
  obtain ⟨i, hi, hz0, hz1, hz2⟩ := info_parts Try.infoU8
  obtain ⟨ao, cap, hu⟩ := hr.form
  subst hu
  cases ao with
  | none =>
    have h0 : xs = [] := by
      rcases hr with ⟨h0, _⟩ | ⟨g, off, cap', he, _⟩
      · exact h0
      · simp at he
    subst h0
    have hrun := run_append_nil w o.type base ys.length cap v (bv ys) hown
    rw [List.length_nil] at hx
    unfold Oper.wp execOp
    simp only [ho, resolve, invoke, builtin, Sem.run_bind, Sem.run_pure, Result.andThen_ok, List.map_toArray, List.map_cons, List.map_nil, hs, hx, hrun]
    exact h v w (by rw [List.append_nil]; exact hown) (Chg.refl _ _)
  | some ad =>
    refine wp_append_own w s x 22 ho base 5 i (.int .u8 0) 1 1 Try.underlying22 hi hz0 hz1 hz2 rfl (by decide) v ys.length (bv ys) hs hown ad xs.length cap (bv xs) hx (by rw [bv_length, Nat.mul_one]) (RdB.news hr) (bv_one xs) (by unfold maxLen; omega) (by omega) hb fun v' w' h2 h3 _ => ?_
    exact h v' w' (by rw [List.length_append, show bv (ys ++ xs) = bv ys ++ bv xs from by simp [bv]]; exact h2) (Chg.of_grown h3)

theorem wpList_append_bytes {ops : Array Oper} {rest : List Oper} {o : Oper} {a : Act} {w : World} {Q : Exit → Act → World → Prop} (hgd : o.guard = none) (s x : Operand)
    (ho : o.op = .call { callee := .builtin .append, args := #[s, x], argTypes := #[22, 22] })
    (base : Nat) (v : Value) (ys : List Nat) (hs : a.eval s = v) (hown : w.ownsRow base 5 1 v ys.length (bv ys))
    (u : Value) (xs : List Nat) (hx : a.eval x = u) (hr : RdB w u xs) (hb : base ≤ w.heap.size) (hl : ys.length + xs.length < 100000000000)
    (h : ∀ v' w', w'.ownsRow base 5 1 v' (ys ++ xs).length (bv (ys ++ xs)) → Chg (fun k => some k = v.ownBlock) w w' → wpList Try.prog ops Q rest (a.put o.dst v') w') :
    wpList Try.prog ops Q (o :: rest) a w :=
  wpList_plain hgd fun _ hK => wp_append_bytes s x ho base v ys hs hown u xs hx hr hb hl fun v' w' h2 h3 => hK _ _ (h v' w' h2 h3)

/-- a row of no bytes that was just laid -/
theorem own_empty (w : World) : (w.alloc (.cells #[] 5)).ownsRow w.heap.size 5 1 (.slice (some ⟨w.heap.size, 0, none⟩) 0 0) ([] : List Nat).length (bv []) :=
  World.ownsRow_made w #[] 0 (Nat.le_refl _) (by unfold maxLen; omega) rfl

end Go.Proofs.Ythghlfghdmifoaa

/- append(s, x...): numbers x that are read, nil or not, onto a row of numbers of the call's own. -/
namespace Go.Proofs.Ythghlfghdmifoaa
open Go.RowKit

theorem RdI.news {w : World} {a : Addr} {n cap : Nat} {xs : List Int} (h : RdI w (.slice (some a) n cap) xs) : ∀ j u, (iw xs)[j]? = some u → w.cell? (a.add j) = some u := by
  intro j u hu
  rcases h with ⟨rfl, _⟩ | ⟨g, off, cap', he, hc⟩
  · simp [iw] at hu
  · simp only [Value.slice.injEq, Option.some.injEq] at he
    obtain ⟨rfl, rfl, rfl⟩ := he
    have hj : j < xs.length := by rw [← iw_length]; exact (List.getElem?_eq_some_iff.1 hu).1
    rw [iw_get xs j hj] at hu
    rw [← Option.some.inj hu, add_lit]
    exact hc j hj
theorem iw_one (xs : List Int) : ∀ u ∈ iw xs, u.oneCell' = true := by
  intro u hu
  simp only [iw, List.mem_map] at hu
  obtain ⟨x, _, rfl⟩ := hu
  rfl
theorem run_appendI_nil (w : World) (ty : TypeId) (base n c : Nat) (v : Value) (ys : List Value) (hown : w.ownsRow base 3 1 v n ys) :
    (Builtin.append_ #[35, 35] ty #[v, .slice none 0 c]).run Try.prog w = .ok v w := by
  obtain ⟨i, hi, hz0, hz1, hz2⟩ := info_parts Try.infoInt
  rcases hown.2 with ⟨rfl, _⟩ | ⟨g, cap, cur, rfl, _, hg, hn, _⟩
  · simp [Builtin.append_, run_underlying Try.underlying35, sizeOf, typeInfo, hi, Builtin.lenOf, Builtin.firstCells]
  · simp [Builtin.append_, run_underlying Try.underlying35, sizeOf, typeInfo, hi, Builtin.lenOf, Builtin.firstCells, hn, storeCells]

theorem wp_append_ints {o : Oper} {a : Act} {w : World} {K : Act → World → Prop} {Q : Exit → Act → World → Prop} (s x : Operand)
    (ho : o.op = .call { callee := .builtin .append, args := #[s, x], argTypes := #[35, 35] })
    (base : Nat) (v : Value) (ys : List Int) (hs : a.eval s = v) (hown : w.ownsRow base 3 1 v ys.length (iw ys))
    (u : Value) (xs : List Int) (hx : a.eval x = u) (hr : RdI w u xs) (hb : base ≤ w.heap.size) (hl : ys.length + xs.length < 100000000000)
    (h : ∀ v' w', w'.ownsRow base 3 1 v' (ys ++ xs).length (iw (ys ++ xs)) → Chg (fun k => some k = v.ownBlock) w w' → K (a.put o.dst v') w') : o.wp Try.prog a w K Q := by
  obtain ⟨i, hi, hz0, hz1, hz2⟩ := info_parts Try.infoInt
  obtain ⟨ao, cap, hu⟩ := hr.form
  subst hu
  cases ao with
  | none =>
    have h0 : xs = [] := by
      rcases hr with ⟨h0, _⟩ | ⟨g, off, cap', he, _⟩
      · exact h0
      · simp at he
    subst h0
    have hrun := run_appendI_nil w o.type base ys.length cap v (iw ys) hown
    rw [List.length_nil] at hx
    unfold Oper.wp execOp
    simp only [ho, resolve, invoke, builtin, Sem.run_bind, Sem.run_pure, Result.andThen_ok, List.map_toArray, List.map_cons, List.map_nil, hs, hx, hrun]
    exact h v w (by rw [List.append_nil]; exact hown) (Chg.refl _ _)
  | some ad =>
    refine wp_append_own w s x 35 ho base 3 i (.int .i64 0) 1 8 Try.underlying35 hi hz0 hz1 hz2 rfl (by decide) v ys.length (iw ys) hs hown ad xs.length cap (iw xs) hx (by rw [iw_length, Nat.mul_one]) (RdI.news hr) (iw_one xs) (by unfold maxLen; omega) (by omega) hb fun v' w' h2 h3 _ => ?_
    exact h v' w' (by rw [List.length_append, show iw (ys ++ xs) = iw ys ++ iw xs from by simp [iw]]; exact h2) (Chg.of_grown h3)

theorem wpList_append_ints {ops : Array Oper} {rest : List Oper} {o : Oper} {a : Act} {w : World} {Q : Exit → Act → World → Prop} (hgd : o.guard = none) (s x : Operand)
    (ho : o.op = .call { callee := .builtin .append, args := #[s, x], argTypes := #[35, 35] })
    (base : Nat) (v : Value) (ys : List Int) (hs : a.eval s = v) (hown : w.ownsRow base 3 1 v ys.length (iw ys))
    (u : Value) (xs : List Int) (hx : a.eval x = u) (hr : RdI w u xs) (hb : base ≤ w.heap.size) (hl : ys.length + xs.length < 100000000000)
    (h : ∀ v' w', w'.ownsRow base 3 1 v' (ys ++ xs).length (iw (ys ++ xs)) → Chg (fun k => some k = v.ownBlock) w w' → wpList Try.prog ops Q rest (a.put o.dst v') w') :
    wpList Try.prog ops Q (o :: rest) a w :=
  wpList_plain hgd fun _ hK => wp_append_ints s x ho base v ys hs hown u xs hx hr hb hl fun v' w' h2 h3 => hK _ _ (h v' w' h2 h3)

/-- numbers that the call has laid -/
theorem rdi_new (w : World) (xs : List Int) (cs : Array Value) (n : Nat) (fr : Nat × Nat) (h : cs.toList = iw xs) (hn : n = xs.length) : RdI (w.alloc (.cells cs 3 fr)) (.slice (some ⟨w.heap.size, 0, none⟩) n n) xs := by
  subst hn
  refine .inr ⟨w.heap.size, 0, xs.length, rfl, fun j hj => ?_⟩
  rw [cell_of_row _ _ _ _ _ _ (heap_alloc_new w _), Nat.zero_add, ← Array.getElem?_toList, h, iw_get xs j hj]

theorem RdI.of_own {w : World} {base : Nat} {v : Value} {n : Nat} {xs : List Int} (h : w.ownsRow base 3 1 v n (iw xs)) : RdI w v xs := by
  have hl := h.1
  rw [iw_length] at hl
  rcases h.2 with ⟨rfl, rfl⟩ | ⟨g, cap, cur, rfl, _⟩
  · exact .inl ⟨List.eq_nil_of_length_eq_zero (by omega), none, 0, rfl⟩
  · refine .inr ⟨g, 0, cap, by simp [hl], fun j hj => ?_⟩
    rw [Nat.zero_add, h.cellAt j (by omega), iw_get xs j hj]

/-- nil is a row of no numbers -/
theorem nil_owns (w : World) (base : Nat) : w.ownsRow base 3 1 (.slice none 0 0) ([] : List Int).length (iw []) := ⟨rfl, .inl ⟨rfl, rfl⟩⟩

end Go.Proofs.Ythghlfghdmifoaa

/- What the document's own ctx (puncheonref06) tells. -/
namespace Go.Proofs.Ythghlfghdmifoaa
open Go.RowKit

theorem own_oneB (w : World) (x : Nat) : (w.alloc (.cells #[.int .u8 (x : Int)] 5)).ownsRow w.heap.size 5 1 (.slice (some ⟨w.heap.size, 0, none⟩) 1 1) [x].length (bv [x]) :=
  ⟨rfl, .inr ⟨w.heap.size, 1, #[.int .u8 (x : Int)], rfl, Nat.le_refl _, heap_alloc_new w _, Nat.le_refl _, by unfold maxLen; omega, rfl, rfl⟩⟩

set_option maxHeartbeats 1000000 in
theorem r6at_any (v : Value) (xs : List Nat) (i : Int) (w : World) (h : RdB w v xs) (hx : ∀ x ∈ xs, x < 256) (hl : xs.length < 10000000000) (hi : -9223372036854775808 ≤ i ∧ i ≤ 9223372036854775807) :
    Calls Try.prog 46 #[v, .int .i64 i] w fun e w' => e = .returned (.int .i64 (atI xs i)) ∧ Chg (fun _ => False) w w' := by
  obtain ⟨ao, cap, rfl⟩ := h.form
  have H := Lib.hid h; have HX := Lib.hid hx
  clear h hx
  by_cases hneg : i < 0
  · have d1 : decide (i < 0) = true := decide_eq_true hneg
    have HA := Lib.hid (atI_out xs i (.inl hneg))
    go_enter Try.func46, Try.ntmps46
    go_wp2
    go_ret
    rw [HA.out]
    exact ⟨rfl, Chg.refl _ _⟩
  · have d1 : decide (i < 0) = false := decide_eq_false hneg
    by_cases hbig : (xs.length : Int) ≤ i
    · have d2 : decide ((xs.length : Int) ≤ i) = true := decide_eq_true hbig
      have HA := Lib.hid (atI_out xs i (.inr hbig))
      go_enter Try.func46, Try.ntmps46
      go_wp2
      go_ret
      rw [HA.out]
      exact ⟨rfl, Chg.refl _ _⟩
    · have d2 : decide ((xs.length : Int) ≤ i) = false := decide_eq_false hbig
      obtain ⟨k, rfl⟩ : ∃ k : Nat, i = (k : Int) := ⟨i.toNat, by omega⟩
      have hk : k < xs.length := by omega
      have HA := Lib.hid (atI_nat xs k hk)
      have hca := Chg.alloc (fun _ => False) w (.cells #[.int .u8 ((0 : Nat) : Int)] 5)
      have hoA := own_oneB w 0
      have hrx := H.out.kept hca (by simp)
      have HRX := Lib.hid hrx; have HCA := Lib.hid hca; have HO := Lib.hid hoA
      clear hca hoA hrx hneg hbig hi
      go_enter Try.func46, Try.ntmps46
      go_wp2_with (at_builtin; refine wpList_append_bytes rfl (.tmp 14) (.tmp 15) rfl w.heap.size _ [0] rfl HO.out _ xs rfl HRX.out (by simp) (by simp; omega) ?_)
      intro v3 w3 ho3 hc3
      have hc3' : Chg (fun _ => False) w w3 := HCA.out.trans hc3 (fun k hk hx => by simp [Value.ownBlock] at hx; omega)
      have hrd := RdB.of_own ho3
      obtain ⟨ao3, cap3, rfl⟩ := hrd.form
      obtain ⟨g, off, rfl, hcell⟩ := hrd.at k (by simp; omega)
      have hy := getD_lt (0 :: xs) (fun x hx => by
        rcases List.mem_cons.1 hx with rfl | hx
        · omega
        · exact HX.out x hx) k
      obtain ⟨y, hye⟩ : ∃ y, (0 :: xs).getD k 0 = y := ⟨_, rfl⟩
      rw [hye] at hcell hy HA
      have hkl : k < (0 :: xs).length := by simp; omega
      obtain ⟨n, hn⟩ : ∃ n, (0 :: xs).length = n := ⟨_, rfl⟩
      rw [hn] at hkl ⊢
      clear hc3 HCA HRX HO hrd ho3 hn
      go_wp2
      go_ret
      rw [HA.out]
      exact ⟨rfl, hc3'⟩

set_option maxHeartbeats 1000000 in
set_option maxRecDepth 100000 in
theorem r6for_any (v : Value) (xs : List Nat) (c : Int) (w : World) (h : RdB w v xs) (hx : ∀ x ∈ xs, x < 256) (hl : xs.length < 10000000000) :
    Calls Try.prog 38 #[v, .int .i64 c] w fun e w' => ∃ v', e = .returned v' ∧ OwnI w' w.heap.size v' (cnt (sel xs c)) ∧ Chg (fun _ => False) w w' := by
  obtain ⟨ao, cap, rfl⟩ := h.form
  have H := Lib.hid h; have HX := Lib.hid hx
  clear h hx
  go_enter Try.func38, Try.ntmps38
  go_wp2_with (at_make; refine wpList_make_ints rfl _ _ rfl 256 256 256 rfl rfl rfl rfl (by omega) (cnt (sel (xs.take 0) c)) (by rw [List.take_zero, sel_nil, cnt_nil]) ?_)
  intro w1 h1 hc1
  have H1 := Lib.hid h1; have HC1 := Lib.hid hc1
  clear h1 hc1
  go_wp2
  go_loopw [6] (fun o6 wr => ∃ k : Nat, k ≤ xs.length ∧ o6 = .int .i64 (k : Int) ∧ RowI wr w.heap.size 3 (cnt (sel (xs.take k) c)) ∧ Chg (fun _ => False) w wr) (fun o6 _ => xs.length - (intOf o6).toNat)
  case atStart => exact ⟨0, Nat.zero_le _, rfl, H1.out, HC1.out⟩
  case round =>
    obtain ⟨k, hk, rfl, hrow, hc⟩ := hrel
    clear H1 HC1
    by_cases hlt : k < xs.length
    · have HROW := Lib.hid hrow; have HC := Lib.hid hc
      clear hrow hc
      go_wp2_with fail
      refine (r6at_any _ xs (k : Int) wr (H.out.kept HC.out (by simp)) HX.out hl (by omega)).mono ?_
      rintro e w2 ⟨rfl, hc2⟩
      rw [atI_nat xs k hlt]
      have hrow := HROW.out.kept hc2 (by simp)
      have hc := HC.out.trans hc2 (fun _ _ h => h)
      have hst := sel_take_succ xs k hlt c
      clear HROW HC hc2
      obtain ⟨y, hye⟩ : ∃ y, (0 :: xs).getD k 0 = y := ⟨_, rfl⟩
      rw [hye] at hst ⊢
      clear hye
      by_cases hyc : (y : Int) = c
      · subst hyc
        rw [if_pos rfl] at hst
        obtain ⟨g, off, rfl, hcell⟩ := (H.out.kept hc (by simp)).at k hlt
        have hx8 := getD_lt xs HX.out k
        obtain ⟨x, hxe⟩ : ∃ x, xs.getD k 0 = x := ⟨_, rfl⟩
        rw [hxe] at hcell hx8 hst
        have hcs := cnt_snoc (sel (xs.take k) (y : Int)) x hx8
        rw [← hst] at hcs
        have hcu := hrow.cell x (by rw [cnt_length]; exact hx8)
        have hfu := hrow.free x
        have hbd : 0 ≤ (cnt (sel (xs.take k) (y : Int))).getD x 0 ∧ (cnt (sel (xs.take k) (y : Int))).getD x 0 ≤ 10000000000 := by
          rw [cnt_getD _ _ hx8]
          have h1 := List.count_le_length (l := sel (xs.take k) (y : Int)) (a := x)
          have h2 := sel_len (xs.take k) (y : Int)
          rw [List.length_take] at h2
          omega
        have hr2 := hrow.set x ((cnt (sel (xs.take k) (y : Int))).getD x 0 + 1)
        rw [← hcs] at hr2
        have hc2 : Chg (fun _ => False) w (w2.setCell ⟨w.heap.size, x, none⟩ (.int .i64 ((cnt (sel (xs.take k) (y : Int))).getD x 0 + 1))) := hc.trans (Chg.setCell w2 ⟨w.heap.size, x, none⟩ _) (fun q hq h => by simp at h; omega)
        obtain ⟨z, hze⟩ : ∃ z, (cnt (sel (xs.take k) (y : Int))).getD x 0 = z := ⟨_, rfl⟩
        rw [hze] at hcu hbd hr2 hc2
        obtain ⟨hz0, hz1⟩ := hbd
        have HR2 := Lib.hid hr2; have HC2 := Lib.hid hc2
        clear hst hcs hr2 hc2 hrow hc hze hxe
        go_wp2
        go_roundw
        case rel => exact ⟨k + 1, by omega, by go_num, HR2.out, HC2.out⟩
        case measure => simp [intOf]; omega
      · rw [if_neg hyc, List.append_nil] at hst
        have hne : ((y : Int) == c) = false := by simp [hyc]
        have HST := Lib.hid hst; have HROW := Lib.hid hrow; have HC := Lib.hid hc
        clear hst hrow hc
        go_wp2
        go_roundw
        case rel => exact ⟨k + 1, by omega, by go_num, by rw [HST.out]; exact HROW.out, HC.out⟩
        case measure => simp [intOf]; omega
    · obtain rfl : k = xs.length := by omega
      rw [List.take_length] at hrow
      go_wp2
      go_ret
      exact ⟨_, rfl, by have := hrow.own 256 w.heap.size (Nat.le_refl _); rw [cnt_length] at this; exact this, hc⟩

set_option maxHeartbeats 1000000 in
set_option maxRecDepth 100000 in
theorem r6present_own (v : Value) (xs : List Nat) (w : World) (h : RdB w v xs) (hx : ∀ x ∈ xs, x < 256) (hl : xs.length < 10000000000) :
    Calls Try.prog 37 #[v] w fun e w' => ∃ v', e = .returned v' ∧ w'.ownsRow w.heap.size 3 1 v' (pres xs).length (iw (pres xs)) ∧ Chg (fun _ => False) w w' := by
  obtain ⟨ao, cap, rfl⟩ := h.form
  have H := Lib.hid h; have HX := Lib.hid hx
  clear h hx
  go_enter Try.func37, Try.ntmps37
  go_wp2
  go_loopw [3, 4] (fun o3 o4 wr => ∃ (c : Nat) (vo : Value), c ≤ 256 ∧ o4 = .int .i64 (c : Int) ∧ vo = o3 ∧ wr.ownsRow w.heap.size 3 1 vo (presTo xs c).length (iw (presTo xs c)) ∧ Chg (fun _ => False) w wr) (fun _ o4 _ => 256 - (intOf o4).toNat)
  case atStart => exact ⟨0, _, Nat.zero_le _, rfl, rfl, nil_owns w _, Chg.refl _ _⟩
  case round =>
    obtain ⟨c, vo, hcc, rfl, rfl, hown, hc⟩ := hrel
    have hpl := presTo_length xs c
    obtain ⟨wa, hwa⟩ : ∃ wa, wa = wr := ⟨_, rfl⟩
    subst hwa
    by_cases hlt : c < 256
    · have HOWN := Lib.hid hown; have HC := Lib.hid hc
      clear hown hc
      have d8 : decide ((c : Int) < 256) = true := by simp; omega
      go_wp2
      go_loopw [5, 6] (fun o5 o6 wr => ∃ k : Nat, k ≤ xs.length ∧ o6 = .int .i64 (k : Int) ∧ o5 = .int .i64 (((sel (xs.take k) (c : Int)).length : Nat) : Int) ∧ wr.ownsRow w.heap.size 3 1 vo (presTo xs c).length (iw (presTo xs c)) ∧ Chg (fun _ => False) w wr) (fun _ o6 _ => xs.length - (intOf o6).toNat)
      case atStart => exact ⟨0, Nat.zero_le _, rfl, rfl, HOWN.out, HC.out⟩
      case round =>
        obtain ⟨k, hk, rfl, rfl, hown, hc⟩ := hrel
        clear HOWN HC
        have hsl := sel_len (xs.take k) (c : Int)
        rw [List.length_take] at hsl
        have HOWN := Lib.hid hown; have HC := Lib.hid hc
        clear hown hc
        by_cases hkl : k < xs.length
        · have hst := sel_take_succ xs k hkl (c : Int)
          obtain ⟨n, hn⟩ : ∃ n, (sel (xs.take k) (c : Int)).length = n := ⟨_, rfl⟩
          rw [hn] at hsl ⊢
          have HN := Lib.hid hn
          clear hn
          go_wp2_with fail
          refine (r6at_any _ xs (k : Int) wr (H.out.kept HC.out (by simp)) HX.out hl (by omega)).mono ?_
          rintro e w2 ⟨rfl, hc2⟩
          rw [atI_nat xs k hkl]
          have HOWN2 := Lib.hid (hc2.own HOWN.out (by simp))
          have HC2 := Lib.hid (HC.out.trans hc2 (fun _ _ h => h))
          clear HOWN HC hc2
          obtain ⟨y, hye⟩ : ∃ y, (0 :: xs).getD k 0 = y := ⟨_, rfl⟩
          rw [hye] at hst ⊢
          clear hye
          by_cases hyc : (y : Int) = (c : Int)
          · rw [if_pos hyc] at hst
            have hq : ((y : Int) == (c : Int)) = true := by simp [hyc]
            have hst' : (sel (xs.take (k + 1)) (c : Int)).length = n + 1 := by rw [hst, List.length_append, HN.out]; rfl
            have HST := Lib.hid hst'
            clear hst hst'
            go_wp2
            go_roundw
            case rel => exact ⟨k + 1, by omega, by go_num, by rw [HST.out]; go_num, HOWN2.out, HC2.out⟩
            case measure => simp [intOf]; omega
          · rw [if_neg hyc, List.append_nil] at hst
            have hq : ((y : Int) == (c : Int)) = false := by simp; omega
            have hst' : (sel (xs.take (k + 1)) (c : Int)).length = n := by rw [hst, HN.out]
            have HST := Lib.hid hst'
            clear hst hst'
            go_wp2
            go_roundw
            case rel => exact ⟨k + 1, by omega, by go_num, by rw [HST.out], HOWN2.out, HC2.out⟩
            case measure => simp [intOf]; omega
        · obtain rfl : k = xs.length := by omega
          rw [List.take_length] at hsl ⊢
          have hps := presTo_succ xs c
          obtain ⟨n, hn⟩ : ∃ n, (sel xs (c : Int)).length = n := ⟨_, rfl⟩
          rw [hn] at hsl hps ⊢
          clear hn
          by_cases hpos : 0 < n
          · rw [if_pos hpos] at hps
            have hd : decide (0 < (n : Int)) = true := by simp; omega
            have hca := Chg.alloc (fun _ => False) wr (.cells #[.int .i64 (c : Int)] 3)
            have hrd := rdi_new wr [(c : Int)] #[.int .i64 (c : Int)] 1 (0, 0) rfl rfl
            have hoa := hca.own HOWN.out (by simp)
            have hz : w.heap.size ≤ (wr.alloc (.cells #[.int .i64 (c : Int)] 3)).heap.size := Nat.le_trans HC.out.size hca.size
            have hlt3 := HOWN.out.lt
            have HCA := Lib.hid hca; have HRD := Lib.hid hrd; have HOA := Lib.hid hoa; have HZ := Lib.hid hz; have HLT3 := Lib.hid hlt3
            have HPS := Lib.hid hps
            clear hca hrd hoa hz hlt3 hps
            go_wp2_with (at_builtin; refine wpList_append_ints rfl (.tmp 26) (.tmp 28) rfl w.heap.size vo (presTo xs c) rfl HOA.out _ [(c : Int)] rfl HRD.out HZ.out (by simp; omega) ?_)
            intro v4 w4 ho4 hc4
            have ho4 := (show w4.ownsRow w.heap.size 3 1 v4 (presTo xs c ++ [(c : Int)]).length (iw (presTo xs c ++ [(c : Int)])) by simpa using ho4)
            rw [← HPS.out] at ho4
            have hc4' : Chg (fun _ => False) w w4 := (HC.out.trans HCA.out (fun _ _ h => h)).trans hc4 (fun k hk hx => by have := (HLT3.out k hx.symm).1; omega)
            clear hc4 HCA HRD HOA HZ HLT3 HPS
            go_wp2
            go_roundw
            case rel => exact ⟨c + 1, _, by omega, by go_num, rfl, ho4, hc4'⟩
            case measure => simp [intOf]; omega
          · rw [if_neg hpos, List.append_nil] at hps
            have hd : decide (0 < (n : Int)) = false := by simp; omega
            have HPS := Lib.hid hps
            clear hps
            go_wp2
            go_roundw
            case rel => exact ⟨c + 1, _, by omega, by go_num, rfl, by rw [HPS.out]; exact HOWN.out, HC.out⟩
            case measure => simp [intOf]; omega
    · obtain rfl : c = 256 := by omega
      have HOWN := Lib.hid hown
      clear hown
      go_wp2
      go_ret
      exact ⟨_, rfl, HOWN.out, hc⟩
theorem r6present_any (v : Value) (xs : List Nat) (w : World) (h : RdB w v xs) (hx : ∀ x ∈ xs, x < 256) (hl : xs.length < 10000000000) :
    Calls Try.prog 37 #[v] w fun e w' => ∃ v', e = .returned v' ∧ RdI w' v' (pres xs) ∧ Chg (fun _ => False) w w' :=
  (r6present_own v xs w h hx hl).mono fun _ _ ⟨v', h1, h2, h3⟩ => ⟨v', h1, RdI.of_own h2, h3⟩

end Go.Proofs.Ythghlfghdmifoaa

/- What the document's own model (puncheonref16) tells: Right, At, Few, Same, Fits. -/
namespace Go.Proofs.Ythghlfghdmifoaa
open Go.RowKit

set_option maxHeartbeats 2000000 in
theorem r16right_t (log : Int) (cs : List (List Int)) (cv : Value) (w : World) (h : RdLL w cv cs) (hf : Md.fit64 ⟨log, true, cs⟩) :
    Calls Try.prog 16 #[.agg #[.int .i64 log, .bool true, cv]] w fun e w' => e = .returned (.bool (decide (Md.right ⟨log, true, cs⟩))) ∧ Chg (fun _ => False) w w' := by
  obtain ⟨D, hD⟩ : ∃ D, decide (Md.right ⟨log, true, cs⟩) = D := ⟨_, rfl⟩
  rw [hD]
  have HD := Lib.hid hD
  obtain ⟨ao, cap, rfl⟩ := h.form
  have hca := Chg.alloc (fun _ => False) w (.cells #[.int .i64 log, .bool true, .slice ao cs.length cap] 26)
  have hnew := heap_alloc_new w (.cells #[.int .i64 log, .bool true, .slice ao cs.length cap] 26)
  have HL := Lib.hid (h.kept hca)
  obtain ⟨n, hn⟩ : ∃ n, cs.length = n := ⟨_, rfl⟩
  have HN := Lib.hid hn; have HF := Lib.hid hf
  have hnb : (n : Int) < 100000000000 := by have := hf.2.1; simp only [] at this; omega
  rw [hn] at hca hnew HL ⊢
  obtain ⟨W, hW⟩ : ∃ W, w.alloc (.cells #[.int .i64 log, .bool true, .slice ao n cap] 26) = W := ⟨_, rfl⟩
  rw [hW] at hca hnew HL
  have HCA := Lib.hid hca
  have b0 : W.cell? ⟨w.heap.size, 0, none⟩ = some (.int .i64 log) := by rw [cell_of_row _ _ 0 _ _ _ hnew]; rfl
  have b1 : W.cell? ⟨w.heap.size, 1, none⟩ = some (.bool true) := by rw [cell_of_row _ _ 1 _ _ _ hnew]; rfl
  have b2 : W.cell? ⟨w.heap.size, 2, none⟩ = some (.slice ao n cap) := by rw [cell_of_row _ _ 2 _ _ _ hnew]; rfl
  clear hD h hf hca hnew hn
  by_cases h1 : log < 1
  · have hD1 : D = false := by rw [← HD.out]; exact decide_eq_false fun hh => by have := hh.1.1; simp only [] at this; omega
    subst hD1
    go_enter Try.func16, Try.ntmps16
    go_wp2
    go_ret
    exact ⟨rfl, HCA.out⟩
  · by_cases h2 : 12 < log
    · have hD1 : D = false := by rw [← HD.out]; exact decide_eq_false fun hh => by have := hh.1.2; simp only [] at this; omega
      subst hD1
      go_enter Try.func16, Try.ntmps16
      go_wp2
      go_ret
      exact ⟨rfl, HCA.out⟩
    · by_cases h3 : n = 1
      · have hnI : (n : Int) = 1 := by omega
        have h3b : ((n : Int) != 1) = false := by simp [hnI]
        have d1 : decide (log < 1) = false := decide_eq_false h1
        have d2 : decide (12 < log) = false := decide_eq_false h2
        have HNL := Lib.hid h3
        clear h3 hnI
        go_enter Try.func16, Try.ntmps16
        go_wp2
        go_loopw [3] (fun o3 wr => ∃ k : Nat, k ≤ n ∧ o3 = .int .i64 (k : Int) ∧ (∀ j, j < k → okL log true (cs.getD j [])) ∧ wr.cell? ⟨w.heap.size, 0, none⟩ = some (.int .i64 log) ∧ wr.cell? ⟨w.heap.size, 1, none⟩ = some (.bool true) ∧ wr.cell? ⟨w.heap.size, 2, none⟩ = some (.slice ao n cap) ∧ RdLL wr (.slice ao n cap) cs ∧ Chg (fun _ => False) w wr) (fun o3 _ => n - (intOf o3).toNat)
        case atStart => exact ⟨0, Nat.zero_le _, rfl, fun j hj => by omega, b0, b1, b2, HL.out, HCA.out⟩
        case round =>
          clear b0 b1 b2 HL HCA hW
          obtain ⟨k, hk, rfl, hok, b0, b1, b2, hl, hc⟩ := hrel
          have HOK := Lib.hid hok; have HL := Lib.hid hl; have HCA := Lib.hid hc
          clear hok hl hc
          by_cases hlt : k < n
          · obtain ⟨g, off, u, rfl, hu1, hu2⟩ := HL.out.at k (by rw [HN.out]; exact hlt)
            have hfa := HF.out.at k (by show k < cs.length; rw [HN.out]; exact hlt)
            simp only [] at hfa
            have hlg := fun m' => r8log_all u (cs.getD k []) (wr.drewN m') (hu2.kept ((Chg.refl (fun _ => False) wr).drewN m') (by simp)) hfa.2
            have hlb := logI_le (totalI (cs.getD k []))
            have hokk : okL log true (cs.getD k []) ↔ (cs.getD k [] = [] ∧ true = false) ∨ ((logI (totalI (cs.getD k [])) : Nat) : Int) = log := Iff.rfl
            obtain ⟨au, cu, rfl⟩ := hu2.form
            obtain ⟨q, hq⟩ : ∃ q, cs.getD k [] = q := ⟨_, rfl⟩
            rw [hq] at hlg hlb hu1 hfa hokk
            have HQ := Lib.hid hq
            obtain ⟨nu, hnu⟩ : ∃ nu, q.length = nu := ⟨_, rfl⟩
            rw [hnu] at hlg hu1 hfa
            obtain ⟨L, hL⟩ : ∃ L, logI (totalI q) = L := ⟨_, rfl⟩
            rw [hL] at hlg hlb hokk
            have HLG := Lib.hid hlg; have HOKK := Lib.hid hokk; have HNU := Lib.hid hnu
            have hLb : (L : Int) ≤ 12 := by omega
            have hnub : (nu : Int) < 100000000000 := by have := hfa.1; omega
            have hkn : (k : Int) < (n : Int) := by omega
            clear hlg hlb hokk hfa hu2 hq hnu hL
            by_cases hz : nu = 0
            · subst hz
              by_cases heq : (L : Int) = log
              · subst heq
                have hst : ∀ j, j < k + 1 → okL (L : Int) true (cs.getD j []) := fun j hj => by
                  by_cases hjk : j = k
                  · subst hjk; rw [HQ.out]; exact HOKK.out.2 (.inr rfl)
                  · exact HOK.out j (by omega)
                have HST := Lib.hid hst
                clear hst
                go_wp2
                go_quiet (first | (go_at_call 42; with_reducible exact Calls.quiet_of_same (HLG.out _)))
                go_wp2
                go_roundw
                case rel => exact ⟨k + 1, by omega, by go_num, HST.out, b0, b1, b2, HL.out.kept ((Chg.refl _ _).drewN nq), HCA.out.drewN nq⟩
                case measure => simp [intOf]; omega
              · have hne : ((L : Int) != log) = true := by simp [heq]
                have hD1 : D = false := by
                  rw [← HD.out]
                  refine decide_eq_false fun hh => ?_
                  have hat := hh.at k (by show k < cs.length; rw [HN.out]; exact hlt)
                  simp only [] at hat
                  rw [HQ.out] at hat
                  rcases HOKK.out.1 hat with h9 | h9
                  · exact absurd h9.2 (by simp)
                  · exact heq h9
                subst hD1
                go_wp2
                go_quiet (first | (go_at_call 42; with_reducible exact Calls.quiet_of_same (HLG.out _)))
                go_wp2
                go_ret
                exact ⟨rfl, HCA.out.drewN nq⟩
            · have hzb : ((nu : Int) == 0) = false := by simp; omega
              by_cases heq : (L : Int) = log
              · subst heq
                have hst : ∀ j, j < k + 1 → okL (L : Int) true (cs.getD j []) := fun j hj => by
                  by_cases hjk : j = k
                  · subst hjk; rw [HQ.out]; exact HOKK.out.2 (.inr rfl)
                  · exact HOK.out j (by omega)
                have HST := Lib.hid hst
                clear hst
                go_wp2
                go_quiet (first | (go_at_call 42; with_reducible exact Calls.quiet_of_same (HLG.out _)))
                go_wp2
                go_roundw
                case rel => exact ⟨k + 1, by omega, by go_num, HST.out, b0, b1, b2, HL.out.kept ((Chg.refl _ _).drewN nq), HCA.out.drewN nq⟩
                case measure => simp [intOf]; omega
              · have hne : ((L : Int) != log) = true := by simp [heq]
                have hD1 : D = false := by
                  rw [← HD.out]
                  refine decide_eq_false fun hh => ?_
                  have hat := hh.at k (by show k < cs.length; rw [HN.out]; exact hlt)
                  simp only [] at hat
                  rw [HQ.out] at hat
                  rcases HOKK.out.1 hat with h9 | h9
                  · exact absurd h9.2 (by simp)
                  · exact heq h9
                subst hD1
                go_wp2
                go_quiet (first | (go_at_call 42; with_reducible exact Calls.quiet_of_same (HLG.out _)))
                go_wp2
                go_ret
                exact ⟨rfl, HCA.out.drewN nq⟩
          · obtain rfl : k = n := by omega
            have hD1 : D = true := by
              rw [← HD.out]
              exact decide_eq_true ⟨⟨by show 1 ≤ log; omega, by show log ≤ 12; omega⟩, by show cs.length = 1; rw [HN.out]; exact HNL.out, right_take (m := ⟨log, true, cs⟩) HOK.out (by show k = cs.length; exact HN.out.symm)⟩
            subst hD1
            go_wp2
            go_ret
            exact ⟨rfl, HCA.out⟩
      · have hD1 : D = false := by rw [← HD.out]; exact decide_eq_false fun hh => by have := hh.2.1; simp only [] at this; rw [HN.out] at this; exact h3 (by simpa using this)
        subst hD1
        have h3b : ((n : Int) != 1) = true := by simp; omega
        have d1 : decide (log < 1) = false := decide_eq_false h1
        have d2 : decide (12 < log) = false := decide_eq_false h2
        clear h3
        go_enter Try.func16, Try.ntmps16
        go_wp2
        go_ret
        exact ⟨rfl, HCA.out⟩

set_option maxHeartbeats 2000000 in
theorem r16right_f (log : Int) (cs : List (List Int)) (cv : Value) (w : World) (h : RdLL w cv cs) (hf : Md.fit64 ⟨log, false, cs⟩) :
    Calls Try.prog 16 #[.agg #[.int .i64 log, .bool false, cv]] w fun e w' => e = .returned (.bool (decide (Md.right ⟨log, false, cs⟩))) ∧ Chg (fun _ => False) w w' := by
  obtain ⟨D, hD⟩ : ∃ D, decide (Md.right ⟨log, false, cs⟩) = D := ⟨_, rfl⟩
  rw [hD]
  have HD := Lib.hid hD
  obtain ⟨ao, cap, rfl⟩ := h.form
  have hca := Chg.alloc (fun _ => False) w (.cells #[.int .i64 log, .bool false, .slice ao cs.length cap] 26)
  have hnew := heap_alloc_new w (.cells #[.int .i64 log, .bool false, .slice ao cs.length cap] 26)
  have HL := Lib.hid (h.kept hca)
  obtain ⟨n, hn⟩ : ∃ n, cs.length = n := ⟨_, rfl⟩
  have HN := Lib.hid hn; have HF := Lib.hid hf
  have hnb : (n : Int) < 100000000000 := by have := hf.2.1; simp only [] at this; omega
  rw [hn] at hca hnew HL ⊢
  obtain ⟨W, hW⟩ : ∃ W, w.alloc (.cells #[.int .i64 log, .bool false, .slice ao n cap] 26) = W := ⟨_, rfl⟩
  rw [hW] at hca hnew HL
  have HCA := Lib.hid hca
  have b0 : W.cell? ⟨w.heap.size, 0, none⟩ = some (.int .i64 log) := by rw [cell_of_row _ _ 0 _ _ _ hnew]; rfl
  have b1 : W.cell? ⟨w.heap.size, 1, none⟩ = some (.bool false) := by rw [cell_of_row _ _ 1 _ _ _ hnew]; rfl
  have b2 : W.cell? ⟨w.heap.size, 2, none⟩ = some (.slice ao n cap) := by rw [cell_of_row _ _ 2 _ _ _ hnew]; rfl
  clear hD h hf hca hnew hn
  by_cases h1 : log < 1
  · have hD1 : D = false := by rw [← HD.out]; exact decide_eq_false fun hh => by have := hh.1.1; simp only [] at this; omega
    subst hD1
    go_enter Try.func16, Try.ntmps16
    go_wp2
    go_ret
    exact ⟨rfl, HCA.out⟩
  · by_cases h2 : 12 < log
    · have hD1 : D = false := by rw [← HD.out]; exact decide_eq_false fun hh => by have := hh.1.2; simp only [] at this; omega
      subst hD1
      go_enter Try.func16, Try.ntmps16
      go_wp2
      go_ret
      exact ⟨rfl, HCA.out⟩
    · by_cases h3 : n = 256
      · have hnI : (n : Int) = 256 := by omega
        have h3b : ((n : Int) != 256) = false := by simp [hnI]
        have d1 : decide (log < 1) = false := decide_eq_false h1
        have d2 : decide (12 < log) = false := decide_eq_false h2
        have HNL := Lib.hid h3
        clear h3 hnI
        go_enter Try.func16, Try.ntmps16
        go_wp2
        go_loopw [3] (fun o3 wr => ∃ k : Nat, k ≤ n ∧ o3 = .int .i64 (k : Int) ∧ (∀ j, j < k → okL log false (cs.getD j [])) ∧ wr.cell? ⟨w.heap.size, 0, none⟩ = some (.int .i64 log) ∧ wr.cell? ⟨w.heap.size, 1, none⟩ = some (.bool false) ∧ wr.cell? ⟨w.heap.size, 2, none⟩ = some (.slice ao n cap) ∧ RdLL wr (.slice ao n cap) cs ∧ Chg (fun _ => False) w wr) (fun o3 _ => n - (intOf o3).toNat)
        case atStart => exact ⟨0, Nat.zero_le _, rfl, fun j hj => by omega, b0, b1, b2, HL.out, HCA.out⟩
        case round =>
          clear b0 b1 b2 HL HCA hW
          obtain ⟨k, hk, rfl, hok, b0, b1, b2, hl, hc⟩ := hrel
          have HOK := Lib.hid hok; have HL := Lib.hid hl; have HCA := Lib.hid hc
          clear hok hl hc
          by_cases hlt : k < n
          · obtain ⟨g, off, u, rfl, hu1, hu2⟩ := HL.out.at k (by rw [HN.out]; exact hlt)
            have hfa := HF.out.at k (by show k < cs.length; rw [HN.out]; exact hlt)
            simp only [] at hfa
            have hlg := fun m' => r8log_all u (cs.getD k []) (wr.drewN m') (hu2.kept ((Chg.refl (fun _ => False) wr).drewN m') (by simp)) hfa.2
            have hlb := logI_le (totalI (cs.getD k []))
            have hokk : okL log false (cs.getD k []) ↔ (cs.getD k [] = [] ∧ false = false) ∨ ((logI (totalI (cs.getD k [])) : Nat) : Int) = log := Iff.rfl
            obtain ⟨au, cu, rfl⟩ := hu2.form
            obtain ⟨q, hq⟩ : ∃ q, cs.getD k [] = q := ⟨_, rfl⟩
            rw [hq] at hlg hlb hu1 hfa hokk
            have HQ := Lib.hid hq
            obtain ⟨nu, hnu⟩ : ∃ nu, q.length = nu := ⟨_, rfl⟩
            rw [hnu] at hlg hu1 hfa
            obtain ⟨L, hL⟩ : ∃ L, logI (totalI q) = L := ⟨_, rfl⟩
            rw [hL] at hlg hlb hokk
            have HLG := Lib.hid hlg; have HOKK := Lib.hid hokk; have HNU := Lib.hid hnu
            have hLb : (L : Int) ≤ 12 := by omega
            have hnub : (nu : Int) < 100000000000 := by have := hfa.1; omega
            have hkn : (k : Int) < (n : Int) := by omega
            clear hlg hlb hokk hfa hu2 hq hnu hL
            by_cases hz : nu = 0
            · subst hz
              have hst : ∀ j, j < k + 1 → okL log false (cs.getD j []) := fun j hj => by
                by_cases hjk : j = k
                · subst hjk; rw [HQ.out]; exact .inl ⟨List.eq_nil_of_length_eq_zero HNU.out, rfl⟩
                · exact HOK.out j (by omega)
              have HST := Lib.hid hst
              clear hst
              go_wp2
              go_roundw
              case rel => exact ⟨k + 1, by omega, by go_num, HST.out, b0, b1, b2, HL.out, HCA.out⟩
              case measure => simp [intOf]; omega
            · have hzb : ((nu : Int) == 0) = false := by simp; omega
              by_cases heq : (L : Int) = log
              · subst heq
                have hst : ∀ j, j < k + 1 → okL (L : Int) false (cs.getD j []) := fun j hj => by
                  by_cases hjk : j = k
                  · subst hjk; rw [HQ.out]; exact HOKK.out.2 (.inr rfl)
                  · exact HOK.out j (by omega)
                have HST := Lib.hid hst
                clear hst
                go_wp2
                go_quiet (first | (go_at_call 42; with_reducible exact Calls.quiet_of_same (HLG.out _)))
                go_wp2
                go_roundw
                case rel => exact ⟨k + 1, by omega, by go_num, HST.out, b0, b1, b2, HL.out.kept ((Chg.refl _ _).drewN nq), HCA.out.drewN nq⟩
                case measure => simp [intOf]; omega
              · have hne : ((L : Int) != log) = true := by simp [heq]
                have hD1 : D = false := by
                  rw [← HD.out]
                  refine decide_eq_false fun hh => ?_
                  have hat := hh.at k (by show k < cs.length; rw [HN.out]; exact hlt)
                  simp only [] at hat
                  rw [HQ.out] at hat
                  rcases HOKK.out.1 hat with h9 | h9
                  · exact hz (by rw [← HNU.out, h9.1]; rfl)
                  · exact heq h9
                subst hD1
                go_wp2
                go_quiet (first | (go_at_call 42; with_reducible exact Calls.quiet_of_same (HLG.out _)))
                go_wp2
                go_ret
                exact ⟨rfl, HCA.out.drewN nq⟩
          · obtain rfl : k = n := by omega
            have hD1 : D = true := by
              rw [← HD.out]
              exact decide_eq_true ⟨⟨by show 1 ≤ log; omega, by show log ≤ 12; omega⟩, by show cs.length = 256; rw [HN.out]; exact HNL.out, right_take (m := ⟨log, false, cs⟩) HOK.out (by show k = cs.length; exact HN.out.symm)⟩
            subst hD1
            go_wp2
            go_ret
            exact ⟨rfl, HCA.out⟩
      · have hD1 : D = false := by rw [← HD.out]; exact decide_eq_false fun hh => by have := hh.2.1; simp only [] at this; rw [HN.out] at this; exact h3 (by simpa using this)
        subst hD1
        have h3b : ((n : Int) != 256) = true := by simp; omega
        have d1 : decide (log < 1) = false := decide_eq_false h1
        have d2 : decide (12 < log) = false := decide_eq_false h2
        clear h3
        go_enter Try.func16, Try.ntmps16
        go_wp2
        go_ret
        exact ⟨rfl, HCA.out⟩

theorem r16right_any (v : Value) (m : Md) (w : World) (h : RdM w v m) (hf : m.fit64) : Calls Try.prog 16 #[v] w fun e w' => e = .returned (.bool (decide m.right)) ∧ Chg (fun _ => False) w w' := by
  obtain ⟨cv, rfl, h1⟩ := h
  obtain ⟨log, one, cs⟩ := m
  cases one with
  | true => exact r16right_t log cs cv w h1 hf
  | false => exact r16right_f log cs cv w h1 hf

end Go.Proofs.Ythghlfghdmifoaa

/- What the document's own model (puncheonref16) tells: At, Few, Same, Fits. -/
namespace Go.Proofs.Ythghlfghdmifoaa
open Go.RowKit

/-- a block that holds a model -/
def Mb (w : World) (g : Nat) (log : Int) (one : Bool) (cv : Value) : Prop := w.heap[g]? = some (.cells #[.int .i64 log, .bool one, cv] 26 (0, 0))
theorem Mb.kept {S : Nat → Prop} {w w' : World} {g : Nat} {log : Int} {one : Bool} {cv : Value} (h : Mb w g log one cv) (hc : Chg S w w') (hS : ¬ S g) : Mb w' g log one cv := (hc.block g (lt_of_block h) hS).trans h
theorem Mb.cells {w : World} {g : Nat} {log : Int} {one : Bool} {cv : Value} (h : Mb w g log one cv) : w.cell? ⟨g, 0, none⟩ = some (.int .i64 log) ∧ w.cell? ⟨g, 1, none⟩ = some (.bool one) ∧ w.cell? ⟨g, 2, none⟩ = some cv :=
  ⟨by rw [cell_of_row w g 0 _ _ _ h]; rfl, by rw [cell_of_row w g 1 _ _ _ h]; rfl, by rw [cell_of_row w g 2 _ _ _ h]; rfl⟩
theorem Mb.lt {w : World} {g : Nat} {log : Int} {one : Bool} {cv : Value} (h : Mb w g log one cv) : g < w.heap.size := lt_of_block h

theorem atL_not {m : Md} {c : Int} (h : ¬ (m.right ∧ 0 ≤ c ∧ c ≤ 255)) : m.atL c = [] := by unfold Md.atL; rw [if_neg h]
theorem atL_one {log : Int} {cs : List (List Int)} {c : Int} (h : Md.right ⟨log, true, cs⟩ ∧ 0 ≤ c ∧ c ≤ 255) : Md.atL ⟨log, true, cs⟩ c = cs.getD 0 [] := by unfold Md.atL; rw [if_pos h]; simp
theorem atL_ctx {log : Int} {cs : List (List Int)} {c : Int} (h : Md.right ⟨log, false, cs⟩ ∧ 0 ≤ c ∧ c ≤ 255) : Md.atL ⟨log, false, cs⟩ c = cs.getD c.toNat [] := by unfold Md.atL; rw [if_pos h]; simp

theorem atL_len (m : Md) (c : Int) (h : m.atL c ≠ []) : (m.atL c).length = 256 := by
  by_cases hr : m.right ∧ 0 ≤ c ∧ c ≤ 255
  · have hl : ∀ j, j < m.cs.length → m.cs.getD j [] ≠ [] → (m.cs.getD j []).length = 256 := fun j hj hne => by
      rcases hr.1.at j hj with ⟨h1, _⟩ | h1
      · exact absurd h1 hne
      · exact (log_right (by have := hr.1.1; omega)).2
    unfold Md.atL at h ⊢
    rw [if_pos hr] at h ⊢
    have hlen := hr.1.2.1
    by_cases ho : m.one = true
    · rw [if_pos ho] at h hlen ⊢
      exact hl 0 (by omega) h
    · rw [if_neg ho] at h hlen ⊢
      exact hl _ (by omega) h
  · exact absurd (atL_not hr) h

set_option maxHeartbeats 2000000 in
theorem r16at_any (v : Value) (m : Md) (c : Int) (w : World) (h : RdM w v m) (hf : m.fit64) : Calls Try.prog 19 #[v, .int .i64 c] w fun e w' => ∃ u, e = .returned u ∧ RdI w' u (m.atL c) ∧ Chg (fun _ => False) w w' := by
  obtain ⟨cv, rfl, h1⟩ := h
  obtain ⟨log, one, cs⟩ := m
  simp only [] at h1
  obtain ⟨ao, cap, rfl⟩ := h1.form
  have hca := Chg.alloc (fun _ => False) w (.cells #[.int .i64 log, .bool one, .slice ao cs.length cap] 26)
  have hnew : Mb _ _ log one (.slice ao cs.length cap) := heap_alloc_new w (.cells #[.int .i64 log, .bool one, .slice ao cs.length cap] 26)
  have hl := h1.kept hca
  obtain ⟨n, hn⟩ : ∃ n, cs.length = n := ⟨_, rfl⟩
  unfold mdv
  simp only []
  rw [hn] at hca hnew hl ⊢
  obtain ⟨W, hW⟩ : ∃ W, w.alloc (.cells #[.int .i64 log, .bool one, .slice ao n cap] 26) = W := ⟨_, rfl⟩
  rw [hW] at hca hnew hl
  have hrt := r16right_any (.agg #[.int .i64 log, .bool one, .slice ao n cap]) ⟨log, one, cs⟩ W ⟨_, rfl, hl⟩ hf
  obtain ⟨b0, b1, b2⟩ := hnew.cells
  have HRT := Lib.hid hrt; have HCA := Lib.hid hca; have HNEW := Lib.hid hnew; have HL := Lib.hid hl; have HN := Lib.hid hn
  clear h1 hf hca hnew hl hn hrt
  go_enter Try.func19, Try.ntmps19
  go_wp2_with fail
  refine HRT.out.mono ?_
  rintro e w2 ⟨rfl, hc2⟩
  have HC2 := Lib.hid (HCA.out.trans hc2 fun _ _ h => h); have HL2 := Lib.hid (HL.out.kept hc2)
  obtain ⟨e0, e1, e2⟩ := (HNEW.out.kept hc2 (by simp)).cells
  clear hc2 b0 b1 b2 hW HRT HNEW HCA HL
  by_cases hr : Md.right ⟨log, one, cs⟩
  · rw [decide_eq_true hr]
    by_cases hc0 : c < 0
    · have hat := atL_not (m := ⟨log, one, cs⟩) (c := c) (by omega)
      have HAT := Lib.hid hat
      clear hat hr
      go_wp2
      go_ret
      exact ⟨_, rfl, by rw [HAT.out]; exact .inl ⟨rfl, _, _, rfl⟩, HC2.out⟩
    · by_cases hc1 : 255 < c
      · have hat := atL_not (m := ⟨log, one, cs⟩) (c := c) (by omega)
        have HAT := Lib.hid hat
        clear hat hr
        go_wp2
        go_ret
        exact ⟨_, rfl, by rw [HAT.out]; exact .inl ⟨rfl, _, _, rfl⟩, HC2.out⟩
      · have d0 : decide (c < 0) = false := decide_eq_false hc0
        have d1 : decide (255 < c) = false := decide_eq_false hc1
        have hlen := hr.2.1
        simp only [] at hlen
        rw [HN.out] at hlen
        cases one with
        | true =>
          have hn1 : n = 1 := by simpa using hlen
          have hat := atL_one (c := c) ⟨hr, by omega, by omega⟩
          obtain ⟨g, off, u, rfl, hu1, hu2⟩ := HL2.out.at 0 (by rw [HN.out]; omega)
          rw [← hat] at hu2
          rw [Nat.add_zero] at hu1
          have HU2 := Lib.hid hu2
          have hnI : (0 : Int) < (n : Int) := by omega
          clear hat hr hu2 hlen hn1
          go_wp2
          go_ret
          exact ⟨_, rfl, HU2.out, HC2.out⟩
        | false =>
          have hn1 : n = 256 := by simpa using hlen
          have hat := atL_ctx (c := c) ⟨hr, by omega, by omega⟩
          obtain ⟨i, rfl⟩ : ∃ i : Nat, c = (i : Int) := ⟨c.toNat, by omega⟩
          rw [Int.toNat_natCast] at hat
          obtain ⟨g, off, u, rfl, hu1, hu2⟩ := HL2.out.at i (by rw [HN.out]; omega)
          rw [← hat] at hu2
          have HU2 := Lib.hid hu2
          have hnI : (i : Int) < (n : Int) := by omega
          have hnN : i < n := by omega
          clear hat hr hu2 hlen hn1
          go_wp2
          go_ret
          exact ⟨_, rfl, HU2.out, HC2.out⟩
  · rw [decide_eq_false hr]
    have hat := atL_not (m := ⟨log, one, cs⟩) (c := c) (fun hh => hr hh.1)
    have HAT := Lib.hid hat
    clear hat hr
    go_wp2
    go_ret
    exact ⟨_, rfl, by rw [HAT.out]; exact .inl ⟨rfl, _, _, rfl⟩, HC2.out⟩

/-- how many lists aren't empty -/
def nzL (cs : List (List Int)) : Nat := (cs.filter fun l => decide (0 < l.length)).length
theorem nzL_take (cs : List (List Int)) (k : Nat) (hk : k < cs.length) : nzL (cs.take (k + 1)) = nzL (cs.take k) + if 0 < (cs.getD k []).length then 1 else 0 := by
  unfold nzL
  rw [List.take_succ_eq_append_getElem hk, List.filter_append, List.length_append, List.getD_eq_getElem?_getD, List.getElem?_eq_getElem hk]
  simp only [Option.getD_some]
  split
  · next h => simp [h]
  · next h => simp [h]
theorem nzL_le (cs : List (List Int)) : nzL cs ≤ cs.length := List.length_filter_le ..
/-- lists of a number, and a length, that is looked at -/
def fewL (cs : List (List Int)) : Prop := (∀ j, j < cs.length → (cs.getD j []).length ≤ 300) ∧ cs.length ≤ 300 ∧ nzL cs ≤ 40
instance fewL_dec (cs : List (List Int)) : Decidable (fewL cs) := by unfold fewL; infer_instance

set_option maxHeartbeats 2000000 in
theorem r16few_any (v : Value) (m : Md) (w : World) (h : RdM w v m) (hf : m.fit64) : Calls Try.prog 14 #[v] w fun e w' => e = .returned (.bool (decide (fewL m.cs))) ∧ Chg (fun _ => False) w w' := by
  obtain ⟨cv, rfl, h1⟩ := h
  obtain ⟨log, one, cs⟩ := m
  have hf2 := hf.2
  simp only [] at h1 hf2 ⊢
  obtain ⟨D, hD⟩ : ∃ D, decide (fewL cs) = D := ⟨_, rfl⟩
  rw [hD]
  have HD := Lib.hid hD
  obtain ⟨ao, cap, rfl⟩ := h1.form
  have hca := Chg.alloc (fun _ => False) w (.cells #[.int .i64 log, .bool one, .slice ao cs.length cap] 26)
  have hnew : Mb _ _ log one (.slice ao cs.length cap) := heap_alloc_new w (.cells #[.int .i64 log, .bool one, .slice ao cs.length cap] 26)
  have hl := h1.kept hca
  obtain ⟨n, hn⟩ : ∃ n, cs.length = n := ⟨_, rfl⟩
  unfold mdv
  simp only []
  have hnb : (n : Int) < 100000000000 := by have := hf2.1; omega
  rw [hn] at hca hnew hl ⊢
  obtain ⟨W, hW⟩ : ∃ W, w.alloc (.cells #[.int .i64 log, .bool one, .slice ao n cap] 26) = W := ⟨_, rfl⟩
  rw [hW] at hca hnew hl
  obtain ⟨b0, b1, b2⟩ := hnew.cells
  have HCA := Lib.hid hca; have HL := Lib.hid hl; have HN := Lib.hid hn; have HF := Lib.hid hf
  clear h1 hf hf2 hca hnew hl hn hD
  go_enter Try.func14, Try.ntmps14
  go_wp2
  go_loopw [3, 4] (fun o3 o4 wr => ∃ k : Nat, k ≤ n ∧ o4 = .int .i64 (k : Int) ∧ o3 = .int .i64 ((nzL (cs.take k) : Nat) : Int) ∧ (∀ j, j < k → (cs.getD j []).length ≤ 300) ∧ wr = W) (fun _ o4 _ => n - (intOf o4).toNat)
  case atStart => exact ⟨0, Nat.zero_le _, rfl, rfl, fun j hj => by omega, rfl⟩
  case round =>
    obtain ⟨k, hk, rfl, rfl, hok, rfl⟩ := hrel
    have HOK := Lib.hid hok
    clear hok
    by_cases hlt : k < n
    · obtain ⟨g, off, u, rfl, hu1, hu2⟩ := HL.out.at k (by rw [HN.out]; exact hlt)
      have hfa := HF.out.at k (by show k < cs.length; rw [HN.out]; exact hlt)
      simp only [] at hfa
      have hst := nzL_take cs k (by rw [HN.out]; exact hlt)
      have hzb := nzL_le (cs.take k)
      rw [List.length_take, HN.out] at hzb
      obtain ⟨au, cu, rfl⟩ := hu2.form
      obtain ⟨nu, hnu⟩ : ∃ nu, (cs.getD k []).length = nu := ⟨_, rfl⟩
      rw [hnu] at hu1 hst hfa
      obtain ⟨z, hz⟩ : ∃ z, nzL (cs.take k) = z := ⟨_, rfl⟩
      rw [hz] at hst hzb ⊢
      have HNU := Lib.hid hnu; have HST := Lib.hid hst
      have hkn : (k : Int) < (n : Int) := by omega
      have hnub : (nu : Int) < 100000000000 := by have := hfa.1; omega
      have hzI : (z : Int) ≤ 100000000000 := by omega
      clear hfa hnu hst hzb hz hu2
      by_cases hbig : 300 < nu
      · have hD1 : D = false := by rw [← HD.out]; exact decide_eq_false fun hh => by have := hh.1 k (by rw [HN.out]; exact hlt); rw [HNU.out] at this; omega
        subst hD1
        have d1 : decide (300 < (nu : Int)) = true := decide_eq_true (by omega)
        clear hbig
        go_wp2
        go_ret
        exact ⟨rfl, HCA.out⟩
      · have d1 : decide (300 < (nu : Int)) = false := decide_eq_false (by omega)
        have hok2 : ∀ j, j < k + 1 → (cs.getD j []).length ≤ 300 := fun j hj => by
          by_cases hjk : j = k
          · subst hjk; rw [HNU.out]; omega
          · exact HOK.out j (by omega)
        have HOK2 := Lib.hid hok2
        clear hbig hok2
        by_cases hz0 : 0 < nu
        · have d2 : decide (0 < (nu : Int)) = true := decide_eq_true (by omega)
          have hst := HST.out
          rw [if_pos hz0] at hst
          have HST2 := Lib.hid hst
          clear hst
          go_wp2
          go_roundw
          case rel => exact ⟨k + 1, by omega, by go_num, by rw [HST2.out]; go_num, HOK2.out, trivial⟩
          case measure => simp [intOf]; omega
        · have hn0 : nu = 0 := by omega
          subst hn0
          have hst := HST.out
          rw [if_neg hz0, Nat.add_zero] at hst
          have HST2 := Lib.hid hst
          clear hst hz0 d1
          go_wp2
          go_roundw
          case rel => exact ⟨k + 1, by omega, by go_num, by rw [HST2.out]; rfl, HOK2.out, trivial⟩
          case measure => simp [intOf]; omega
    · obtain rfl : k = n := by omega
      rw [List.take_of_length_le (by rw [HN.out]; exact Nat.le_refl _)]
      have hzb := nzL_le cs
      rw [HN.out] at hzb
      have hDe : D = decide (k ≤ 300 ∧ nzL cs ≤ 40) := by
        rw [← HD.out]
        exact decide_eq_decide.2 ⟨fun hh => by have := hh.2; rw [HN.out] at this; exact this, fun hh => ⟨by rw [HN.out]; exact HOK.out, by rw [HN.out]; exact hh⟩⟩
      obtain ⟨z, hz⟩ : ∃ z, nzL cs = z := ⟨_, rfl⟩
      rw [hz] at hDe hzb ⊢
      have hzI : (z : Int) ≤ 100000000000 := by omega
      clear hlt hk hz hzb
      by_cases h3 : k ≤ 300
      · have d1 : decide ((k : Int) ≤ 300) = true := decide_eq_true (by omega)
        by_cases h4 : z ≤ 40
        · rw [decide_eq_true ⟨h3, h4⟩] at hDe
          subst hDe
          have d2 : decide ((z : Int) ≤ 40) = true := decide_eq_true (by omega)
          clear h3 h4
          go_wp2
          go_ret
          exact ⟨rfl, HCA.out⟩
        · rw [decide_eq_false (fun hh => h4 hh.2)] at hDe
          subst hDe
          have d2 : decide ((z : Int) ≤ 40) = false := decide_eq_false (by omega)
          clear h3 h4
          go_wp2
          go_ret
          exact ⟨rfl, HCA.out⟩
      · have d1 : decide ((k : Int) ≤ 300) = false := decide_eq_false (by omega)
        rw [decide_eq_false (fun hh => h3 hh.1)] at hDe
        subst hDe
        clear h3
        go_wp2
        go_ret
        exact ⟨rfl, HCA.out⟩

theorem lists_eq {a b : List (List Int)} (hl : a.length = b.length) (h : ∀ j, j < a.length → a.getD j [] = b.getD j []) : a = b := by
  apply List.ext_getElem hl
  intro i h1 h2
  have := h i h1
  rwa [List.getD_eq_getElem?_getD, List.getD_eq_getElem?_getD, List.getElem?_eq_getElem h1, List.getElem?_eq_getElem h2] at this
theorem md_eq_iff (a b : Md) : a = b ↔ a.log = b.log ∧ a.one = b.one ∧ a.cs = b.cs := by
  obtain ⟨a1, a2, a3⟩ := a
  obtain ⟨b1, b2, b3⟩ := b
  simp
instance md_dec (a b : Md) : Decidable (a = b) := decidable_of_iff _ (md_eq_iff a b).symm

set_option maxHeartbeats 4000000 in
theorem r16same_any (v u : Value) (a b : Md) (w : World) (h : RdM w v a) (h2 : RdM w u b) (hf : a.fit64) (hf2 : b.fit64) : Calls Try.prog 11 #[v, u] w fun e w' => e = .returned (.bool (decide (a = b))) ∧ Chg (fun _ => False) w w' := by
  obtain ⟨cv, rfl, h1⟩ := h
  obtain ⟨cu, rfl, h3⟩ := h2
  obtain ⟨D, hD⟩ : ∃ D, decide (a = b) = D := ⟨_, rfl⟩
  rw [hD]
  have HD := Lib.hid hD
  obtain ⟨log, one, cs⟩ := a
  obtain ⟨log2, one2, cs2⟩ := b
  simp only [] at h1 h3
  obtain ⟨ao, cap, rfl⟩ := h1.form
  obtain ⟨ao2, cap2, rfl⟩ := h3.form
  have hca := Chg.alloc (fun _ => False) w (.cells #[.int .i64 log, .bool one, .slice ao cs.length cap] 26)
  have hcb := Chg.alloc (fun _ => False) (w.alloc (.cells #[.int .i64 log, .bool one, .slice ao cs.length cap] 26)) (.cells #[.int .i64 log2, .bool one2, .slice ao2 cs2.length cap2] 26)
  have hc := hca.trans hcb fun _ _ h => h
  have hn1 : Mb _ _ log one (.slice ao cs.length cap) := heap_alloc2_old w (.cells #[.int .i64 log, .bool one, .slice ao cs.length cap] 26) (.cells #[.int .i64 log2, .bool one2, .slice ao2 cs2.length cap2] 26)
  have hn2 : Mb _ _ log2 one2 (.slice ao2 cs2.length cap2) := heap_alloc2_new w (.cells #[.int .i64 log, .bool one, .slice ao cs.length cap] 26) (.cells #[.int .i64 log2, .bool one2, .slice ao2 cs2.length cap2] 26)
  have hl := h1.kept hc
  have hl2 := h3.kept hc
  obtain ⟨n, hn⟩ : ∃ n, cs.length = n := ⟨_, rfl⟩
  obtain ⟨n2, hnn⟩ : ∃ n2, cs2.length = n2 := ⟨_, rfl⟩
  unfold mdv
  simp only []
  have hnb : (n : Int) < 100000000000 := by have := hf.2.1; simp only [] at this; omega
  rw [hn, hnn] at hc hn1 hn2 hl hl2 ⊢
  obtain ⟨W, hW⟩ : ∃ W, (w.alloc (.cells #[.int .i64 log, .bool one, .slice ao n cap] 26)).alloc (.cells #[.int .i64 log2, .bool one2, .slice ao2 n2 cap2] 26) = W := ⟨_, rfl⟩
  rw [hW] at hc hn1 hn2 hl hl2
  obtain ⟨b0, b1, b2⟩ := hn1.cells
  obtain ⟨c0, c1, c2⟩ := hn2.cells
  have HCA := Lib.hid hc; have HL := Lib.hid hl; have HL2 := Lib.hid hl2; have HN := Lib.hid hn; have HNN := Lib.hid hnn; have HF := Lib.hid hf; have HF2 := Lib.hid hf2
  clear h1 h3 hf hf2 hca hcb hc hn1 hn2 hl hl2 hn hnn hD
  by_cases e1 : log = log2
  · subst e1
    by_cases e2 : one = one2
    · subst e2
      by_cases e3 : n = n2
      · subst e3
        have hnq : ((n : Int) != (n : Int)) = false := by simp
        have hoq : (one != one) = false := by simp
        have hlq : (log != log) = false := by simp
        go_enter Try.func11, Try.ntmps11
        go_wp2
        go_loopw [5] (fun o5 wr => ∃ k : Nat, k ≤ n ∧ o5 = .int .i64 (k : Int) ∧ (∀ j, j < k → cs.getD j [] = cs2.getD j []) ∧ wr.cell? ⟨w.heap.size, 2, none⟩ = some (.slice ao n cap) ∧ wr.cell? ⟨w.heap.size + 1, 2, none⟩ = some (.slice ao2 n cap2) ∧ RdLL wr (.slice ao n cap) cs ∧ RdLL wr (.slice ao2 n cap2) cs2 ∧ Chg (fun _ => False) w wr) (fun o5 _ => n - (intOf o5).toNat)
        case atStart => exact ⟨0, Nat.zero_le _, rfl, fun j hj => by omega, b2, c2, HL.out, HL2.out, HCA.out⟩
        case round =>
          clear b0 b1 b2 c0 c1 c2 HL HL2 HCA hW
          obtain ⟨k, hk, rfl, hok, b2, c2, hl, hl2, hc⟩ := hrel
          have HOK := Lib.hid hok; have HL := Lib.hid hl; have HL2 := Lib.hid hl2; have HCA := Lib.hid hc
          clear hok hl hl2 hc
          by_cases hlt : k < n
          · obtain ⟨g, off, x, rfl, hx1, hx2⟩ := HL.out.at k (by rw [HN.out]; exact hlt)
            obtain ⟨g2, off2, y, rfl, hy1, hy2⟩ := HL2.out.at k (by rw [HNN.out]; exact hlt)
            have hfa := HF.out.at k (by show k < cs.length; rw [HN.out]; exact hlt)
            have hfb := HF2.out.at k (by show k < cs2.length; rw [HNN.out]; exact hlt)
            simp only [] at hfa hfb
            have hin := fun m' => ints_any x y (cs.getD k []) (cs2.getD k []) (wr.drewN m') (hx2.kept ((Chg.refl (fun _ => False) wr).drewN m') (by simp)) (hy2.kept ((Chg.refl (fun _ => False) wr).drewN m') (by simp)) hfa.1 hfb.1
            obtain ⟨au, cu, rfl⟩ := hx2.form
            obtain ⟨au2, cu2, rfl⟩ := hy2.form
            obtain ⟨q, hq⟩ : ∃ q, cs.getD k [] = q := ⟨_, rfl⟩
            obtain ⟨q2, hq2⟩ : ∃ q2, cs2.getD k [] = q2 := ⟨_, rfl⟩
            rw [hq] at hin hx1
            rw [hq2] at hin hy1
            have HQ := Lib.hid hq; have HQ2 := Lib.hid hq2
            obtain ⟨nu, hnu⟩ : ∃ nu, q.length = nu := ⟨_, rfl⟩
            obtain ⟨nv, hnv⟩ : ∃ nv, q2.length = nv := ⟨_, rfl⟩
            rw [hnu] at hin hx1
            rw [hnv] at hin hy1
            have HIN := Lib.hid hin
            have hkn : (k : Int) < (n : Int) := by omega
            clear hin hfa hfb hx2 hy2 hq hq2 hnu hnv
            by_cases heq : q = q2
            · have hst : ∀ j, j < k + 1 → cs.getD j [] = cs2.getD j [] := fun j hj => by
                by_cases hjk : j = k
                · subst hjk; rw [HQ.out, HQ2.out]; exact heq
                · exact HOK.out j (by omega)
              rw [decide_eq_true heq] at HIN
              have HST := Lib.hid hst
              clear hst heq
              go_wp2
              go_quiet (first | (go_at_call 17; with_reducible exact Calls.quiet_of (HIN.out _)))
              go_wp2
              go_roundw
              case rel => exact ⟨k + 1, by omega, by go_num, HST.out, b2, c2, HL.out.kept ((Chg.refl _ _).drewN nq), HL2.out.kept ((Chg.refl _ _).drewN nq), HCA.out.drewN nq⟩
              case measure => simp [intOf]; omega
            · have hD1 : D = false := by
                rw [← HD.out]
                exact decide_eq_false fun hh => heq (by rw [← HQ.out, ← HQ2.out, show cs = cs2 from ((md_eq_iff _ _).1 hh).2.2])
              subst hD1
              rw [decide_eq_false heq] at HIN
              clear heq
              go_wp2
              go_quiet (first | (go_at_call 17; with_reducible exact Calls.quiet_of (HIN.out _)))
              go_wp2
              go_ret
              exact ⟨rfl, HCA.out.drewN nq⟩
          · obtain rfl : k = n := by omega
            have hD1 : D = true := by
              rw [← HD.out]
              exact decide_eq_true ((md_eq_iff _ _).2 ⟨rfl, rfl, lists_eq (by show cs.length = cs2.length; rw [HN.out, HNN.out]) (by show ∀ j, j < cs.length → _; rw [HN.out]; exact HOK.out)⟩)
            subst hD1
            go_wp2
            go_ret
            exact ⟨rfl, HCA.out⟩
      · have hD1 : D = false := by rw [← HD.out]; exact decide_eq_false fun hh => e3 (by rw [← HN.out, ← HNN.out, show cs = cs2 from ((md_eq_iff _ _).1 hh).2.2])
        subst hD1
        have hnq : ((n : Int) != (n2 : Int)) = true := by simp; omega
        go_enter Try.func11, Try.ntmps11
        go_wp2
        go_ret
        exact ⟨rfl, HCA.out⟩
    · have hD1 : D = false := by rw [← HD.out]; exact decide_eq_false fun hh => e2 ((md_eq_iff _ _).1 hh).2.1
      subst hD1
      have hnq : (one != one2) = true := by simp [e2]
      go_enter Try.func11, Try.ntmps11
      go_wp2
      go_ret
      exact ⟨rfl, HCA.out⟩
  · have hD1 : D = false := by rw [← HD.out]; exact decide_eq_false fun hh => e1 ((md_eq_iff _ _).1 hh).1
    subst hD1
    have hnq : (log != log2) = true := by simp [e1]
    go_enter Try.func11, Try.ntmps11
    go_wp2
    go_ret
    exact ⟨rfl, HCA.out⟩

end Go.Proofs.Ythghlfghdmifoaa

/- What hist's Right, Many, Total, Of and Add tell. THIS ALONE SPEAKS OF THE PROGRAM'S OWN TEXT. -/
namespace Go.Proofs.Ythghlfghdmifoaa
open Go.RowKit

set_option maxHeartbeats 1000000 in
set_option maxRecDepth 100000 in
theorem hright_any (v : Value) (cs : List Int) (w : World) (h : RdI w v cs) (hb : ∀ z ∈ cs, -9223372036854775808 ≤ z ∧ z ≤ 9223372036854775807) (hl : cs.length < 100000000000) :
    Calls Try.prog 49 #[v] w fun e w' => e = .returned (.bool (decide (isRight cs))) ∧ ∃ m, w' = w.drewN m := by
  obtain ⟨ao, cap, rfl⟩ := h.form
  have H := Lib.hid h; have HB := Lib.hid hb
  clear h hb
  by_cases hlen : cs.length = 256
  · have hq : ((cs.length : Int) != 256) = false := by rw [hlen]; rfl
    have HLEN := Lib.hid hlen
    have hle256 : cs.length ≤ 256 := by omega
    clear hlen
    go_enter Try.func49, Try.ntmps49
    go_wp2
    go_loopw [3, 11] (fun o3 o11 wr => ∃ k : Nat, k ≤ cs.length ∧ o11 = .int .i64 (k : Int) ∧ o3 = .int .i64 (1073741824 - tot (cs.take k)) ∧ upTo cs k ∧ tot (cs.take k) ≤ 1073741824 ∧ wr = w) (fun _ o11 _ => cs.length - (intOf o11).toNat)
    case atStart => exact ⟨0, Nat.zero_le _, rfl, by simp [tot], upTo_zero _, by simp [tot], rfl⟩
    case round =>
      obtain ⟨k, hk, rfl, rfl, hup, hle, rfl⟩ := hrel
      have h0 := upTo_take hup
      have HUP := Lib.hid hup
      clear hup
      by_cases hlt : k < cs.length
      · obtain ⟨g, off, rfl, hc⟩ := H.out.at k hlt
        have hsu := tot_take_succ cs k hlt
        have hat : isRight cs → _ := fun h => h.at k hlt
        have hbk := HB.out _ (getD_mem hlt)
        obtain ⟨x, hx⟩ : ∃ x, cs.getD k 0 = x := ⟨_, rfl⟩
        obtain ⟨t, ht⟩ : ∃ t, tot (cs.take k) = t := ⟨_, rfl⟩
        rw [hx] at hc hsu hat hbk
        rw [ht] at hsu hle h0 hat ⊢
        have HXX := Lib.hid hx; have HSU := Lib.hid hsu; have HAT := Lib.hid hat
        clear hx ht hsu hat
        by_cases hneg : x < 0
        · have d1 : decide (x < 0) = true := decide_eq_true hneg
          go_wp2
          go_ret
          have hd : decide (isRight cs) = false := decide_eq_false fun h => by have := HAT.out h; omega
          rw [hd]
          exact ⟨rfl, 0, rfl⟩
        · have d1 : decide (x < 0) = false := decide_eq_false hneg
          by_cases hbig : 1073741824 - t < x
          · have d2 : decide (1073741824 - t < x) = true := decide_eq_true hbig
            go_wp2
            go_ret
            have hd : decide (isRight cs) = false := decide_eq_false fun h => by have := HAT.out h; omega
            rw [hd]
            exact ⟨rfl, 0, rfl⟩
          · have d2 : decide (1073741824 - t < x) = false := decide_eq_false hbig
            go_wp2
            go_roundw
            case rel => exact ⟨k + 1, by omega, by go_num, by rw [HSU.out]; go_num, upTo_succ HUP.out (by rw [HXX.out]; omega), by rw [HSU.out]; omega, trivial⟩
            case measure => simp [intOf]; omega
      · obtain rfl : k = cs.length := by omega
        rw [List.take_length] at h0 hle ⊢
        have hd : decide (isRight cs) = true := decide_eq_true ⟨HLEN.out, upTo_all rfl HUP.out, hle⟩
        have HD := Lib.hid hd
        clear hd
        go_wp2
        go_ret
        rw [HD.out]
        exact ⟨rfl, 0, rfl⟩
  · have hq : ((cs.length : Int) != 256) = true := by simp; omega
    go_enter Try.func49, Try.ntmps49
    go_wp2
    go_ret
    have hd : decide (isRight cs) = false := decide_eq_false fun h => hlen h.1
    rw [hd]
    exact ⟨rfl, 0, rfl⟩

set_option maxHeartbeats 1000000 in
theorem hmany_any (v : Value) (cs : List Int) (w : World) (h : RdI w v cs) (hb : ∀ z ∈ cs, -9223372036854775808 ≤ z ∧ z ≤ 9223372036854775807) (hl : cs.length < 100000000000) :
    Calls Try.prog 25 #[v] w fun e w' => e = .returned (.int .i64 ((manyI cs : Nat) : Int)) ∧ ∃ m, w' = w.drewN m := by
  have HR := Lib.hid (hright_any v cs w h hb hl)
  obtain ⟨ao, cap, rfl⟩ := h.form
  have H := Lib.hid h; have HB := Lib.hid hb
  clear h hb
  go_enter Try.func25, Try.ntmps25
  go_wp2_with fail
  refine HR.out.mono ?_
  rintro e w' ⟨rfl, m0, rfl⟩
  clear HR
  by_cases hr : isRight cs
  · rw [decide_eq_true hr]
    have hlen : cs.length ≤ 256 := by rw [hr.1]; exact Nat.le_refl _
    have HRR := Lib.hid hr
    clear hr
    go_wp2
    go_loopw [3, 11] (fun o3 o11 wr => ∃ k : Nat, k ≤ cs.length ∧ o11 = .int .i64 (k : Int) ∧ o3 = .int .i64 ((pos (cs.take k) : Nat) : Int) ∧ wr = w.drewN m0) (fun _ o11 _ => cs.length - (intOf o11).toNat)
    case atStart => exact ⟨0, Nat.zero_le _, rfl, rfl, rfl⟩
    case round =>
      obtain ⟨k, hk, rfl, rfl, rfl⟩ := hrel
      have hp : pos (cs.take k) ≤ 256 := by have := pos_le (cs.take k); rw [List.length_take] at this; omega
      by_cases hlt : k < cs.length
      · obtain ⟨g, off, rfl, hc⟩ := H.out.at k hlt
        have hsu := pos_take_succ cs k hlt
        obtain ⟨x, hx⟩ : ∃ x, cs.getD k 0 = x := ⟨_, rfl⟩
        obtain ⟨t, ht⟩ : ∃ t, pos (cs.take k) = t := ⟨_, rfl⟩
        rw [hx] at hc hsu
        rw [ht] at hsu hp ⊢
        clear hx ht
        by_cases hx0 : 0 < x
        · have d1 : decide (0 < x) = true := decide_eq_true hx0
          rw [if_pos hx0] at hsu
          have HSU := Lib.hid hsu
          clear hsu
          go_wp2
          go_roundw
          case rel => exact ⟨k + 1, by omega, by go_num, by rw [HSU.out]; go_num, trivial⟩
          case measure => simp [intOf]; omega
        · have d1 : decide (0 < x) = false := decide_eq_false hx0
          rw [if_neg hx0] at hsu
          have HSU := Lib.hid hsu
          clear hsu
          go_wp2
          go_roundw
          case rel => exact ⟨k + 1, by omega, by go_num, by rw [HSU.out]; go_num, trivial⟩
          case measure => simp [intOf]; omega
      · obtain rfl : k = cs.length := by omega
        rw [List.take_length] at hp ⊢
        have hm : manyI cs = pos cs := by unfold manyI; rw [if_pos HRR.out]
        have HM := Lib.hid hm
        clear hm
        go_wp2
        go_ret
        rw [HM.out]
        exact ⟨rfl, m0, rfl⟩
  · rw [decide_eq_false hr]
    have hm : manyI cs = 0 := by unfold manyI; rw [if_neg hr]
    have HM := Lib.hid hm
    clear hm hr
    go_wp2
    go_ret
    rw [HM.out]
    exact ⟨rfl, m0, rfl⟩

set_option maxHeartbeats 1000000 in
theorem htotal_any (v : Value) (cs : List Int) (w : World) (h : RdI w v cs) (hb : ∀ z ∈ cs, -9223372036854775808 ≤ z ∧ z ≤ 9223372036854775807) (hl : cs.length < 100000000000) :
    Calls Try.prog 24 #[v] w fun e w' => e = .returned (.int .i64 (totalI cs)) ∧ ∃ m, w' = w.drewN m := by
  have HR := Lib.hid (hright_any v cs w h hb hl)
  obtain ⟨ao, cap, rfl⟩ := h.form
  have H := Lib.hid h; have HB := Lib.hid hb
  clear h hb
  go_enter Try.func24, Try.ntmps24
  go_wp2_with fail
  refine HR.out.mono ?_
  rintro e w' ⟨rfl, m0, rfl⟩
  clear HR
  by_cases hr : isRight cs
  · rw [decide_eq_true hr]
    have hlen : cs.length ≤ 256 := by rw [hr.1]; exact Nat.le_refl _
    have HRR := Lib.hid hr
    clear hr
    go_wp2
    go_loopw [3, 11] (fun o3 o11 wr => ∃ k : Nat, k ≤ cs.length ∧ o11 = .int .i64 (k : Int) ∧ o3 = .int .i64 (tot (cs.take k)) ∧ wr = w.drewN m0) (fun _ o11 _ => cs.length - (intOf o11).toNat)
    case atStart => exact ⟨0, Nat.zero_le _, rfl, rfl, rfl⟩
    case round =>
      obtain ⟨k, hk, rfl, rfl, rfl⟩ := hrel
      by_cases hlt : k < cs.length
      · obtain ⟨g, off, rfl, hc⟩ := H.out.at k hlt
        have hsu := tot_take_succ cs k hlt
        have hat := HRR.out.at k hlt
        have h0 : 0 ≤ tot (cs.take k) := tot_nonneg _ fun c hc => HRR.out.2.1 c (List.mem_of_mem_take hc)
        obtain ⟨x, hx⟩ : ∃ x, cs.getD k 0 = x := ⟨_, rfl⟩
        obtain ⟨t, ht⟩ : ∃ t, tot (cs.take k) = t := ⟨_, rfl⟩
        rw [hx] at hc hsu hat
        rw [ht] at hsu hat h0 ⊢
        have HSU := Lib.hid hsu
        clear hx ht hsu
        go_wp2
        go_roundw
        case rel => exact ⟨k + 1, by omega, by go_num, by rw [HSU.out], trivial⟩
        case measure => simp [intOf]; omega
      · obtain rfl : k = cs.length := by omega
        rw [List.take_length]
        have hm : totalI cs = tot cs := by unfold totalI; rw [if_pos HRR.out]
        have HM := Lib.hid hm
        clear hm
        go_wp2
        go_ret
        rw [HM.out]
        exact ⟨rfl, m0, rfl⟩
  · rw [decide_eq_false hr]
    have hm : totalI cs = 0 := by unfold totalI; rw [if_neg hr]
    have HM := Lib.hid hm
    clear hm hr
    go_wp2
    go_ret
    rw [HM.out]
    exact ⟨rfl, m0, rfl⟩

theorem zeroCounts : ∃ Z : List Value, Z = iw (List.replicate 256 0) ∧ ∀ W : World, (zeroValue 62).run Try.prog W = .ok (.agg Z.toArray) W := ⟨_, rfl, fun W => by kernel_rfl⟩

theorem cnt_take_succ (xs : List Nat) (k : Nat) (hk : k < xs.length) (hx : xs.getD k 0 < 256) : cnt (xs.take (k + 1)) = (cnt (xs.take k)).set (xs.getD k 0) ((cnt (xs.take k)).getD (xs.getD k 0) 0 + 1) := by
  rw [← cnt_snoc _ _ hx]
  congr 1
  rw [List.take_succ_eq_append_getElem hk, List.getD_eq_getElem?_getD, List.getElem?_eq_getElem hk]; rfl

theorem cnt_bound (xs : List Nat) (u : Nat) (hu : u < 256) : 0 ≤ (cnt xs).getD u 0 ∧ (cnt xs).getD u 0 ≤ xs.length := by
  rw [cnt_getD _ _ hu]
  have h1 := List.count_le_length (l := xs) (a := u)
  omega

set_option maxHeartbeats 1000000 in
set_option maxRecDepth 100000 in
theorem hof_any (v : Value) (xs : List Nat) (w : World) (h : RdB w v xs) (hx : ∀ x ∈ xs, x < 256) (hl : xs.length < 100000000000) :
    Calls Try.prog 23 #[v] w fun e w' => ∃ v', e = .returned v' ∧ OwnI w' w.heap.size v' (cnt xs) ∧ Chg (fun _ => False) w w' := by
  obtain ⟨ao, cap, rfl⟩ := h.form
  have H := Lib.hid h; have HX := Lib.hid hx
  clear h hx
  obtain ⟨Z, hZ, hzero⟩ := zeroCounts
  have h0 : RowI (w.alloc (.cells Z.toArray 62)) w.heap.size 62 (cnt (xs.take 0)) := by
    rw [List.take_zero, cnt_nil]; unfold RowI; rw [← hZ]; exact heap_alloc_new w _
  have H0 := Lib.hid h0
  have HC0 := Lib.hid (Chg.alloc (fun _ => False) w (.cells Z.toArray 62))
  clear hZ h0
  go_enter Try.func23, Try.ntmps23
  go_wp2
  go_loopw [8] (fun o8 wr => ∃ k : Nat, k ≤ xs.length ∧ o8 = .int .i64 (k : Int) ∧ RowI wr w.heap.size 62 (cnt (xs.take k)) ∧ Chg (fun _ => False) w wr) (fun o8 _ => xs.length - (intOf o8).toNat)
  case atStart => exact ⟨0, Nat.zero_le _, rfl, H0.out, HC0.out⟩
  case round =>
    obtain ⟨k, hk, rfl, hrow, hc⟩ := hrel
    clear H0 HC0
    by_cases hlt : k < xs.length
    · obtain ⟨g, off, rfl, hcell⟩ := (H.out.kept hc (by simp)).at k hlt
      have hy := getD_lt xs HX.out k
      have hst := cnt_take_succ xs k hlt hy
      obtain ⟨y, hye⟩ : ∃ y, xs.getD k 0 = y := ⟨_, rfl⟩
      rw [hye] at hcell hy hst
      have hcu := hrow.cell y (by rw [cnt_length]; exact hy)
      have hfu := hrow.free y
      have hbd := cnt_bound (xs.take k) y hy
      rw [List.length_take] at hbd
      have hr2 := hrow.set y ((cnt (xs.take k)).getD y 0 + 1)
      rw [← hst] at hr2
      have hc2 : Chg (fun _ => False) w (wr.setCell ⟨w.heap.size, y, none⟩ (.int .i64 ((cnt (xs.take k)).getD y 0 + 1))) := hc.trans (Chg.setCell wr ⟨w.heap.size, y, none⟩ _) (fun q hq h => by simp at h; omega)
      obtain ⟨z, hze⟩ : ∃ z, (cnt (xs.take k)).getD y 0 = z := ⟨_, rfl⟩
      rw [hze] at hcu hbd hr2 hc2
      have hz0 := hbd.1
      have hz1 : z ≤ 100000000000 := by omega
      have HR2 := Lib.hid hr2; have HC2 := Lib.hid hc2
      clear hst hr2 hc2 hrow hc hze hye hbd
      go_wp2
      go_roundw
      case rel => exact ⟨k + 1, by omega, by go_num, HR2.out, HC2.out⟩
      case measure => simp [intOf]; omega
    · obtain rfl : k = xs.length := by omega
      rw [List.take_length] at hrow
      go_wp2
      go_ret
      exact ⟨_, rfl, by have := hrow.own 256 w.heap.size (Nat.le_refl _); rw [cnt_length] at this; exact this, hc⟩

end Go.Proofs.Ythghlfghdmifoaa

/- Plain: heaps, as container/heap keeps them (a row; who stands at k stands behind who stands at (k - 1) / 2). -/
namespace Go.Proofs.Ythghlfghdmifoaa
open Go

structure TotalOrd {α : Type} (le : α → α → Prop) : Prop where
  total : ∀ a b, le a b ∨ le b a
  trans : ∀ {a b c}, le a b → le b c → le a c

theorem TotalOrd.refl {α : Type} {le : α → α → Prop} (o : TotalOrd le) (a : α) : le a a := (o.total a a).elim id id

section
variable {α : Type} [Inhabited α]

/-- two have changed places -/
def swp (l : List α) (i j : Nat) : List α := (l.set i (l.getD j default)).set j (l.getD i default)
theorem swp_length (l : List α) (i j : Nat) : (swp l i j).length = l.length := by simp [swp]
theorem aset_getD (l : List α) (i k : Nat) (x : α) (hi : i < l.length) : (l.set i x).getD k default = if i = k then x else l.getD k default := by
  by_cases h : i = k
  · subst h; rw [if_pos rfl, List.getD_eq_getElem?_getD, List.getElem?_set_self hi]; rfl
  · rw [if_neg h, List.getD_eq_getElem?_getD, List.getElem?_set_ne h, ← List.getD_eq_getElem?_getD]
theorem swp_getD (l : List α) (i j k : Nat) (hi : i < l.length) (hj : j < l.length) : (swp l i j).getD k default = if j = k then l.getD i default else if i = k then l.getD j default else l.getD k default := by
  unfold swp
  rw [aset_getD _ _ _ _ (by simpa using hj), aset_getD _ _ _ _ hi]
theorem swp_perm (l : List α) (i j : Nat) (hi : i < l.length) (hj : j < l.length) : (swp l i j).Perm l := by
  classical
  rw [List.perm_iff_count]
  intro a
  have hp : l[i] ∈ l := List.getElem_mem hi
  have hgi : l.getD i default = l[i] := by rw [List.getD_eq_getElem?_getD, List.getElem?_eq_getElem hi]; rfl
  have hgj : l.getD j default = l[j] := by rw [List.getD_eq_getElem?_getD, List.getElem?_eq_getElem hj]; rfl
  have hs : swp l i j = (l.set i l[j]).set j l[i] := by unfold swp; rw [hgi, hgj]
  rw [hs, List.count_set (h := by simpa using hj), List.count_set (h := hi), List.getElem_set]
  by_cases hij : i = j
  · subst hij
    rw [if_pos rfl]
    have hc : (if (l[i] == a) = true then 1 else 0) ≤ l.count a := by
      split
      · next h => rw [List.one_le_count_iff]; have := LawfulBEq.eq_of_beq h; rw [← this]; exact hp
      · omega
    omega
  · rw [if_neg hij]
    have hc : (if (l[i] == a) = true then 1 else 0) ≤ l.count a := by
      split
      · next h => rw [List.one_le_count_iff]; have := LawfulBEq.eq_of_beq h; rw [← this]; exact hp
      · omega
    have hc2 : (if (l[j] == a) = true then 1 else 0) ≤ l.count a := by
      split
      · next h => rw [List.one_le_count_iff]; have := LawfulBEq.eq_of_beq h; rw [← this]; exact List.getElem_mem hj
      · omega
    omega

/-- the first n are a heap -/
def Heap (le : α → α → Prop) (l : List α) (n : Nat) : Prop := ∀ k, 0 < k → k < n → le (l.getD ((k - 1) / 2) default) (l.getD k default)

theorem Heap.least {le : α → α → Prop} (o : TotalOrd le) {l : List α} {n : Nat} (h : Heap le l n) : ∀ k, k < n → le (l.getD 0 default) (l.getD k default) := by
  intro k
  induction k using Nat.strongRecOn with
  | ind k ih =>
    intro hk
    by_cases h0 : k = 0
    · subst h0; exact o.refl _
    · exact o.trans (ih ((k - 1) / 2) (by omega) (by omega)) (h k (by omega) hk)

/-- a heap, but for who stands at j, that may stand too far behind -/
structure UpInv (le : α → α → Prop) (l : List α) (n j : Nat) : Prop where
  lt : j < n
  rest : ∀ k, 0 < k → k < n → k ≠ j → le (l.getD ((k - 1) / 2) default) (l.getD k default)
  over : ∀ k, 0 < k → k < n → (k - 1) / 2 = j → 0 < j → le (l.getD ((j - 1) / 2) default) (l.getD k default)

theorem UpInv.done {le : α → α → Prop} {l : List α} {n j : Nat} (h : UpInv le l n j) (hd : j = 0 ∨ le (l.getD ((j - 1) / 2) default) (l.getD j default)) : Heap le l n := by
  intro k h0 hk
  by_cases hkj : k = j
  · subst hkj
    rcases hd with hd | hd
    · omega
    · exact hd
  · exact h.rest k h0 hk hkj

theorem UpInv.step {le : α → α → Prop} (o : TotalOrd le) {l : List α} {n j : Nat} (hn : n ≤ l.length) (h : UpInv le l n j) (hj : 0 < j) (hl : ¬ le (l.getD ((j - 1) / 2) default) (l.getD j default)) : UpInv le (swp l ((j - 1) / 2) j) n ((j - 1) / 2) := by
  have hlt := h.lt
  obtain ⟨i, hi⟩ : ∃ i, (j - 1) / 2 = i := ⟨_, rfl⟩
  rw [hi] at hl ⊢
  have hij : i < j := by omega
  have hji : le (l.getD j default) (l.getD i default) := (o.total _ _).resolve_left hl
  have g := fun k => swp_getD l i j k (by omega) (by omega)
  refine ⟨by omega, fun k h0 hk hki => ?_, fun k h0 hk hpk hi0 => ?_⟩
  · rw [g, g]
    by_cases hkj : j = k
    · subst hkj
      rw [if_neg (show ¬ j = (j - 1) / 2 by omega), if_pos hi.symm, if_pos rfl]
      exact hji
    · rw [if_neg hkj, if_neg (show ¬ i = k from fun hh => hki hh.symm)]
      by_cases hp1 : j = (k - 1) / 2
      · rw [if_pos hp1]
        have := h.over k h0 hk hp1.symm hj
        rw [hi] at this
        exact this
      · rw [if_neg hp1]
        by_cases hp2 : i = (k - 1) / 2
        · rw [if_pos hp2]
          have := h.rest k h0 hk (fun hh => hkj hh.symm)
          rw [← hp2] at this
          exact o.trans hji this
        · rw [if_neg hp2]
          exact h.rest k h0 hk (fun hh => hkj hh.symm)
  · rw [g, g]
    have hpi : le (l.getD ((i - 1) / 2) default) (l.getD i default) := h.rest i hi0 (by omega) (by omega)
    rw [if_neg (show ¬ j = (i - 1) / 2 by omega), if_neg (show ¬ i = (i - 1) / 2 by omega)]
    by_cases hkj : j = k
    · rw [if_pos hkj]; exact hpi
    · rw [if_neg hkj, if_neg (show ¬ i = k by omega)]
      have := h.rest k h0 hk (fun hh => hkj hh.symm)
      rw [hpk] at this
      exact o.trans hpi this

/-- the first n are a heap, as far as those go whose parents stand at lo or behind -/
def HeapFrom (le : α → α → Prop) (l : List α) (n lo : Nat) : Prop := ∀ k, 0 < k → k < n → lo ≤ (k - 1) / 2 → le (l.getD ((k - 1) / 2) default) (l.getD k default)
theorem HeapFrom.heap {le : α → α → Prop} {l : List α} {n : Nat} (h : HeapFrom le l n 0) : Heap le l n := fun k h0 hk => h k h0 hk (Nat.zero_le _)
theorem Heap.all {le : α → α → Prop} {l : List α} {n : Nat} (h : Heap le l n) : HeapFrom le l n 0 := fun k h0 hk _ => h k h0 hk

/-- a heap (from lo on), but for who stands at i, that may stand too far ahead -/
structure DownInv (le : α → α → Prop) (l : List α) (n lo i : Nat) : Prop where
  ge : lo ≤ i
  rest : ∀ k, 0 < k → k < n → lo ≤ (k - 1) / 2 → (k - 1) / 2 ≠ i → le (l.getD ((k - 1) / 2) default) (l.getD k default)
  over : ∀ k, 0 < k → k < n → (k - 1) / 2 = i → 0 < i → lo ≤ (i - 1) / 2 → le (l.getD ((i - 1) / 2) default) (l.getD k default)

theorem DownInv.done {le : α → α → Prop} {l : List α} {n lo i : Nat} (h : DownInv le l n lo i) (hd : ∀ k, 0 < k → k < n → (k - 1) / 2 = i → le (l.getD i default) (l.getD k default)) : HeapFrom le l n lo := by
  intro k h0 hk hlo
  by_cases hp : (k - 1) / 2 = i
  · rw [hp]; exact hd k h0 hk hp
  · exact h.rest k h0 hk hlo hp

theorem DownInv.step {le : α → α → Prop} (_o : TotalOrd le) {l : List α} {n lo i j : Nat} (hn : n ≤ l.length) (h : DownInv le l n lo i) (hj0 : 0 < j) (hjn : j < n) (hpj : (j - 1) / 2 = i)
    (hmin : ∀ k, 0 < k → k < n → (k - 1) / 2 = i → le (l.getD j default) (l.getD k default)) (hji : le (l.getD j default) (l.getD i default)) : DownInv le (swp l i j) n lo j := by
  have hij : i < j := by omega
  have hge := h.ge
  have g := fun k => swp_getD l i j k (by omega) (by omega)
  refine ⟨by omega, fun k h0 hk hlo hpk => ?_, fun k h0 hk hpk hj hlo => ?_⟩
  · rw [g, g]
    rw [if_neg (show ¬ j = (k - 1) / 2 from fun hh => hpk hh.symm)]
    by_cases hpi : i = (k - 1) / 2
    · rw [if_pos hpi]
      by_cases hkj : j = k
      · rw [if_pos hkj]; exact hji
      · rw [if_neg hkj, if_neg (show ¬ i = k by omega)]
        exact hmin k h0 hk hpi.symm
    · rw [if_neg hpi, if_neg (show ¬ j = k by omega)]
      by_cases hki : i = k
      · subst hki
        rw [if_pos rfl]
        exact h.over j hj0 hjn hpj h0 hlo
      · rw [if_neg hki]
        exact h.rest k h0 hk hlo (fun hh => hpi hh.symm)
  · rw [g, g]
    rw [if_neg (show ¬ j = (j - 1) / 2 by omega), if_pos hpj.symm, if_neg (show ¬ j = k by omega), if_neg (show ¬ i = k by omega)]
    have := h.rest k h0 hk (by omega) (by omega)
    rw [hpk] at this
    exact this

theorem DownInv.start {le : α → α → Prop} {l : List α} {n i : Nat} (h : HeapFrom le l n (i + 1)) : DownInv le l n i i :=
  ⟨Nat.le_refl _, fun k h0 hk hlo hne => h k h0 hk (by omega), fun k h0 hk hp hi hlo => by omega⟩

/-- a heap, one behind it: it may stand too far behind -/
theorem UpInv.pushed {le : α → α → Prop} {l : List α} (h : Heap le l l.length) (x : α) : UpInv le (l ++ [x]) (l.length + 1) l.length := by
  have g : ∀ k, k < l.length → (l ++ [x]).getD k default = l.getD k default := fun k hk => by
    rw [List.getD_eq_getElem?_getD, List.getElem?_append_left hk, ← List.getD_eq_getElem?_getD]
  refine ⟨by omega, fun k h0 hk hkl => ?_, fun k h0 hk hp _ => by omega⟩
  rw [g k (by omega), g ((k - 1) / 2) (by omega)]
  exact h k h0 (by omega)

/-- the last one put first: it may stand too far ahead -/
theorem DownInv.popped {le : α → α → Prop} {l : List α} {n : Nat} (hl : l.length = n + 1) (h : Heap le l (n + 1)) : DownInv le (swp l 0 n) n 0 0 := by
  have g := fun k => swp_getD l 0 n k (by omega) (by omega)
  refine ⟨Nat.le_refl _, fun k h0 hk _ hp => ?_, fun k h0 hk hp hh => by omega⟩
  rw [g, g, if_neg (show ¬ n = (k - 1) / 2 by omega), if_neg (show ¬ 0 = (k - 1) / 2 by omega), if_neg (show ¬ n = k by omega), if_neg (show ¬ 0 = k by omega)]
  exact h k h0 (by omega)

/-- who stands first was changed: it may stand too far ahead -/
theorem DownInv.changed0 {le : α → α → Prop} {l : List α} {n : Nat} (x : α) (hi : 0 < l.length) (h : Heap le l n) : DownInv le (l.set 0 x) n 0 0 := by
  have g := fun k => aset_getD l 0 k x hi
  refine ⟨Nat.le_refl _, fun k h0 hk _ hp => ?_, fun k h0 hk hp h0i _ => by omega⟩
  rw [g, g, if_neg (show ¬ 0 = k by omega), if_neg (fun hh => hp hh.symm)]
  exact h k h0 hk

theorem UpInv.of_heap {le : α → α → Prop} {l : List α} {n : Nat} (h : Heap le l n) (h0 : 0 < n) : UpInv le l n 0 := ⟨h0, fun k h0 hk _ => h k h0 hk, fun k _ _ _ h => by omega⟩

theorem HeapFrom.leaves {le : α → α → Prop} {l : List α} {n lo : Nat} (h : n ≤ 2 * lo + 1) : HeapFrom le l n lo := fun k h0 hk hlo => by omega

/-- the last one apart -/
theorem last_apart (l : List α) (n : Nat) (h : l.length = n + 1) : l = l.take n ++ [l.getD n default] := by
  rw [List.getD_eq_getElem?_getD, List.getElem?_eq_getElem (by omega)]
  have := List.take_append_getElem (l := l) (i := n) (by omega)
  simp only [Option.getD_some]
  rw [this, List.take_of_length_le (by omega)]

theorem Heap.take {le : α → α → Prop} {l : List α} {n : Nat} (h : Heap le l n) (hn : n ≤ l.length) : Heap le (l.take n) (l.take n).length := by
  have g : ∀ k, k < n → (l.take n).getD k default = l.getD k default := fun k hk => by
    rw [List.getD_eq_getElem?_getD, List.getElem?_take_of_lt hk, ← List.getD_eq_getElem?_getD]
  intro k h0 hk
  rw [List.length_take, Nat.min_eq_left hn] at hk
  rw [g k hk, g _ (by omega)]
  exact h k h0 hk

theorem Heap.least_mem {le : α → α → Prop} (o : TotalOrd le) {l : List α} (h : Heap le l l.length) {y : α} (hy : y ∈ l) : le (l.getD 0 default) y := by
  obtain ⟨k, hk, rfl⟩ := List.getElem_of_mem hy
  have := h.least o k hk
  rw [List.getD_eq_getElem?_getD (l := l) (i := k), List.getElem?_eq_getElem hk] at this
  exact this

end

/-- no less: what a heap keeps -/
def noLess {α : Type} (lt : α → α → Bool) (a b : α) : Prop := lt b a = false
theorem noLess_of {α : Type} {lt : α → α → Bool} (o : TotalOrd (noLess lt)) {a b : α} (h : lt a b = true) : noLess lt a b := by
  rcases o.total b a with h1 | h1
  · unfold noLess at h1; rw [h] at h1; cases h1
  · exact h1

end Go.Proofs.Ythghlfghdmifoaa

/- What container/heap's up, down, Init, Push, Pop and Fix do with one type's heap (hpA), whatever it holds. -/
namespace Go.Proofs.Ythghlfghdmifoaa
open Go.RowKit

/-- The value p is a heap's receiver: R tells what the heap holds; val, an item as a value; lt, who is less; only blocks of S turn. -/
structure HpA {α : Type} [Inhabited α] (p : Value) (R : World → List α → Prop) (lt : α → α → Bool) (S : Nat → Prop) : Prop where
  len : ∀ w l, R w l → ∃ r, (method 216 80 p "Len").run Try.prog w = .ok (98, r) w ∧
    Calls Try.prog 98 #[r] w fun e w' => e = .returned (.int .i64 ((l.length : Nat) : Int)) ∧ R w' l ∧ Chg S w w'
  less : ∀ w l, R w l → ∃ r, (method 216 80 p "Less").run Try.prog w = .ok (99, r) w ∧ ∀ i j : Nat, i < l.length → j < l.length →
    Calls Try.prog 99 #[r, .int .i64 (i : Int), .int .i64 (j : Int)] w fun e w' => e = .returned (.bool (lt (l.getD i default) (l.getD j default))) ∧ R w' l ∧ Chg S w w'
  swap : ∀ w l, R w l → ∃ r, (method 216 80 p "Swap").run Try.prog w = .ok (102, r) w ∧ ∀ i j : Nat, i < l.length → j < l.length →
    Calls Try.prog 102 #[r, .int .i64 (i : Int), .int .i64 (j : Int)] w fun e w' => e = .returned (.tuple #[]) ∧ R w' (swp l i j) ∧ Chg S w w'
  small : ∀ w l, R w l → l.length < 1000000000

section
variable {α : Type} [Inhabited α] {p : Value} {R : World → List α → Prop} {lt : α → α → Bool} {S : Nat → Prop}

set_option maxHeartbeats 1000000 in
theorem hpA_up (o : TotalOrd (noLess lt)) (h : HpA p R lt S) (w : World) (l : List α) (n j : Nat) (hR : R w l) (hn : n ≤ l.length) (hu : UpInv (noLess lt) l n j) :
    Calls Try.prog 79 #[.iface 80 p, .int .i64 (j : Int)] w fun e w' => e = .returned (.tuple #[]) ∧ ∃ l', R w' l' ∧ l'.Perm l ∧ Heap (noLess lt) l' n ∧ Chg S w w' := by
  have H := Lib.hid h; have HU := Lib.hid hu; have HR := Lib.hid hR; have HN := Lib.hid hn
  clear h hu hR hn
  go_enter Try.func79, Try.ntmps79
  go_wp2
  go_loopw [1] (fun o1 wr => ∃ (j : Nat) (l' : List α), o1 = .int .i64 (j : Int) ∧ R wr l' ∧ l'.Perm l ∧ UpInv (noLess lt) l' n j ∧ Chg S w wr) (fun o1 _ => (intOf o1).toNat)
  case atStart => exact ⟨j, l, rfl, HR.out, List.Perm.refl _, HU.out, Chg.refl _ _⟩
  case round =>
    obtain ⟨j, l', rfl, hR, hp, hu, hc⟩ := hrel
    have hsm := H.out.small _ _ hR
    have hln := hp.length_eq
    have hn := HN.out
    have hjn := hu.lt
    by_cases h0 : j = 0
    · subst h0
      have HH := Lib.hid (hu.done (.inl rfl)); have HR := Lib.hid hR; have HP := Lib.hid hp; have HC := Lib.hid hc
      clear hu hR hp hc hln hn hsm hjn
      go_wp2
      go_returns
      exact ⟨rfl, l', HR.out, HP.out, HH.out, HC.out⟩
    · obtain ⟨i, hi⟩ : ∃ i, (j - 1) / 2 = i := ⟨_, rfl⟩
      have e1 : ((j : Int) - 1).tdiv 2 = (i : Int) := by rw [Int.tdiv_eq_ediv_of_nonneg (by omega)]; omega
      have e2 : wrap64 ((j : Int) - 1) = (j : Int) - 1 := by unfold wrap64; omega
      have e3 : ((i : Int) == (j : Int)) = false := by simp; omega
      obtain ⟨r, hm, hless⟩ := H.out.less _ _ hR
      have hless := hless j i (by omega) (by omega)
      have hb : (j : Int) ≤ 1000000000 ∧ (i : Int) ≤ 1000000000 := by omega
      have HI := Lib.hid hi; have HP := Lib.hid hp; have HC := Lib.hid hc; have HU2 := Lib.hid hu; have HL := Lib.hid hless
      have HLN := Lib.hid hln; have HN0 := Lib.hid h0; have HJN := Lib.hid hjn
      clear hi hR hp hc hu hless hln hn hsm hjn h0
      go_wp2_with fail
      refine (HL.out).mono ?_
      rintro e w2 ⟨rfl, hR2, hc2⟩
      cases hlt : lt (l'.getD j default) (l'.getD i default) with
      | false =>
        have HH := Lib.hid (HU2.out.done (.inr (by rw [HI.out]; exact hlt))); have HR2 := Lib.hid hR2; have HC2 := Lib.hid (HC.out.trans hc2 (fun _ _ h => h))
        clear hR2 hc2 hlt hm
        go_wp2
        go_returns
        exact ⟨rfl, l', HR2.out, HP.out, HH.out, HC2.out⟩
      | true =>
        have hst : UpInv (noLess lt) (swp l' i j) n i := by
          have := HU2.out.step o (by have := HLN.out; have := HN.out; omega) (by have := HN0.out; omega) (by rw [HI.out]; unfold noLess; rw [hlt]; simp)
          rw [HI.out] at this
          exact this
        have hij : i < j := by have := HI.out; have := HN0.out; omega
        obtain ⟨r2, hm2, hsw⟩ := H.out.swap _ _ hR2
        have hln := HLN.out
        have hnn := HN.out
        have hjn := HJN.out
        have hsw := hsw i j (by omega) (by omega)
        have hpm := swp_perm l' i j (by omega) (by omega)
        have HSW := Lib.hid hsw; have HST := Lib.hid hst; have HPM := Lib.hid (hpm.trans HP.out); have HC2 := Lib.hid (HC.out.trans hc2 (fun _ _ h => h)); have HIJ := Lib.hid hij
        clear hsw hst hpm hc2 hR2 hlt hm hln hnn hjn hij
        go_wp2_with fail
        refine (HSW.out).mono ?_
        rintro e w3 ⟨rfl, hR3, hc3⟩
        have HR3 := Lib.hid hR3; have HC3 := Lib.hid (HC2.out.trans hc3 (fun _ _ h => h))
        clear hR3 hc3 hm2
        go_wp2
        go_roundw
        case rel => exact ⟨i, swp l' i j, rfl, HR3.out, HPM.out, HST.out, HC3.out⟩
        case measure => simp [intOf]; exact HIJ.out

set_option maxHeartbeats 2000000 in
theorem hpA_down (o : TotalOrd (noLess lt)) (h : HpA p R lt S) (w : World) (l : List α) (n lo i0 : Nat) (hR : R w l) (hn : n ≤ l.length) (hi0 : i0 < 1000000000) (hd : DownInv (noLess lt) l n lo i0) :
    Calls Try.prog 80 #[.iface 80 p, .int .i64 (i0 : Int), .int .i64 (n : Int)] w fun e w' => ∃ l' b, e = .returned (.bool b) ∧ R w' l' ∧ l'.Perm l ∧ (∀ k, n ≤ k → l'.getD k default = l.getD k default) ∧ HeapFrom (noLess lt) l' n lo ∧ (b = false → l' = l) ∧ Chg S w w' := by
  have hsm := h.small _ _ hR
  have hnb : (n : Int) ≤ 1000000000 := by omega
  have H := Lib.hid h; have HD := Lib.hid hd; have HR := Lib.hid hR; have HN := Lib.hid hn; have HI0 := Lib.hid hi0
  clear h hd hR hn hsm hi0
  go_enter Try.func80, Try.ntmps80
  go_wp2
  go_loopw [7] (fun o7 wr => ∃ (i : Nat) (l' : List α), o7 = .int .i64 (i : Int) ∧ R wr l' ∧ l'.Perm l ∧ (∀ k, n ≤ k → l'.getD k default = l.getD k default) ∧ DownInv (noLess lt) l' n lo i ∧ i0 ≤ i ∧ (i ≤ i0 → l' = l) ∧ i < 1000000000 ∧ Chg S w wr) (fun o7 _ => n - (intOf o7).toNat)
  case atStart => exact ⟨i0, l, rfl, HR.out, List.Perm.refl _, fun _ _ => rfl, HD.out, Nat.le_refl _, fun _ => rfl, HI0.out, Chg.refl _ _⟩
  case round =>
    clear HD HR
    obtain ⟨i, l', rfl, hR, hp, ht, hd, hge, hs0, hib, hc⟩ := hrel
    have hln := hp.length_eq
    have hib2 : (i : Int) < 1000000000 := by omega
    have e1 : wrap64 (2 * (i : Int)) = 2 * (i : Int) := by unfold wrap64; omega
    obtain ⟨j1, hj1⟩ : ∃ j1, 2 * i + 1 = j1 := ⟨_, rfl⟩
    have e2 : 2 * (i : Int) + 1 = (j1 : Int) := by omega
    have e3 : wrap64 (j1 : Int) = (j1 : Int) := by unfold wrap64; omega
    have HRQ := Lib.hid hR; have HP := Lib.hid hp; have HT := Lib.hid ht; have HD := Lib.hid hd; have HGE := Lib.hid hge; have HS0 := Lib.hid hs0; have HCQ := Lib.hid hc; have HLN := Lib.hid hln; have HJ1 := Lib.hid hj1
    clear hR hp ht hd hge hs0 hc hln hib
    by_cases hend : n ≤ j1
    · have d1 : decide ((n : Int) ≤ (j1 : Int)) = true := by simp; omega
      have HH := Lib.hid (HD.out.done (fun k h0 hk hp => by have := HJ1.out; omega))
      clear hj1
      go_wp2
      go_returns
      exact ⟨l', _, rfl, HRQ.out, HP.out, HT.out, HH.out, fun hb => HS0.out (by simpa using hb), HCQ.out⟩
    · have d1 : decide ((n : Int) ≤ (j1 : Int)) = false := by simp; omega
      have d2 : decide ((j1 : Int) < 0) = false := by simp
      obtain ⟨j2, hj2⟩ : ∃ j2, j1 + 1 = j2 := ⟨_, rfl⟩
      have e4 : (j1 : Int) + 1 = (j2 : Int) := by omega
      have e5 : wrap64 (j2 : Int) = (j2 : Int) := by unfold wrap64; omega
      have HJ2 := Lib.hid hj2; have HEND := Lib.hid hend
      by_cases h2 : j2 < n
      · have d3 : decide ((j2 : Int) < (n : Int)) = true := by simp; omega
        obtain ⟨ra, hma, hla⟩ := H.out.less _ _ HRQ.out
        have hla := hla j2 j1 (by have := HLN.out; have := HN.out; omega) (by have := HLN.out; have := HN.out; omega)
        have HLA := Lib.hid hla; have HL2 := Lib.hid h2
        clear hla hj1 hj2
        go_wp2_with fail
        refine (HLA.out).mono ?_
        rintro e w4 ⟨rfl, hR4, hc4⟩
        have HRQ0 := HRQ; have HCQ0 := HCQ
        clear HRQ HCQ
        have HRQ := Lib.hid hR4; have HCQ := Lib.hid (HCQ0.out.trans hc4 (fun _ _ h => h))
        clear hR4 hc4 HRQ0 HCQ0 hma
        cases hlt : lt (l'.getD j2 default) (l'.getD j1 default) with
        | true =>
          have HJ := Lib.hid (show 0 < j2 ∧ j2 < n ∧ (j2 - 1) / 2 = i by have := HJ1.out; have := HJ2.out; have := HL2.out; omega)
          have HMIN := Lib.hid (show ∀ k, 0 < k → k < n → (k - 1) / 2 = i → noLess lt (l'.getD j2 default) (l'.getD k default) from fun k h0 hk hp => by
            have hk2 : k = j1 ∨ k = j2 := by have := HJ1.out; have := HJ2.out; omega
            rcases hk2 with rfl | rfl
            · exact noLess_of o hlt
            · exact o.refl _)
          clear hlt
          obtain ⟨rb, hmb, hlb⟩ := H.out.less _ _ HRQ.out
          have hlb := hlb j2 i (by have := HJ.out; have := HLN.out; have := HN.out; omega) (by have := HJ.out; have := HLN.out; have := HN.out; omega)
          have HLB := Lib.hid hlb
          clear hlb
          go_wp2_with fail
          refine (HLB.out).mono ?_
          rintro e w5 ⟨rfl, hR5, hc5⟩
          cases hlt : lt (l'.getD j2 default) (l'.getD i default) with
          | false =>
            have HH := Lib.hid (HD.out.done (fun k h0 hk hp => o.trans hlt (HMIN.out k h0 hk hp))); have HR5 := Lib.hid hR5; have HC5 := Lib.hid (HCQ.out.trans hc5 (fun _ _ h => h))
            clear hR5 hc5 hlt hmb
            go_wp2
            go_returns
            exact ⟨l', _, rfl, HR5.out, HP.out, HT.out, HH.out, fun hb => HS0.out (by simpa using hb), HC5.out⟩
          | true =>
            have hst := HD.out.step o (by have := HLN.out; have := HN.out; omega) (by have := HJ.out; omega) (HJ.out).2.1 (HJ.out).2.2 HMIN.out (noLess_of o hlt)
            obtain ⟨r2, hm2, hsw⟩ := H.out.swap _ _ hR5
            have hsw := hsw i j2 (by have := HJ.out; have := HLN.out; have := HN.out; omega) (by have := HJ.out; have := HLN.out; have := HN.out; omega)
            have hpm := (swp_perm l' i j2 (by have := HJ.out; have := HLN.out; have := HN.out; omega) (by have := HJ.out; have := HLN.out; have := HN.out; omega)).trans HP.out
            have htl : ∀ k, n ≤ k → (swp l' i j2).getD k default = l.getD k default := fun k hk => by
              rw [swp_getD _ _ _ _ (by have := HJ.out; have := HLN.out; have := HN.out; omega) (by have := HJ.out; have := HLN.out; have := HN.out; omega), if_neg (by have := HJ.out; omega), if_neg (by have := HJ.out; omega)]
              exact HT.out k hk
            have HSW := Lib.hid hsw; have HST := Lib.hid hst; have HPM := Lib.hid hpm; have HTL := Lib.hid htl; have HC5 := Lib.hid (HCQ.out.trans hc5 (fun _ _ h => h))
            clear hsw hst hpm htl hc5 hR5 hlt hmb
            go_wp2_with fail
            refine (HSW.out).mono ?_
            rintro e w6 ⟨rfl, hR6, hc6⟩
            have HR6 := Lib.hid hR6; have HC6 := Lib.hid (HC5.out.trans hc6 (fun _ _ h => h))
            clear hR6 hc6 hm2
            go_wp2
            go_roundw
            case rel => exact ⟨j2, swp l' i j2, rfl, HR6.out, HPM.out, HTL.out, HST.out, by have := HJ.out; have := HGE.out; omega, fun hb => by have := HJ.out; have := HGE.out; omega, by have := HJ.out; omega, HC6.out⟩
            case measure => simp [intOf]; have := HJ.out; omega
        | false =>
          have HJ := Lib.hid (show 0 < j1 ∧ j1 < n ∧ (j1 - 1) / 2 = i by have := HJ1.out; have := HJ2.out; have := HL2.out; omega)
          have HMIN := Lib.hid (show ∀ k, 0 < k → k < n → (k - 1) / 2 = i → noLess lt (l'.getD j1 default) (l'.getD k default) from fun k h0 hk hp => by
            have hk2 : k = j1 ∨ k = j2 := by have := HJ1.out; have := HJ2.out; omega
            rcases hk2 with rfl | rfl
            · exact o.refl _
            · exact hlt)
          clear hlt
          obtain ⟨rb, hmb, hlb⟩ := H.out.less _ _ HRQ.out
          have hlb := hlb j1 i (by have := HJ.out; have := HLN.out; have := HN.out; omega) (by have := HJ.out; have := HLN.out; have := HN.out; omega)
          have HLB := Lib.hid hlb
          clear hlb
          go_wp2_with fail
          refine (HLB.out).mono ?_
          rintro e w5 ⟨rfl, hR5, hc5⟩
          cases hlt : lt (l'.getD j1 default) (l'.getD i default) with
          | false =>
            have HH := Lib.hid (HD.out.done (fun k h0 hk hp => o.trans hlt (HMIN.out k h0 hk hp))); have HR5 := Lib.hid hR5; have HC5 := Lib.hid (HCQ.out.trans hc5 (fun _ _ h => h))
            clear hR5 hc5 hlt hmb
            go_wp2
            go_returns
            exact ⟨l', _, rfl, HR5.out, HP.out, HT.out, HH.out, fun hb => HS0.out (by simpa using hb), HC5.out⟩
          | true =>
            have hst := HD.out.step o (by have := HLN.out; have := HN.out; omega) (by have := HJ.out; omega) (HJ.out).2.1 (HJ.out).2.2 HMIN.out (noLess_of o hlt)
            obtain ⟨r2, hm2, hsw⟩ := H.out.swap _ _ hR5
            have hsw := hsw i j1 (by have := HJ.out; have := HLN.out; have := HN.out; omega) (by have := HJ.out; have := HLN.out; have := HN.out; omega)
            have hpm := (swp_perm l' i j1 (by have := HJ.out; have := HLN.out; have := HN.out; omega) (by have := HJ.out; have := HLN.out; have := HN.out; omega)).trans HP.out
            have htl : ∀ k, n ≤ k → (swp l' i j1).getD k default = l.getD k default := fun k hk => by
              rw [swp_getD _ _ _ _ (by have := HJ.out; have := HLN.out; have := HN.out; omega) (by have := HJ.out; have := HLN.out; have := HN.out; omega), if_neg (by have := HJ.out; omega), if_neg (by have := HJ.out; omega)]
              exact HT.out k hk
            have HSW := Lib.hid hsw; have HST := Lib.hid hst; have HPM := Lib.hid hpm; have HTL := Lib.hid htl; have HC5 := Lib.hid (HCQ.out.trans hc5 (fun _ _ h => h))
            clear hsw hst hpm htl hc5 hR5 hlt hmb
            go_wp2_with fail
            refine (HSW.out).mono ?_
            rintro e w6 ⟨rfl, hR6, hc6⟩
            have HR6 := Lib.hid hR6; have HC6 := Lib.hid (HC5.out.trans hc6 (fun _ _ h => h))
            clear hR6 hc6 hm2
            go_wp2
            go_roundw
            case rel => exact ⟨j1, swp l' i j1, rfl, HR6.out, HPM.out, HTL.out, HST.out, by have := HJ.out; have := HGE.out; omega, fun hb => by have := HJ.out; have := HGE.out; omega, by have := HJ.out; omega, HC6.out⟩
            case measure => simp [intOf]; have := HJ.out; omega
      · have d3 : decide ((j2 : Int) < (n : Int)) = false := by simp; omega
        have HL2 := Lib.hid h2
        have HJ := Lib.hid (show 0 < j1 ∧ j1 < n ∧ (j1 - 1) / 2 = i by have := HJ1.out; have := HEND.out; omega)
        have HMIN := Lib.hid (show ∀ k, 0 < k → k < n → (k - 1) / 2 = i → noLess lt (l'.getD j1 default) (l'.getD k default) from fun k h0 hk hp => by
          have hk2 : k = j1 := by have := HJ1.out; have := HJ2.out; have := HL2.out; omega
          rw [hk2]; exact o.refl _)
        clear hj1 hj2
        obtain ⟨rb, hmb, hlb⟩ := H.out.less _ _ HRQ.out
        have hlb := hlb j1 i (by have := HJ.out; have := HLN.out; have := HN.out; omega) (by have := HJ.out; have := HLN.out; have := HN.out; omega)
        have HLB := Lib.hid hlb
        clear hlb
        go_wp2_with fail
        refine (HLB.out).mono ?_
        rintro e w5 ⟨rfl, hR5, hc5⟩
        cases hlt : lt (l'.getD j1 default) (l'.getD i default) with
        | false =>
          have HH := Lib.hid (HD.out.done (fun k h0 hk hp => o.trans hlt (HMIN.out k h0 hk hp))); have HR5 := Lib.hid hR5; have HC5 := Lib.hid (HCQ.out.trans hc5 (fun _ _ h => h))
          clear hR5 hc5 hlt hmb
          go_wp2
          go_returns
          exact ⟨l', _, rfl, HR5.out, HP.out, HT.out, HH.out, fun hb => HS0.out (by simpa using hb), HC5.out⟩
        | true =>
          have hst := HD.out.step o (by have := HLN.out; have := HN.out; omega) (by have := HJ.out; omega) (HJ.out).2.1 (HJ.out).2.2 HMIN.out (noLess_of o hlt)
          obtain ⟨r2, hm2, hsw⟩ := H.out.swap _ _ hR5
          have hsw := hsw i j1 (by have := HJ.out; have := HLN.out; have := HN.out; omega) (by have := HJ.out; have := HLN.out; have := HN.out; omega)
          have hpm := (swp_perm l' i j1 (by have := HJ.out; have := HLN.out; have := HN.out; omega) (by have := HJ.out; have := HLN.out; have := HN.out; omega)).trans HP.out
          have htl : ∀ k, n ≤ k → (swp l' i j1).getD k default = l.getD k default := fun k hk => by
            rw [swp_getD _ _ _ _ (by have := HJ.out; have := HLN.out; have := HN.out; omega) (by have := HJ.out; have := HLN.out; have := HN.out; omega), if_neg (by have := HJ.out; omega), if_neg (by have := HJ.out; omega)]
            exact HT.out k hk
          have HSW := Lib.hid hsw; have HST := Lib.hid hst; have HPM := Lib.hid hpm; have HTL := Lib.hid htl; have HC5 := Lib.hid (HCQ.out.trans hc5 (fun _ _ h => h))
          clear hsw hst hpm htl hc5 hR5 hlt hmb
          go_wp2_with fail
          refine (HSW.out).mono ?_
          rintro e w6 ⟨rfl, hR6, hc6⟩
          have HR6 := Lib.hid hR6; have HC6 := Lib.hid (HC5.out.trans hc6 (fun _ _ h => h))
          clear hR6 hc6 hm2
          go_wp2
          go_roundw
          case rel => exact ⟨j1, swp l' i j1, rfl, HR6.out, HPM.out, HTL.out, HST.out, by have := HJ.out; have := HGE.out; omega, fun hb => by have := HJ.out; have := HGE.out; omega, by have := HJ.out; omega, HC6.out⟩
          case measure => simp [intOf]; have := HJ.out; omega

end

end Go.Proofs.Ythghlfghdmifoaa

/- What container/heap's Init, Push, Pop and Fix do with one type's heap (hpA), whatever it holds. -/
namespace Go.Proofs.Ythghlfghdmifoaa
open Go.RowKit

section
variable {α : Type} [Inhabited α] {p : Value} {R : World → List α → Prop} {lt : α → α → Bool} {S : Nat → Prop} {it : α → Value}

/-- what Push is to do -/
def HpAPushes {α : Type} [Inhabited α] (p : Value) (R : World → List α → Prop) (S : Nat → Prop) (it : α → Value) (x : α) : Prop := ∀ w l, R w l → l.length < 100000 →
  ∃ r, (method 216 80 p "Push").run Try.prog w = .ok (101, r) w ∧ Calls Try.prog 101 #[r, it x] w fun e w' => e = .returned (.tuple #[]) ∧ R w' (l ++ [x]) ∧ Chg S w w'
/-- what Pop is to do -/
def HpAPops {α : Type} [Inhabited α] (p : Value) (R : World → List α → Prop) (S : Nat → Prop) (it : α → Value) : Prop := ∀ w l x, R w (l ++ [x]) →
  ∃ r, (method 216 80 p "Pop").run Try.prog w = .ok (100, r) w ∧ Calls Try.prog 100 #[r] w fun e w' => e = .returned (it x) ∧ R w' l ∧ Chg S w w'

set_option maxHeartbeats 1000000 in
theorem hpA_push (o : TotalOrd (noLess lt)) (h : HpA p R lt S) (x : α) (hpu : HpAPushes p R S it x) (w : World) (l : List α) (hR : R w l) (hl : l.length < 100000) (hh : Heap (noLess lt) l l.length) :
    Calls Try.prog 77 #[.iface 80 p, it x] w fun e w' => e = .returned (.tuple #[]) ∧ ∃ l', R w' l' ∧ l'.Perm (x :: l) ∧ Heap (noLess lt) l' l'.length ∧ Chg S w w' := by
  obtain ⟨r, hm, hc⟩ := hpu w l hR hl
  obtain ⟨q, hq⟩ : ∃ q, it x = q := ⟨_, rfl⟩
  rw [hq] at hc ⊢
  have HC := Lib.hid hc; have HH := Lib.hid hh; have HL := Lib.hid hl; have H := Lib.hid h
  clear hc hh hl hpu hq hR h
  go_enter Try.func77, Try.ntmps77
  go_wp2_with fail
  refine (HC.out).mono ?_
  rintro e w2 ⟨rfl, hR2, hc2⟩
  obtain ⟨r2, hm2, hlen⟩ := H.out.len _ _ hR2
  have hn : (l ++ [x]).length = l.length + 1 := by simp
  rw [hn] at hlen
  obtain ⟨n, hnn⟩ : ∃ n, l.length = n := ⟨_, rfl⟩
  obtain ⟨n1, hn1⟩ : ∃ n1, n + 1 = n1 := ⟨_, rfl⟩
  rw [hnn, hn1] at hlen
  have e1 : (n1 : Int) - 1 = (n : Int) := by omega
  have e2 : wrap64 (n : Int) = (n : Int) := by have := HL.out; unfold wrap64; omega
  have HLE := Lib.hid hlen; have HNN := Lib.hid hnn; have HN1 := Lib.hid hn1; have HC2 := Lib.hid hc2
  clear hlen hnn hn1 hc2 hm hR2 hn
  go_wp2_with fail
  refine (HLE.out).mono ?_
  rintro e w3 ⟨rfl, hR3, hc3⟩
  have hu := UpInv.pushed HH.out x
  rw [HNN.out, HN1.out] at hu
  have hup := hpA_up o H.out w3 (l ++ [x]) n1 n hR3 (by simp; have := HNN.out; have := HN1.out; omega) hu
  have HUP := Lib.hid hup; have HC3 := Lib.hid (HC2.out.trans hc3 (fun _ _ h => h))
  clear hup hu hc3 hR3 hm2
  go_wp2_with fail
  refine (HUP.out).mono ?_
  rintro e w4 ⟨rfl, l', hR4, hp4, hh4, hc4⟩
  have hl4 := hp4.length_eq
  rw [List.length_append, List.length_singleton, HNN.out, HN1.out] at hl4
  have HF := Lib.hid (show R w4 l' ∧ l'.Perm (x :: l) ∧ Heap (noLess lt) l' l'.length ∧ Chg S w w4 from ⟨hR4, hp4.trans (List.perm_append_comm (l₁ := l) (l₂ := [x])), by rw [hl4]; exact hh4, HC3.out.trans hc4 (fun _ _ h => h)⟩)
  clear hR4 hp4 hh4 hc4 hl4
  go_wp2
  go_returns
  exact ⟨rfl, l', HF.out⟩

set_option maxHeartbeats 1000000 in
theorem hpA_pop (o : TotalOrd (noLess lt)) (h : HpA p R lt S) (hpo : HpAPops p R S it) (w : World) (l : List α) (hR : R w l) (hl : 0 < l.length) (hh : Heap (noLess lt) l l.length) :
    Calls Try.prog 78 #[.iface 80 p] w fun e w' => ∃ x l', e = .returned (it x) ∧ R w' l' ∧ l.Perm (x :: l') ∧ (∀ y ∈ l', noLess lt x y) ∧ Heap (noLess lt) l' l'.length ∧ Chg S w w' := by
  have hsm := h.small _ _ hR
  obtain ⟨r, hm, hlen⟩ := h.len _ _ hR
  obtain ⟨n, hn⟩ : ∃ n, l.length = n + 1 := ⟨l.length - 1, by omega⟩
  rw [hn] at hlen
  obtain ⟨n1, hn1⟩ : ∃ n1, n + 1 = n1 := ⟨_, rfl⟩
  rw [hn1] at hlen
  have e1 : (n1 : Int) - 1 = (n : Int) := by omega
  have e2 : wrap64 (n : Int) = (n : Int) := by unfold wrap64; omega
  have HLE := Lib.hid hlen; have HH := Lib.hid hh; have H := Lib.hid h; have HN := Lib.hid hn; have HN1 := Lib.hid hn1; have HPO := Lib.hid hpo
  clear hlen hh h hn hn1 hpo hl hsm hR
  go_enter Try.func78, Try.ntmps78
  go_wp2_with fail
  refine (HLE.out).mono ?_
  rintro e w2 ⟨rfl, hR2, hc2⟩
  obtain ⟨r2, hm2, hsw⟩ := H.out.swap _ _ hR2
  have hsw := hsw 0 n (by have := HN.out; omega) (by have := HN.out; omega)
  have HSW := Lib.hid hsw; have HC2 := Lib.hid hc2
  clear hsw hc2 hR2 hm
  go_wp2_with fail
  refine (HSW.out).mono ?_
  rintro e w3 ⟨rfl, hR3, hc3⟩
  have hh := HH.out
  rw [HN.out] at hh
  have hdn := hpA_down o H.out w3 (swp l 0 n) n 0 0 hR3 (by rw [swp_length, HN.out]; omega) (by omega) (DownInv.popped HN.out hh)
  have HDN := Lib.hid hdn; have HC3 := Lib.hid (HC2.out.trans hc3 (fun _ _ h => h))
  clear hdn hc3 hR3 hh hm2
  go_wp2_with fail
  refine (HDN.out).mono ?_
  rintro e w4 ⟨l2, b, rfl, hR4, hp4, ht4, hh4, -, hc4⟩
  have hl2 : l2.length = n + 1 := by rw [hp4.length_eq, swp_length, HN.out]
  have hx : l2.getD n default = l.getD 0 default := by
    rw [ht4 n (Nat.le_refl _), swp_getD _ _ _ _ (by have := HN.out; omega) (by have := HN.out; omega), if_pos rfl]
  have hap := last_apart l2 n hl2
  rw [hx] at hap
  have hpp : l.Perm (l.getD 0 default :: l2.take n) := by
    refine ((swp_perm l 0 n (by have := HN.out; omega) (by have := HN.out; omega)).symm.trans hp4.symm).trans ?_
    rw [hap, List.take_left' (by rw [List.length_take]; omega)]
    exact List.perm_append_comm (l₁ := l2.take n) (l₂ := [l.getD 0 default])
  have hle : ∀ y ∈ l2.take n, noLess lt (l.getD 0 default) y := fun y hy => HH.out.least_mem o (hpp.symm.subset (List.mem_cons_of_mem _ hy))
  have hhp := hh4.heap.take (by omega)
  rw [hap] at hR4
  obtain ⟨r3, hm3, hpop⟩ := HPO.out _ _ _ hR4
  obtain ⟨x, hxx⟩ : ∃ x, l.getD 0 default = x := ⟨_, rfl⟩
  rw [hxx] at hpop hpp hle
  obtain ⟨q, hq⟩ : ∃ q, it x = q := ⟨_, rfl⟩
  rw [hq] at hpop
  have HPOP := Lib.hid hpop; have HQ := Lib.hid hq
  have HF := Lib.hid (show l.Perm (x :: l2.take n) ∧ (∀ y ∈ l2.take n, noLess lt x y) ∧ Heap (noLess lt) (l2.take n) (l2.take n).length ∧ Chg S w w4 from ⟨hpp, hle, hhp, HC3.out.trans hc4 (fun _ _ h => h)⟩)
  clear hpop hq hpp hle hhp hap hx hl2 hR4 hp4 ht4 hh4 hc4 hxx
  go_wp2_with fail
  refine (HPOP.out).mono ?_
  rintro e w5 ⟨rfl, hR5, hc5⟩
  have HR5 := Lib.hid hR5; have HC5 := Lib.hid hc5
  clear hR5 hc5 hm3
  go_wp2
  go_returns
  obtain ⟨f1, f2, f3, f4⟩ := HF.out
  exact ⟨x, l2.take n, by rw [HQ.out]; rfl, HR5.out, f1, f2, f3, f4.trans HC5.out (fun _ _ h => h)⟩

end

end Go.Proofs.Ythghlfghdmifoaa

/- norm's shares in memory; who is ahead of whom; norm's queue as container/heap asks for it. THIS SPEAKS OF THE PROGRAM'S OWN TEXT. -/
namespace Go.Proofs.Ythghlfghdmifoaa
open Go.RowKit

/-- a share -/
structure Sh where
  sym : Int
  cnt : Int
  plc : Int
  lft : Int
  rai : Bool
instance : Inhabited Sh := ⟨⟨0, 0, 0, 0, false⟩⟩
def sv (s : Sh) : Value := .agg #[.int .i64 s.sym, .int .i64 s.cnt, .int .i64 s.plc, .int .i64 s.lft, .bool s.rai]
def svl (s : Sh) : List Value := [.int .i64 s.sym, .int .i64 s.cnt, .int .i64 s.plc, .int .i64 s.lft, .bool s.rai]
def svs (l : List Sh) : List Value := l.flatMap svl
theorem svs_cons (a : Sh) (l : List Sh) : svs (a :: l) = svl a ++ svs l := by simp [svs]
theorem svs_append (a b : List Sh) : svs (a ++ b) = svs a ++ svs b := by simp [svs]
theorem svs_length (l : List Sh) : (svs l).length = l.length * 5 := by
  induction l with
  | nil => rfl
  | cons c r ih => rw [svs_cons, List.length_append, ih]; simp [svl]; omega
theorem svs_get (l : List Sh) (j : Nat) (h : j < l.length) : (svs l)[j * 5]? = some (.int .i64 (l.getD j default).sym) ∧ (svs l)[j * 5 + 1]? = some (.int .i64 (l.getD j default).cnt) ∧ (svs l)[j * 5 + 2]? = some (.int .i64 (l.getD j default).plc) ∧
    (svs l)[j * 5 + 3]? = some (.int .i64 (l.getD j default).lft) ∧ (svs l)[j * 5 + 4]? = some (.bool (l.getD j default).rai) := by
  induction l generalizing j with
  | nil => simp at h
  | cons c r ih =>
    rw [svs_cons]
    cases j with
    | zero => exact ⟨rfl, rfl, rfl, rfl, rfl⟩
    | succ j =>
      have ih := ih j (by simpa using h)
      have hl : (svl c).length = 5 := rfl
      rw [List.getElem?_append_right (by omega), List.getElem?_append_right (by omega), List.getElem?_append_right (by omega), List.getElem?_append_right (by omega), List.getElem?_append_right (by omega), hl,
        show (j + 1) * 5 - 5 = j * 5 by omega, show (j + 1) * 5 + 1 - 5 = j * 5 + 1 by omega, show (j + 1) * 5 + 2 - 5 = j * 5 + 2 by omega, show (j + 1) * 5 + 3 - 5 = j * 5 + 3 by omega, show (j + 1) * 5 + 4 - 5 = j * 5 + 4 by omega]
      exact ih
/-- five cells, one behind the other -/
def set5 (l : List Value) (k : Nat) (s : Sh) : List Value := ((((l.set k (.int .i64 s.sym)).set (k + 1) (.int .i64 s.cnt)).set (k + 2) (.int .i64 s.plc)).set (k + 3) (.int .i64 s.lft)).set (k + 4) (.bool s.rai)
theorem svs_set (l : List Sh) (j : Nat) (c : Sh) (h : j < l.length) : set5 (svs l) (j * 5) c = svs (l.set j c) := by
  unfold set5
  induction l generalizing j with
  | nil => simp at h
  | cons d r ih =>
    cases j with
    | zero => rw [List.set_cons_zero, svs_cons, svs_cons]; rfl
    | succ j =>
      have ih := ih j (by simpa using h)
      have hl : (svl d).length = 5 := rfl
      rw [List.set_cons_succ, svs_cons, svs_cons, ← ih, List.set_append_right _ _ (by omega), List.set_append_right _ _ (by omega), List.set_append_right _ _ (by omega), List.set_append_right _ _ (by omega), List.set_append_right _ _ (by omega), hl,
        show (j + 1) * 5 - 5 = j * 5 by omega, show (j + 1) * 5 + 1 - 5 = j * 5 + 1 by omega, show (j + 1) * 5 + 2 - 5 = j * 5 + 2 by omega, show (j + 1) * 5 + 3 - 5 = j * 5 + 3 by omega, show (j + 1) * 5 + 4 - 5 = j * 5 + 4 by omega]
theorem svs_one (xs : List Sh) : ∀ u ∈ svs xs, u.oneCell' = true := by
  intro u hu
  simp only [svs, List.mem_flatMap, svl] at hu
  obtain ⟨x, _, hx⟩ := hu
  simp at hx
  rcases hx with rfl | rfl | rfl | rfl | rfl <;> rfl

theorem Try.infoShare : (Try.prog.info? 79).map (fun i => (i.zero, i.size, i.bytes)) = some (some (.agg #[.int .i64 0, .int .i64 0, .int .i64 0, .int .i64 0, .bool false]), 5, 40) := by kernel_rfl

/-- of whom more is left, or whose value is less -/
def moreB (a b : Sh) : Bool := if a.lft = b.lft then decide (a.sym < b.sym) else decide (b.lft < a.lft)
/-- who has more, or whose count is less, or whose value is greater -/
def greatB (a b : Sh) : Bool := if a.plc = b.plc then (if a.cnt = b.cnt then decide (b.sym < a.sym) else decide (a.cnt < b.cnt)) else decide (b.plc < a.plc)
theorem moreB_ord : TotalOrd (noLess moreB) := by
  constructor
  · intro a b
    unfold noLess moreB
    by_cases h1 : a.lft = b.lft
    · rw [if_pos h1.symm, if_pos h1, decide_eq_false_iff_not, decide_eq_false_iff_not]; omega
    · rw [if_neg (Ne.symm h1), if_neg h1, decide_eq_false_iff_not, decide_eq_false_iff_not]; omega
  · intro a b c h1 h2
    unfold noLess moreB at *
    split at h1 <;> split at h2 <;> split <;> rw [decide_eq_false_iff_not] at * <;> omega
theorem greatB_ord : TotalOrd (noLess greatB) := by
  constructor
  · intro a b
    unfold noLess greatB
    by_cases h1 : a.plc = b.plc
    · rw [if_pos h1.symm, if_pos h1]
      by_cases h2 : a.cnt = b.cnt
      · rw [if_pos h2.symm, if_pos h2, decide_eq_false_iff_not, decide_eq_false_iff_not]; omega
      · rw [if_neg (Ne.symm h2), if_neg h2, decide_eq_false_iff_not, decide_eq_false_iff_not]; omega
    · rw [if_neg (Ne.symm h1), if_neg h1, decide_eq_false_iff_not, decide_eq_false_iff_not]; omega
  · intro a b c h1 h2
    unfold noLess greatB at *
    split at h1 <;> split at h2 <;> split <;> (try split at h1) <;> (try split at h2) <;> (try split) <;> rw [decide_eq_false_iff_not] at * <;> omega

set_option maxHeartbeats 1000000 in
theorem nmore_any (a b : Sh) (w : World) : Calls Try.prog 71 #[sv a, sv b] w fun e w' => e = .returned (.bool (moreB a b)) ∧ Chg (fun _ => False) w w' := by
  obtain ⟨s1, c1, p1, l1, r1⟩ := a
  obtain ⟨s2, c2, p2, l2, r2⟩ := b
  have hc0 : ∀ A B, Chg (fun _ => False) w ((w.alloc A).alloc B) := fun A B => (Chg.alloc (fun _ => False) w _).trans (Chg.alloc (fun _ => False) _ _) fun _ _ h => h
  have HC := Lib.hid hc0
  unfold sv moreB
  simp only []
  clear hc0
  by_cases h : l1 = l2
  · subst h
    rw [if_pos rfl]
    go_enter Try.func71, Try.ntmps71
    go_wp2
    go_ret
    exact ⟨rfl, HC.out _ _⟩
  · have hne : (l1 != l2) = true := by simp [h]
    rw [if_neg h]
    go_enter Try.func71, Try.ntmps71
    go_wp2
    go_ret
    exact ⟨rfl, HC.out _ _⟩

set_option maxHeartbeats 1000000 in
theorem ngreat_any (a b : Sh) (w : World) : Calls Try.prog 74 #[sv a, sv b] w fun e w' => e = .returned (.bool (greatB a b)) ∧ Chg (fun _ => False) w w' := by
  obtain ⟨s1, c1, p1, l1, r1⟩ := a
  obtain ⟨s2, c2, p2, l2, r2⟩ := b
  have hc0 : ∀ A B, Chg (fun _ => False) w ((w.alloc A).alloc B) := fun A B => (Chg.alloc (fun _ => False) w _).trans (Chg.alloc (fun _ => False) _ _) fun _ _ h => h
  have HC := Lib.hid hc0
  unfold sv greatB
  simp only []
  clear hc0
  by_cases h : p1 = p2
  · subst h
    rw [if_pos rfl]
    by_cases h2 : c1 = c2
    · subst h2
      rw [if_pos rfl]
      go_enter Try.func74, Try.ntmps74
      go_wp2
      go_ret
      exact ⟨rfl, HC.out _ _⟩
    · have hne : (c1 != c2) = true := by simp [h2]
      rw [if_neg h2]
      go_enter Try.func74, Try.ntmps74
      go_wp2
      go_ret
      exact ⟨rfl, HC.out _ _⟩
  · have hne : (p1 != p2) = true := by simp [h]
    rw [if_neg h]
    go_enter Try.func74, Try.ntmps74
    go_wp2
    go_ret
    exact ⟨rfl, HC.out _ _⟩

/-- the queue at block b, whose shares v stand in memory from block B on: the block X is neither of them -/
def Far (b B X : Nat) (v : Value) (w : World) : Prop := B ≤ b ∧ b ≠ X ∧ v.ownBlock ≠ some X ∧ X < w.heap.size
/-- the queue at block b, whose shares stand in memory from block B on, and whose order is the function f; X is a block that it leaves alone -/
def Qr (b B f X : Nat) (w : World) (l : List Sh) : Prop := ∃ v, w.heap[b]? = some (.cells #[v, .func (.func f) #[] #[]] 83 (0, 0)) ∧ w.ownsRow B 79 5 v l.length (svs l) ∧ l.length ≤ 100000 ∧ Far b B X v w
/-- the blocks that it may turn -/
def Sq (B X k : Nat) : Prop := B ≤ k ∧ k ≠ X

end Go.Proofs.Ythghlfghdmifoaa

/- Plain: shares of counts, and what a heap of them gives out. -/
namespace Go.Proofs.Ythghlfghdmifoaa
open Go

/-- the share of the value i, whose count is x -/
def mkSh (size n : Int) (i : Nat) (x : Int) : Sh := if x * size / n = 0 then ⟨(i : Int), x, 1, x * size % n, true⟩ else ⟨(i : Int), x, x * size / n, x * size % n, false⟩
/-- the shares of the values below k -/
def shTo (c : List Int) (size n : Int) : Nat → List Sh
  | 0 => []
  | k + 1 => if c.getD k 0 = 0 then shTo c size n k else shTo c size n k ++ [mkSh size n k (c.getD k 0)]
theorem shTo_skip {c : List Int} {size n : Int} {k : Nat} (h : c.getD k 0 = 0) : shTo c size n (k + 1) = shTo c size n k := by simp only [shTo, if_pos h]
theorem shTo_more {c : List Int} {size n : Int} {k : Nat} (h : ¬ c.getD k 0 = 0) : shTo c size n (k + 1) = shTo c size n k ++ [mkSh size n k (c.getD k 0)] := by simp only [shTo, if_neg h]
theorem mkSh_sym (size n : Int) (i : Nat) (x : Int) : (mkSh size n i x).sym = (i : Int) := by unfold mkSh; split <;> rfl
theorem mkSh_cnt (size n : Int) (i : Nat) (x : Int) : (mkSh size n i x).cnt = x := by unfold mkSh; split <;> rfl
theorem mkSh_lft (size n : Int) (i : Nat) (x : Int) : (mkSh size n i x).lft = x * size % n := by unfold mkSh; split <;> rfl
theorem mkSh_rai (size n : Int) (i : Nat) (x : Int) : (mkSh size n i x).rai = decide (x * size / n = 0) := by
  unfold mkSh; split
  · next h => simp [h]
  · next h => simp [h]
theorem mkSh_plc (size n : Int) (i : Nat) (x : Int) : (mkSh size n i x).plc = if x * size / n = 0 then 1 else x * size / n := by unfold mkSh; split <;> rfl

theorem shTo_length (c : List Int) (size n : Int) (k : Nat) : (shTo c size n k).length ≤ k := by
  induction k with
  | zero => simp [shTo]
  | succ k ih =>
    by_cases h : c.getD k 0 = 0
    · rw [shTo_skip h]; omega
    · rw [shTo_more h]; simp; omega
theorem mem_shTo (c : List Int) (size n : Int) (k : Nat) (y : Sh) : y ∈ shTo c size n k ↔ ∃ i, i < k ∧ c.getD i 0 ≠ 0 ∧ y = mkSh size n i (c.getD i 0) := by
  induction k with
  | zero => simp [shTo]
  | succ k ih =>
    by_cases h : c.getD k 0 = 0
    · rw [shTo_skip h, ih]
      constructor
      · rintro ⟨i, h1, h2, h3⟩; exact ⟨i, by omega, h2, h3⟩
      · rintro ⟨i, h1, h2, h3⟩
        by_cases hik : i = k
        · subst hik; exact absurd h h2
        · exact ⟨i, by omega, h2, h3⟩
    · rw [shTo_more h, List.mem_append, ih, List.mem_singleton]
      constructor
      · rintro (⟨i, h1, h2, h3⟩ | rfl)
        · exact ⟨i, by omega, h2, h3⟩
        · exact ⟨k, by omega, h, rfl⟩
      · rintro ⟨i, h1, h2, h3⟩
        by_cases hik : i = k
        · subst hik; exact .inr h3
        · exact .inl ⟨i, by omega, h2, h3⟩
theorem shTo_nodup (c : List Int) (size n : Int) (k : Nat) : (shTo c size n k).Nodup := by
  induction k with
  | zero => simp [shTo]
  | succ k ih =>
    by_cases h : c.getD k 0 = 0
    · rw [shTo_skip h]; exact ih
    · rw [shTo_more h, List.nodup_append]
      refine ⟨ih, by simp, ?_⟩
      intro a ha b hb he
      rw [List.mem_singleton] at hb
      obtain ⟨i, h1, h2, h3⟩ := (mem_shTo c size n k a).1 ha
      have := congrArg Sh.sym (h3.symm.trans (he.trans hb))
      rw [mkSh_sym, mkSh_sym] at this
      omega

/-- the places of shares, laid into counts -/
def layL (q : List Int) : List Sh → List Int
  | [] => q
  | s :: r => layL (q.set s.sym.toNat s.plc) r
theorem layL_append (q : List Int) (a b : List Sh) : layL q (a ++ b) = layL (layL q a) b := by
  induction a generalizing q with
  | nil => rfl
  | cons x r ih => exact ih _
theorem lay_to (c : List Int) (size n : Int) (hl : c.length = 256) (h0 : ∀ x ∈ c, 0 ≤ x) (Z : List Int) (hZ : Z.length = 256) (hz : ∀ j, Z.getD j 0 = 0) (k : Nat) (hk : k ≤ 256) :
    (layL Z (shTo c size n k)).length = 256 ∧ ∀ j, j < 256 → (layL Z (shTo c size n k)).getD j 0 = if j < k then (qBase c size n).getD j 0 else 0 := by
  induction k with
  | zero => exact ⟨hZ, fun j _ => by rw [if_neg (by omega)]; exact hz j⟩
  | succ k ih =>
    obtain ⟨i1, i2⟩ := ih (by omega)
    have hbase := base_at (c := c) (size := size) (n := n) k (by omega)
    have hx := h0 _ (getD_mem (cs := c) (k := k) (by omega))
    by_cases h : c.getD k 0 = 0
    · rw [shTo_skip h]
      refine ⟨i1, fun j hj => ?_⟩
      rw [i2 j hj]
      by_cases hjk : j = k
      · subst hjk
        rw [if_neg (by omega), if_pos (by omega), hbase, h]
        simp
        try rfl
      · by_cases h1 : j < k
        · rw [if_pos h1, if_pos (by omega)]
        · rw [if_neg h1, if_neg (by omega)]
    · rw [shTo_more h, layL_append]
      simp only [layL, mkSh_sym, mkSh_plc, Int.toNat_natCast]
      refine ⟨by rw [List.length_set]; exact i1, fun j hj => ?_⟩
      rw [iset_getD _ _ _ _ (by omega)]
      by_cases hjk : k = j
      · subst hjk
        rw [if_pos rfl, if_pos (show k < k + 1 by omega), hbase]
        by_cases hz0 : c.getD k 0 * size / n = 0
        · rw [if_pos hz0, if_pos hz0]; omega
        · rw [if_neg hz0, if_neg hz0]
      · rw [if_neg hjk, i2 j hj]
        by_cases h1 : j < k
        · rw [if_pos h1, if_pos (by omega)]
        · rw [if_neg h1, if_neg (by omega)]
theorem lay_all (c : List Int) (size n : Int) (hl : c.length = 256) (h0 : ∀ x ∈ c, 0 ≤ x) (Z : List Int) (hZ : Z.length = 256) (hz : ∀ j, Z.getD j 0 = 0) : layL Z (shTo c size n 256) = qBase c size n := by
  obtain ⟨h1, h2⟩ := lay_to c size n hl h0 Z hZ hz 256 (Nat.le_refl _)
  apply ext_getD (by rw [h1]; simp [qBase, hl])
  intro j hj
  rw [h1] at hj
  rw [h2 j hj, if_pos hj]

/-- who wait: those that have had none -/
structure Waits (c : List Int) (size n : Int) (had : List Bool) (l : List Sh) : Prop where
  nd : l.Nodup
  mem : ∀ y, y ∈ l ↔ ∃ i, i < 256 ∧ c.getD i 0 ≠ 0 ∧ had.getD i false = false ∧ y = mkSh size n i (c.getD i 0)
theorem Waits.perm {c : List Int} {size n : Int} {had : List Bool} {l l' : List Sh} (h : Waits c size n had l) (hp : l'.Perm l) : Waits c size n had l' :=
  ⟨hp.nodup_iff.2 h.nd, fun y => by rw [hp.mem_iff]; exact h.mem y⟩
/-- what comes off is who is neediest -/
theorem Waits.next {c : List Int} {size n : Int} {had : List Bool} {l l' : List Sh} {x : Sh} (hlc : c.length = 256) (hlh : had.length = 256) (h : Waits c size n had l) (hp : l.Perm (x :: l')) (hle : ∀ y ∈ l', noLess moreB x y)
    {s : Nat} (hs : s < 256) (hc : c.getD s 0 ≠ 0) (hd : had.getD s false = false) (hn : needyTo (rest0 c size n) had 256 = some s) : x.sym = (s : Int) ∧ Waits c size n (had.set s true) l' := by
  obtain ⟨_, _, hspec⟩ := needy_some _ _ _ _ hn
  have hxm : x ∈ l := hp.symm.subset (List.mem_cons_self ..)
  obtain ⟨i, hi1, hi2, hi3, hi4⟩ := (h.mem x).1 hxm
  have hsm : mkSh size n s (c.getD s 0) ∈ x :: l' := hp.subset ((h.mem _).2 ⟨s, hs, hc, hd, rfl⟩)
  have hnl : moreB (mkSh size n s (c.getD s 0)) x = false := by
    rcases List.mem_cons.1 hsm with he | he
    · rw [he]; unfold moreB; simp
    · exact hle _ he
  have hsp := hspec i hi1 hi3
  rw [rest_at i (by omega), rest_at s (by omega)] at hsp
  have his : i = s := by
    unfold moreB at hnl
    rw [hi4, mkSh_lft, mkSh_lft, mkSh_sym, mkSh_sym] at hnl
    split at hnl
    · rw [decide_eq_false_iff_not] at hnl; omega
    · rw [decide_eq_false_iff_not] at hnl; omega
  subst his
  refine ⟨by rw [hi4, mkSh_sym], ?_, ?_⟩
  · exact (List.nodup_cons.1 (hp.nodup_iff.1 h.nd)).2
  · intro y
    have hnx : x ∉ l' := (List.nodup_cons.1 (hp.nodup_iff.1 h.nd)).1
    constructor
    · intro hy
      obtain ⟨j, hj1, hj2, hj3, hj4⟩ := (h.mem y).1 (hp.symm.subset (List.mem_cons_of_mem _ hy))
      refine ⟨j, hj1, hj2, ?_, hj4⟩
      rw [bset_getD _ _ _ _ (by omega), if_neg]
      · exact hj3
      · intro he
        subst he
        exact hnx (by rw [hi4, ← hj4]; exact hy)
    · rintro ⟨j, hj1, hj2, hj3, hj4⟩
      rw [bset_getD _ _ _ _ (by omega)] at hj3
      by_cases he : i = j
      · subst he; rw [if_pos rfl] at hj3; cases hj3
      · rw [if_neg he] at hj3
        have hyl := hp.subset ((h.mem y).2 ⟨j, hj1, hj2, hj3, hj4⟩)
        rcases List.mem_cons.1 hyl with h1 | h1
        · exfalso
          have := congrArg Sh.sym (hj4.symm.trans (h1.trans hi4))
          rw [mkSh_sym, mkSh_sym] at this
          omega
        · exact h1

/-- a share that has so many places now -/
def upSh (size n : Int) (q c : List Int) (i : Nat) : Sh := { mkSh size n i (c.getD i 0) with plc := q.getD i 0 }
/-- all shares, with their places -/
structure Gives (c : List Int) (size n : Int) (q : List Int) (l : List Sh) : Prop where
  nd : l.Nodup
  mem : ∀ y, y ∈ l ↔ ∃ i, i < 256 ∧ c.getD i 0 ≠ 0 ∧ y = upSh size n q c i
theorem upSh_sym (size n : Int) (q c : List Int) (i : Nat) : (upSh size n q c i).sym = (i : Int) := by unfold upSh; simp only []; exact mkSh_sym ..
theorem upSh_cnt (size n : Int) (q c : List Int) (i : Nat) : (upSh size n q c i).cnt = c.getD i 0 := by unfold upSh; simp only []; exact mkSh_cnt ..
theorem upSh_plc (size n : Int) (q c : List Int) (i : Nat) : (upSh size n q c i).plc = q.getD i 0 := rfl
theorem upSh_inj {size n : Int} {q q' c c' : List Int} {i j : Nat} (h : upSh size n q c i = upSh size n q' c' j) : i = j := by
  have := congrArg Sh.sym h
  rw [upSh_sym, upSh_sym] at this
  omega
theorem gives_base {c : List Int} {size n : Int} (hl : c.length = 256) (h0 : ∀ x ∈ c, 0 ≤ x) (i : Nat) (hi : i < 256) (hc : c.getD i 0 ≠ 0) : upSh size n (qBase c size n) c i = mkSh size n i (c.getD i 0) := by
  have hx := h0 _ (getD_mem (cs := c) (k := i) (by omega))
  unfold upSh
  rw [base_at i (by omega)]
  unfold mkSh
  have hm : min (c.getD i 0) 1 = 1 := by omega
  by_cases hz0 : c.getD i 0 * size / n = 0
  · rw [if_pos hz0, if_pos hz0, hm]
  · rw [if_neg hz0, if_neg hz0]
/-- what comes off is who is richest; what is laid back has one less -/
theorem Gives.next {c q : List Int} {size n : Int} {l l' : List Sh} {x : Sh} (hlq : q.length = 256) (h : Gives c size n q l) (hp : l.Perm (x :: l')) (hle : ∀ y ∈ l', noLess greatB x y)
    (hc : c.getD (richTo q c 255) 0 ≠ 0) : x = upSh size n q c (richTo q c 255) ∧ Gives c size n (takeStep c q) ({ x with plc := x.plc - 1 } :: l') := by
  obtain ⟨hR, hspec⟩ := rich_spec q c 255
  obtain ⟨R, hRR⟩ : ∃ R, richTo q c 255 = R := ⟨_, rfl⟩
  have hts : takeStep c q = q.set R (q.getD R 0 - 1) := by unfold takeStep; rw [hRR]
  rw [hRR] at hR hspec hc ⊢
  have hxm : x ∈ l := hp.symm.subset (List.mem_cons_self ..)
  obtain ⟨i, hi1, hi2, hi4⟩ := (h.mem x).1 hxm
  have hsm : upSh size n q c R ∈ x :: l' := hp.subset ((h.mem _).2 ⟨R, by omega, hc, rfl⟩)
  have hnl : greatB (upSh size n q c R) x = false := by
    rcases List.mem_cons.1 hsm with he | he
    · rw [he]; unfold greatB; simp
    · exact hle _ he
  have hsp := hspec i (by omega)
  have his : i = R := by
    unfold greatB at hnl
    rw [hi4, upSh_plc, upSh_plc, upSh_sym, upSh_sym, upSh_cnt, upSh_cnt] at hnl
    split at hnl
    · split at hnl <;> rw [decide_eq_false_iff_not] at hnl <;> omega
    · rw [decide_eq_false_iff_not] at hnl; omega
  subst his
  have hnx : x ∉ l' := (List.nodup_cons.1 (hp.nodup_iff.1 h.nd)).1
  have hup : ({ x with plc := x.plc - 1 } : Sh) = upSh size n (takeStep c q) c i := by
    rw [hts, hi4]
    unfold upSh
    simp only [Sh.mk.injEq, true_and, and_true]
    rw [iset_getD _ _ _ _ (by omega), if_pos rfl]
  have hoth : ∀ j, i ≠ j → upSh size n (takeStep c q) c j = upSh size n q c j := fun j hj => by
    rw [hts]
    unfold upSh
    rw [iset_getD _ _ _ _ (by omega), if_neg hj]
  refine ⟨hi4, ?_, ?_⟩
  · rw [hup, List.nodup_cons]
    refine ⟨fun hm => ?_, (List.nodup_cons.1 (hp.nodup_iff.1 h.nd)).2⟩
    obtain ⟨j, hj1, hj2, hj4⟩ := (h.mem _).1 (hp.symm.subset (List.mem_cons_of_mem _ hm))
    have hij := upSh_inj hj4
    subst hij
    exact hnx (by rw [hi4, ← hj4]; exact hm)
  · intro y
    rw [hup, List.mem_cons]
    constructor
    · rintro (rfl | hy)
      · exact ⟨i, hi1, hi2, rfl⟩
      · obtain ⟨j, hj1, hj2, hj4⟩ := (h.mem y).1 (hp.symm.subset (List.mem_cons_of_mem _ hy))
        refine ⟨j, hj1, hj2, ?_⟩
        rw [hoth j (fun he => by subst he; exact hnx (by rw [hi4, ← hj4]; exact hy))]
        exact hj4
    · rintro ⟨j, hj1, hj2, hj4⟩
      by_cases he : i = j
      · subst he; exact .inl hj4
      · right
        rw [hoth j he] at hj4
        have hyl := hp.subset ((h.mem y).2 ⟨j, hj1, hj2, hj4⟩)
        rcases List.mem_cons.1 hyl with h1 | h1
        · exfalso
          exact he (upSh_inj (hi4.symm.trans (h1.symm.trans hj4)))
        · exact h1

end Go.Proofs.Ythghlfghdmifoaa

/- What the methods of norm's queue do. THIS SPEAKS OF THE PROGRAM'S OWN TEXT. -/
namespace Go.Proofs.Ythghlfghdmifoaa
open Go.RowKit

section
variable {b B f X : Nat} {w : World} {l : List Sh}

theorem own_form {v : Value} {n : Nat} {xs : List Value} (h : w.ownsRow B 79 5 v n xs) : ∃ ao cap, v = .slice ao n cap := by
  rcases h.2 with ⟨rfl, rfl⟩ | ⟨g, cap, cur, rfl, _⟩
  · exact ⟨_, _, rfl⟩
  · exact ⟨_, _, rfl⟩
theorem own_ne {v : Value} {n : Nat} {xs : List Value} {cs : Array Value} {fr : Nat × Nat} (h : w.ownsRow B 79 5 v n xs) (hb : w.heap[b]? = some (.cells cs 83 fr)) : v.ownBlock ≠ some b := by
  intro he
  rcases h.2 with ⟨rfl, rfl⟩ | ⟨g, cap, cur, rfl, _, hg, _⟩
  · cases he
  · simp only [Value.ownBlock, Option.some.injEq] at he
    subst he
    rw [hb] at hg
    simp at hg
theorem Qr.cells (h : Qr b B f X w l) : ∃ ao cap, w.cell? ⟨b, 0, none⟩ = some (.slice ao l.length cap) ∧ w.cell? ⟨b, 1, none⟩ = some (.func (.func f) #[] #[]) ∧ w.frozen? ⟨b, 0, none⟩ = false ∧ w.ownsRow B 79 5 (.slice ao l.length cap) l.length (svs l) ∧ l.length ≤ 100000 := by
  obtain ⟨v, h1, h2, h3, h4⟩ := h
  obtain ⟨ao, cap, rfl⟩ := own_form h2
  exact ⟨ao, cap, by rw [cell_of_row w b 0 _ _ _ h1]; rfl, by rw [cell_of_row w b 1 _ _ _ h1]; rfl, frozen_of_row w b _ _ _ h1, h2, h3⟩
theorem Qr.kept {S : Nat → Prop} {w' : World} (h : Qr b B f X w l) (hc : Chg S w w') (hS : ∀ k, Sq B X k → ¬ S k) : Qr b B f X w' l := by
  obtain ⟨v, h1, h2, h3, h4, h5, h6, h7⟩ := h
  refine ⟨v, (hc.block b (lt_of_block h1) (hS b ⟨h4, h5⟩)).trans h1, hc.own h2 ?_, h3, h4, h5, h6, Nat.lt_of_lt_of_le h7 hc.size⟩
  intro k hk
  exact hS k ⟨(h2.lt k hk).1, fun he => h6 (by rw [hk, he])⟩
theorem Qr.small (h : Qr b B f X w l) : l.length < 1000000000 := by obtain ⟨v, h1, h2, h3, h4⟩ := h; omega

set_option maxHeartbeats 1000000 in
set_option maxRecDepth 100000 in
theorem qlen_any (h : Qr b B f X w l) : Calls Try.prog 98 #[.pointer (some ⟨b, 0, none⟩)] w fun e w' => e = .returned (.int .i64 ((l.length : Nat) : Int)) ∧ Qr b B f X w' l ∧ Chg (Sq B X) w w' := by
  obtain ⟨ao, cap, h1, h2, -, -⟩ := h.cells
  have H := Lib.hid h
  clear h
  go_enter Try.func98, Try.ntmps98
  go_wp2
  go_ret
  exact ⟨rfl, H.out, Chg.refl _ _⟩

theorem own_slice {w : World} {ao : Option Addr} {n cap : Nat} {xs : List Value} (h : w.ownsRow B 79 5 (.slice ao n cap) n xs) (hn : 0 < n) : ∃ g, ao = some ⟨g, 0, none⟩ ∧ B ≤ g := by
  rcases h.2 with ⟨h1, h2⟩ | ⟨g, cap', cur, he, hb, hg, _⟩
  · omega
  · simp only [Value.slice.injEq] at he
    exact ⟨g, he.1, hb⟩
theorem own_at {w : World} {g n cap : Nat} (h : w.ownsRow B 79 5 (.slice (some ⟨g, 0, none⟩) n cap) n (svs l)) (hl : l.length = n) (i : Nat) (hi : i < n) :
    w.cell? ⟨g, i * 5, none⟩ = some (.int .i64 (l.getD i default).sym) ∧ w.cell? ⟨g, i * 5 + 1, none⟩ = some (.int .i64 (l.getD i default).cnt) ∧ w.cell? ⟨g, i * 5 + 2, none⟩ = some (.int .i64 (l.getD i default).plc) ∧
    w.cell? ⟨g, i * 5 + 3, none⟩ = some (.int .i64 (l.getD i default).lft) ∧ w.cell? ⟨g, i * 5 + 4, none⟩ = some (.bool (l.getD i default).rai) := by
  have hg := svs_get l i (by omega)
  rw [h.cellAt (i * 5) (by omega), h.cellAt (i * 5 + 1) (by omega), h.cellAt (i * 5 + 2) (by omega), h.cellAt (i * 5 + 3) (by omega), h.cellAt (i * 5 + 4) (by omega)]
  exact hg

set_option maxHeartbeats 1000000 in
set_option maxRecDepth 100000 in
theorem qless_any {lt : Sh → Sh → Bool} (hff : f = 71 ∨ f = 74) (hf : ∀ a c w, Calls Try.prog f #[sv a, sv c] w fun e w' => e = .returned (.bool (lt a c)) ∧ Chg (fun _ => False) w w') (h : Qr b B f X w l) (i j : Nat) (hi : i < l.length) (hj : j < l.length) :
    Calls Try.prog 99 #[.pointer (some ⟨b, 0, none⟩), .int .i64 (i : Int), .int .i64 (j : Int)] w fun e w' => e = .returned (.bool (lt (l.getD i default) (l.getD j default))) ∧ Qr b B f X w' l ∧ Chg (Sq B X) w w' := by
  obtain ⟨ao, cap, h1, h2, -, h3, h4⟩ := h.cells
  obtain ⟨g, rfl, hg⟩ := own_slice h3 (by omega)
  obtain ⟨n, hn⟩ : ∃ n, l.length = n := ⟨_, rfl⟩
  rw [hn] at h1 h3 hi hj
  obtain ⟨a0, a1, a2, a3, a4⟩ := own_at h3 hn i hi
  obtain ⟨c0, c1, c2, c3, c4⟩ := own_at h3 hn j hj
  have H := Lib.hid h
  obtain ⟨x, hx⟩ : ∃ x, l.getD i default = x := ⟨_, rfl⟩
  obtain ⟨y, hy⟩ : ∃ y, l.getD j default = y := ⟨_, rfl⟩
  rw [hx] at a0 a1 a2 a3 a4 ⊢
  rw [hy] at c0 c1 c2 c3 c4 ⊢
  have hfx := hf x y w.drew
  have HF := Lib.hid hfx
  have hin : (i : Int) < (n : Int) := by omega
  have hjn : (j : Int) < (n : Int) := by omega
  clear h h3 hf hfx hn hx hy
  obtain ⟨s1, k1, p1, l1, r1⟩ := x
  obtain ⟨s2, k2, p2, l2, r2⟩ := y
  unfold sv at HF
  simp only [] at HF a0 a1 a2 a3 a4 c0 c1 c2 c3 c4 
  rcases hff with rfl | rfl
  · go_enter Try.func99, Try.ntmps99
    go_wp2
    go_still_tail 18, (by kernel_rfl)
    change wpList _ _ _ _ _ w.drew
    go_wp2_with fail
    refine HF.out.mono ?_
    rintro e w2 ⟨rfl, hc⟩
    have HC := Lib.hid hc
    clear hc
    go_wp2
    go_ret
    have hcw : Chg (fun _ => False) w w2 := (Chg.refl (fun _ => False) w).drew.trans HC.out (fun _ _ h => h)
    exact ⟨rfl, H.out.kept hcw (by simp), hcw.mono fun _ _ h => h.elim⟩
  · go_enter Try.func99, Try.ntmps99
    go_wp2
    go_still_tail 18, (by kernel_rfl)
    change wpList _ _ _ _ _ w.drew
    go_wp2_with fail
    refine HF.out.mono ?_
    rintro e w2 ⟨rfl, hc⟩
    have HC := Lib.hid hc
    clear hc
    go_wp2
    go_ret
    have hcw : Chg (fun _ => False) w w2 := (Chg.refl (fun _ => False) w).drew.trans HC.out (fun _ _ h => h)
    exact ⟨rfl, H.out.kept hcw (by simp), hcw.mono fun _ _ h => h.elim⟩

end

end Go.Proofs.Ythghlfghdmifoaa

/- What Swap of norm's queue does. THIS SPEAKS OF THE PROGRAM'S OWN TEXT. -/
namespace Go.Proofs.Ythghlfghdmifoaa
open Go.RowKit

section
variable {b B f X : Nat} {w : World} {l : List Sh}

/-- five cells of the block g, one behind the other -/
def W5 (w : World) (g k : Nat) (s : Sh) : World := ((((w.setCell ⟨g, k, none⟩ (.int .i64 s.sym)).setCell ⟨g, k + 1, none⟩ (.int .i64 s.cnt)).setCell ⟨g, k + 2, none⟩ (.int .i64 s.plc)).setCell ⟨g, k + 3, none⟩ (.int .i64 s.lft)).setCell ⟨g, k + 4, none⟩ (.bool s.rai)
theorem W5_chg (w : World) (g k : Nat) (s : Sh) : Chg (fun q => q = g) w (W5 w g k s) :=
  ((((Chg.setCell w ⟨g, k, none⟩ _).trans (Chg.setCell _ ⟨g, k + 1, none⟩ _) fun _ _ h => h).trans (Chg.setCell _ ⟨g, k + 2, none⟩ _) fun _ _ h => h).trans (Chg.setCell _ ⟨g, k + 3, none⟩ _) fun _ _ h => h).trans (Chg.setCell _ ⟨g, k + 4, none⟩ _) fun _ _ h => h
theorem own_W5 {g n cap : Nat} (h : w.ownsRow B 79 5 (.slice (some ⟨g, 0, none⟩) n cap) n (svs l)) (hl : l.length = n) (i : Nat) (hi : i < n) (s : Sh) :
    (W5 w g (i * 5) s).ownsRow B 79 5 (.slice (some ⟨g, 0, none⟩) n cap) n (svs (l.set i s)) := by
  rw [← svs_set l i s (by omega)]
  exact ((((((h.stored (i * 5) _).1.stored (i * 5 + 1) _).1.stored (i * 5 + 2) _).1.stored (i * 5 + 3) _).1.stored (i * 5 + 4) _).1)

set_option maxHeartbeats 4000000 in
set_option maxRecDepth 100000 in
theorem qswap_any (h : Qr b B f X w l) (i j : Nat) (hi : i < l.length) (hj : j < l.length) :
    Calls Try.prog 102 #[.pointer (some ⟨b, 0, none⟩), .int .i64 (i : Int), .int .i64 (j : Int)] w fun e w' => e = .returned (.tuple #[]) ∧ Qr b B f X w' (swp l i j) ∧ Chg (Sq B X) w w' := by
  obtain ⟨ao, cap, h1, h2, -, h3, h4⟩ := h.cells
  obtain ⟨g, rfl, hg⟩ := own_slice h3 (by omega)
  have hgX : g ≠ X := by
    obtain ⟨v, q1, q2, q3, q4, q5, q6, q7⟩ := h
    have e1 : w.cell? ⟨b, 0, none⟩ = some v := by rw [cell_of_row w b 0 _ _ _ q1]; rfl
    rw [e1] at h1
    obtain rfl := Option.some.inj h1
    exact fun he => q6 (by rw [he]; rfl)
  obtain ⟨n, hn⟩ : ∃ n, l.length = n := ⟨_, rfl⟩
  rw [hn] at h1 h3 hi hj
  obtain ⟨a0, a1, a2, a3, a4⟩ := own_at h3 hn i hi
  obtain ⟨c0, c1, c2, c3, c4⟩ := own_at h3 hn j hj
  have f0 := h3.frozenAt (i * 5)
  have f1 := h3.frozenAt (i * 5 + 1)
  have f2 := h3.frozenAt (i * 5 + 2)
  have f3 := h3.frozenAt (i * 5 + 3)
  have f4 := h3.frozenAt (i * 5 + 4)
  have g0 := h3.frozenAt (j * 5)
  have g1 := h3.frozenAt (j * 5 + 1)
  have g2 := h3.frozenAt (j * 5 + 2)
  have g3 := h3.frozenAt (j * 5 + 3)
  have g4 := h3.frozenAt (j * 5 + 4)
  have H := Lib.hid h
  have hsw : swp l i j = (l.set i (l.getD j default)).set j (l.getD i default) := rfl
  rw [hsw]
  obtain ⟨x, hx⟩ : ∃ x, l.getD i default = x := ⟨_, rfl⟩
  obtain ⟨y, hy⟩ : ∃ y, l.getD j default = y := ⟨_, rfl⟩
  rw [hx] at a0 a1 a2 a3 a4 ⊢
  rw [hy] at c0 c1 c2 c3 c4 ⊢
  have hin : (i : Int) < (n : Int) := by omega
  have hjn : (j : Int) < (n : Int) := by omega
  have h5 := own_W5 h3 hn i hi y
  have h6 := own_W5 h5 (by simpa using hn) j hj x
  obtain ⟨d0, d1, d2, d3, d4⟩ := own_at h5 (by simpa using hn) j hj
  obtain ⟨z, hz⟩ : ∃ z, (l.set i y).getD j default = z := ⟨_, rfl⟩
  rw [hz] at d0 d1 d2 d3 d4
  have hc6 : Chg (Sq B X) w (W5 (W5 w g (i * 5) y) g (j * 5) x) := ((W5_chg w g (i * 5) y).trans (W5_chg _ g (j * 5) x) fun _ _ h => h).mono fun k _ hk => by rw [hk]; exact ⟨hg, hgX⟩
  have hq6 : Qr b B f X (W5 (W5 w g (i * 5) y) g (j * 5) x) ((l.set i y).set j x) := by
    obtain ⟨v, q1, q2, q3, q4⟩ := h
    have e1 : w.cell? ⟨b, 0, none⟩ = some v := by rw [cell_of_row w b 0 _ _ _ q1]; rfl
    rw [e1] at h1
    obtain rfl := Option.some.inj h1
    have hne := own_ne q2 q1
    have hbg : b ≠ g := fun he => hne (by rw [he]; rfl)
    refine ⟨_, (((W5_chg w g (i * 5) y).trans (W5_chg _ g (j * 5) x) fun _ _ h => h).block b (lt_of_block q1) hbg).trans q1, ?_, by simpa using q3, q4.1, q4.2.1, q4.2.2.1, Nat.lt_of_lt_of_le q4.2.2.2 hc6.size⟩
    have : ((l.set i y).set j x).length = n := by simpa using hn
    rw [this]
    exact h6
  have HC6 := Lib.hid hc6; have HQ6 := Lib.hid hq6
  clear h h3 hn hx hy hsw h5 h6 hz hc6 hq6 hgX
  unfold W5 at d0 d1 d2 d3 d4 HC6 HQ6
  obtain ⟨t1, t2, t3, t4, t5⟩ := z
  obtain ⟨s1, k1, p1, l1, r1⟩ := x
  obtain ⟨s2, k2, p2, l2, r2⟩ := y
  simp only [] at a0 a1 a2 a3 a4 c0 c1 c2 c3 c4 d0 d1 d2 d3 d4 HC6 HQ6
  go_enter Try.func102, Try.ntmps102
  go_wp2
  go_region
  go_wp2
  go_returns
  exact ⟨rfl, HQ6.out.kept ((Chg.refl (fun _ => False) _).drew) (by simp), HC6.out.drew⟩

/-- a queue whose shares lie elsewhere now -/
theorem Qr.turn {w' : World} {v v' : Value} {l' : List Sh} (h1 : w.heap[b]? = some (.cells #[v, .func (.func f) #[] #[]] 83 (0, 0))) (hown : w'.ownsRow B 79 5 v' l'.length (svs l')) (hn : l'.length ≤ 100000) (hb : Far b B X v' w') (hk : w'.heap[b]? = w.heap[b]?) :
    Qr b B f X (w'.setCell ⟨b, 0, none⟩ v') l' := by
  have h2 := hk.trans h1
  refine ⟨v', ?_, ownsRow_setCell_other hown (own_ne hown h2) v', hn, hb.1, hb.2.1, hb.2.2.1, by simpa [World.setCell] using hb.2.2.2⟩
  rw [heap_setCell_same w' b 0 _ _ v' h2]
  rfl

set_option maxHeartbeats 1000000 in
set_option maxRecDepth 100000 in
theorem qpop_any (x : Sh) (h : Qr b B f X w (l ++ [x])) :
    Calls Try.prog 100 #[.pointer (some ⟨b, 0, none⟩)] w fun e w' => e = .returned (.iface 79 (sv x)) ∧ Qr b B f X w' l ∧ Chg (Sq B X) w w' := by
  obtain ⟨v, q1, q2, q3, q4⟩ := h
  have h1 : w.cell? ⟨b, 0, none⟩ = some v := by rw [cell_of_row w b 0 _ _ _ q1]; rfl
  have hf := frozen_of_row w b 0 _ _ q1
  obtain ⟨n, hn⟩ : ∃ n, l.length = n := ⟨_, rfl⟩
  have hn1 : (l ++ [x]).length = n + 1 := by simp [hn]
  rw [hn1] at q2 q3
  have hx : (l ++ [x]).getD n default = x := by rw [List.getD_eq_getElem?_getD, List.getElem?_append_right (by omega)]; simp [hn]
  rcases q2.2 with ⟨_, h0⟩ | ⟨g, cap, cur, rfl, hg, hh, hnc, hcm, hsz, htk⟩
  · omega
  obtain ⟨a0, a1, a2, a3, a4⟩ := own_at q2 hn1 n (by omega)
  rw [hx] at a0 a1 a2 a3 a4
  have hpop : w.ownsRow B 79 5 (.slice (some ⟨g, 0, none⟩) n cap) l.length (svs l) := by
    rw [hn]
    rw [svs_append] at q2
    exact ownsRow_pop (by rw [svs_length, hn]) q2
  obtain ⟨s1, kk1, p1, l1, r1⟩ := x
  have hca := Chg.alloc (fun _ => False) w (.cells #[.int .i64 s1, .int .i64 kk1, .int .i64 p1, .int .i64 l1, .bool r1] 79)
  have hnew := heap_alloc_new w (.cells #[.int .i64 s1, .int .i64 kk1, .int .i64 p1, .int .i64 l1, .bool r1] 79)
  have hown2 := hpop.alloc (.cells #[.int .i64 s1, .int .i64 kk1, .int .i64 p1, .int .i64 l1, .bool r1] 79)
  obtain ⟨W1, hW1⟩ : ∃ W1, w.alloc (.cells #[.int .i64 s1, .int .i64 kk1, .int .i64 p1, .int .i64 l1, .bool r1] 79) = W1 := ⟨_, rfl⟩
  rw [hW1] at hca hnew hown2
  have hc1 : Chg (Sq B X) w (W1.setCell ⟨b, 0, none⟩ (.slice (some ⟨g, 0, none⟩) n cap)) := (hca.mono (T := Sq B X) fun _ _ h => h.elim).trans (Chg.setCell W1 ⟨b, 0, none⟩ _) fun k _ hk => by rw [hk]; exact ⟨q4.1, q4.2.1⟩
  have hq1 : Qr b B f X (W1.setCell ⟨b, 0, none⟩ (.slice (some ⟨g, 0, none⟩) n cap)) l := Qr.turn q1 hown2 (by omega) ⟨q4.1, q4.2.1, q4.2.2.1, Nat.lt_of_lt_of_le q4.2.2.2 hca.size⟩ (hca.block b (lt_of_block q1) (by simp))
  have hnew2 : (W1.setCell ⟨b, 0, none⟩ (.slice (some ⟨g, 0, none⟩) n cap)).heap[w.heap.size]? = _ := (heap_setCell_other W1 ⟨b, 0, none⟩ w.heap.size _ (fun e => by have := lt_of_block q1; simp at e; omega)).trans hnew
  have z0 : (W1.setCell ⟨b, 0, none⟩ (.slice (some ⟨g, 0, none⟩) n cap)).cell? ⟨w.heap.size, 0, none⟩ = some (.int .i64 s1) := by rw [cell_of_row _ _ 0 _ _ _ hnew2]; rfl
  have z1 : (W1.setCell ⟨b, 0, none⟩ (.slice (some ⟨g, 0, none⟩) n cap)).cell? ⟨w.heap.size, 1, none⟩ = some (.int .i64 kk1) := by rw [cell_of_row _ _ 1 _ _ _ hnew2]; rfl
  have z2 : (W1.setCell ⟨b, 0, none⟩ (.slice (some ⟨g, 0, none⟩) n cap)).cell? ⟨w.heap.size, 2, none⟩ = some (.int .i64 p1) := by rw [cell_of_row _ _ 2 _ _ _ hnew2]; rfl
  have z3 : (W1.setCell ⟨b, 0, none⟩ (.slice (some ⟨g, 0, none⟩) n cap)).cell? ⟨w.heap.size, 3, none⟩ = some (.int .i64 l1) := by rw [cell_of_row _ _ 3 _ _ _ hnew2]; rfl
  have z4 : (W1.setCell ⟨b, 0, none⟩ (.slice (some ⟨g, 0, none⟩) n cap)).cell? ⟨w.heap.size, 4, none⟩ = some (.bool r1) := by rw [cell_of_row _ _ 4 _ _ _ hnew2]; rfl
  have HC := Lib.hid hc1; have HQ := Lib.hid hq1
  have k1 : W1.cell? ⟨b, 0, none⟩ = some (.slice (some ⟨g, 0, none⟩) (n + 1) cap) := by
    rw [World.cell?_of_block (w := w) (hca.block b (lt_of_block q1) (by simp))]; exact h1
  have k2 : W1.frozen? ⟨b, 0, none⟩ = false := by
    rw [World.frozen?_of_block (w := w) (hca.block b (lt_of_block q1) (by simp))]; exact hf
  have hb : ((n + 1 : Nat) : Int) ≤ 100000 := by omega
  obtain ⟨n1, hn1⟩ : ∃ n1, n + 1 = n1 := ⟨_, rfl⟩
  have e1 : (n1 : Int) - 1 = (n : Int) := by omega
  have e2 : wrap64 (n : Int) = (n : Int) := by unfold wrap64; omega
  have e3 : (n : Int) < (n1 : Int) := by omega
  have e4 : n ≤ cap := Nat.le_of_lt hnc
  rw [hn1] at h1 hb k1
  clear hc1 hq1 hpop hnew hnew2 hown2 hca q1 q2 q3 q4 hx hn htk hsz hcm hnc hh hg
  unfold sv
  simp only [] at a0 a1 a2 a3 a4 ⊢
  have e5 : n < n1 := by omega
  clear hn1
  go_enter Try.func100, Try.ntmps100
  go_wp2
  go_returns
  exact ⟨rfl, HQ.out, HC.out⟩

theorem Try.asShare (v : Value) (w : World) : (Instr.typeAssert (.iface 79 v) 20 79 false).run Try.prog w = .ok v w := by kernel_rfl

/-- append of one share, in a region that draws -/
theorem step_append_share {ops : Array Oper} {o : Oper} {a : Act} {W : World} {K : Act → World → Prop} {Q : Exit → Act → World → Prop} {E : Prop} (hgd : o.guard = none) (s x : Operand)
    (ho : o.op = .call { callee := .builtin .append, args := #[s, x], argTypes := #[72, 72] })
    (B : Nat) (v : Value) (l : List Sh) (y : Sh) (hs : a.eval s = v) (hown : W.ownsRow B 79 5 v l.length (svs l)) (G : Nat) (hx : a.eval x = .slice (some ⟨G, 0, none⟩) 1 1)
    (hblk : W.heap[G]? = some (.cells (svl y).toArray 79 (0, 0))) (hl : l.length ≤ 100000) (hB : B ≤ W.heap.size)
    (n1 : Nat) (hn1 : n1 = l.length + 1) (h : ∀ g cap w', w'.ownsRow B 79 5 (.slice (some ⟨g, 0, none⟩) n1 cap) (l ++ [y]).length (svs (l ++ [y])) → Chg (fun k => some k = v.ownBlock) W w' → (v.ownBlock = some g ∨ g = W.heap.size) → K (a.put o.dst (.slice (some ⟨g, 0, none⟩) n1 cap)) w') :
    if Region.wanted o (yielded ops a.tmps) = true then Oper.wp Try.prog o a W K Q else E := by
  subst hn1
  obtain ⟨i, hi, hz0, hz1, hz2⟩ := info_parts Try.infoShare
  refine step_append_lies W hgd s x 72 ho B 79 i (.agg #[.int .i64 0, .int .i64 0, .int .i64 0, .int .i64 0, .bool false]) 5 40 Try.underlying72 hi hz0 hz1 hz2 rfl (by decide) v l.length (svs l) hs hown ⟨G, 0, none⟩ 1 1 (svl y) hx rfl (World.news_of_block hblk)
    (fun u hu => svs_one [y] u (by simpa [svs] using hu)) (by decide) (by unfold maxLen; omega) (by omega) hB _ rfl fun g cap w' h2 h3 h4 _ => ?_
  exact h g cap w' (by rw [List.length_append, svs_append, List.length_singleton]; simpa [svs] using h2) (Chg.of_grown h3) h4

set_option maxHeartbeats 2000000 in
set_option maxRecDepth 100000 in
theorem qpush_any (x : Sh) (h : Qr b B f X w l) (hl : l.length < 100000) :
    Calls Try.prog 101 #[.pointer (some ⟨b, 0, none⟩), .iface 79 (sv x)] w fun e w' => e = .returned (.tuple #[]) ∧ Qr b B f X w' (l ++ [x]) ∧ Chg (Sq B X) w w' := by
  obtain ⟨v, q1, q2, q3, q4⟩ := h
  have h1 : w.cell? ⟨b, 0, none⟩ = some v := by rw [cell_of_row w b 0 _ _ _ q1]; rfl
  have hf := frozen_of_row w b 0 _ _ q1
  have hlt := lt_of_block q1
  have hne := own_ne q2 q1
  obtain ⟨s1, k1, p1, l1, r1⟩ := x
  have ho1 := q2.alloc (.cells #[.int .i64 s1, .int .i64 k1, .int .i64 p1, .int .i64 l1, .bool r1] 79)
  have hblk := heap_alloc_new w (.cells #[.int .i64 s1, .int .i64 k1, .int .i64 p1, .int .i64 l1, .bool r1] 79)
  obtain ⟨n1, hn1⟩ : ∃ n1, n1 = l.length + 1 := ⟨_, rfl⟩
  have HN1 := Lib.hid hn1
  clear hn1
  have hstep : ∀ g cap w', w'.ownsRow B 79 5 (.slice (some ⟨g, 0, none⟩) n1 cap) (l ++ [Sh.mk s1 k1 p1 l1 r1]).length (svs (l ++ [Sh.mk s1 k1 p1 l1 r1])) → Chg (fun k => some k = v.ownBlock) (w.alloc (.cells #[.int .i64 s1, .int .i64 k1, .int .i64 p1, .int .i64 l1, .bool r1] 79)).drew w' → (v.ownBlock = some g ∨ g = (w.alloc (.cells #[.int .i64 s1, .int .i64 k1, .int .i64 p1, .int .i64 l1, .bool r1] 79)).drew.heap.size) →
      w'.cell? ⟨b, 0, none⟩ = some v ∧ w'.frozen? ⟨b, 0, none⟩ = false ∧ Hid (Qr b B f X (w'.setCell ⟨b, 0, none⟩ (.slice (some ⟨g, 0, none⟩) n1 cap)) (l ++ [Sh.mk s1 k1 p1 l1 r1]) ∧ Chg (Sq B X) w (w'.setCell ⟨b, 0, none⟩ (.slice (some ⟨g, 0, none⟩) n1 cap))) := by
    intro g cap w' ho hc hlies
    have hca : Chg (fun k => some k = v.ownBlock) w w' := ((Chg.alloc _ w _).drew).trans hc fun _ _ h => h
    have hb2 := hca.block b hlt (fun he => hne he.symm)
    have hfar : Far b B X (.slice (some ⟨g, 0, none⟩) n1 cap) w' := by
      refine ⟨q4.1, q4.2.1, ?_, Nat.lt_of_lt_of_le q4.2.2.2 hca.size⟩
      have hX := q4.2.2.2
      rcases hlies with h | h
      · intro he
        exact q4.2.2.1 (by rw [h]; exact he)
      · intro he
        simp only [Value.ownBlock, Option.some.injEq] at he
        rw [h] at he
        simp [World.drew] at he
        omega
    refine ⟨?_, ?_, Lib.hid ⟨Qr.turn q1 ho (by simp; omega) hfar hb2, ?_⟩⟩
    · rw [World.cell?_of_block (w := w) hb2]; exact h1
    · rw [World.frozen?_of_block (w := w) hb2]; exact hf
    · refine (hca.mono (T := Sq B X) fun k _ hk => ⟨(q2.lt k hk.symm).1, fun he => q4.2.2.1 (by rw [← hk, he])⟩).trans (Chg.setCell w' ⟨b, 0, none⟩ _) fun k _ hk => by rw [hk]; exact ⟨q4.1, q4.2.1⟩
  have hBw : B ≤ w.heap.size := by have := q4.1; omega
  have hkeep : ∀ o, (w.alloc o).cell? ⟨b, 0, none⟩ = some v := fun o => by
    have : (w.alloc o).heap[b]? = w.heap[b]? := Below.heap_alloc w o b hlt
    rw [World.cell?_of_block (w := w) this]; exact h1
  have HST := Lib.hid hstep; have HO := Lib.hid ho1; have HB := Lib.hid hblk; have HBW := Lib.hid (show B ≤ (w.alloc (.cells #[.int .i64 s1, .int .i64 k1, .int .i64 p1, .int .i64 l1, .bool r1] 79)).drew.heap.size by simp [World.drew]; omega); have HL := Lib.hid (Nat.le_of_lt hl)
  clear hstep ho1 hblk hBw q1 q2 q3 q4 hlt hne hl
  unfold sv
  simp only []
  have has := Try.asShare
  go_enter Try.func101, Try.ntmps101
  go_wp2
  go_region_law ((refine step_append_share rfl (.tmp 8) (.tmp 11) rfl B v l (Sh.mk s1 k1 p1 l1 r1) rfl HO.out.drew w.heap.size rfl HB.out HL.out HBW.out n1 HN1.out ?_; intro g cap w2 ho2 hc2 hl2; obtain ⟨e1, e2, HQQ⟩ := HST.out _ _ w2 ho2 hc2 hl2; clear ho2 hc2 hl2))
  all_goals
    go_wp2
    go_returns
    exact ⟨rfl, HQQ.out.1, HQQ.out.2⟩

end

end Go.Proofs.Ythghlfghdmifoaa

/- What norm's divide and told do. THIS SPEAKS OF THE PROGRAM'S OWN TEXT. -/
namespace Go.Proofs.Ythghlfghdmifoaa
open Go.RowKit

/-- append of one share -/
theorem wpList_append_share {ops : Array Oper} {rest : List Oper} {o : Oper} {a : Act} {W : World} {Q : Exit → Act → World → Prop} (hgd : o.guard = none) (s x : Operand)
    (ho : o.op = .call { callee := .builtin .append, args := #[s, x], argTypes := #[72, 72] })
    (B : Nat) (v : Value) (l : List Sh) (y : Sh) (hs : a.eval s = v) (hown : W.ownsRow B 79 5 v l.length (svs l)) (G : Nat) (hx : a.eval x = .slice (some ⟨G, 0, none⟩) 1 1)
    (hblk : W.heap[G]? = some (.cells (svl y).toArray 79 (0, 0))) (hl : l.length ≤ 100000) (hB : B ≤ W.heap.size)
    (h : ∀ v' w', w'.ownsRow B 79 5 v' (l ++ [y]).length (svs (l ++ [y])) → Chg (fun k => some k = v.ownBlock) W w' → wpList Try.prog ops Q rest (a.put o.dst v') w') :
    wpList Try.prog ops Q (o :: rest) a W := by
  obtain ⟨i, hi, hz0, hz1, hz2⟩ := info_parts Try.infoShare
  refine wpList_append_lies W hgd s x 72 ho B 79 i (.agg #[.int .i64 0, .int .i64 0, .int .i64 0, .int .i64 0, .bool false]) 5 40 Try.underlying72 hi hz0 hz1 hz2 rfl (by decide) v l.length (svs l) hs hown ⟨G, 0, none⟩ 1 1 (svl y) hx rfl (World.news_of_block hblk)
    (fun u hu => svs_one [y] u (by simpa [svs] using hu)) (by decide) (by unfold maxLen; omega) (by omega) hB _ rfl fun g cap w' h2 h3 h4 _ => ?_
  exact h _ w' (by rw [List.length_append, svs_append, List.length_singleton]; simpa [svs] using h2) (Chg.of_grown h3)

set_option maxHeartbeats 2000000 in
set_option maxRecDepth 100000 in
theorem ndivide_any (v : Value) (c : List Int) (size n : Int) (w : World) (h : RdI w v c) (hb : ∀ z ∈ c, -9223372036854775808 ≤ z ∧ z ≤ 9223372036854775807) (hr : isRight c) (hn : tot c = n) (hn0 : 0 < n) (hs1 : 1 ≤ size) (hs2 : size ≤ 4096) :
    Calls Try.prog 66 #[v, .int .i64 size] w fun e w' => ∃ u, e = .returned u ∧ w'.ownsRow w.heap.size 79 5 u (shTo c size n 256).length (svs (shTo c size n 256)) ∧ Chg (fun _ => False) w w' := by
  have hlen := hr.1
  have ht := htotal_any v c w h hb (by omega)
  have htt : totalI c = n := by unfold totalI; rw [if_pos hr, hn]
  rw [htt] at ht
  have HT := Lib.hid ht
  obtain ⟨ao, cap, rfl⟩ := h.form
  have H := Lib.hid h; have HR := Lib.hid hr; have HN := Lib.hid hn; have HLEN := Lib.hid hlen
  have hnb : n ≤ 1073741824 := by rw [← hn]; exact hr.2.2
  clear h hb hr hn ht htt
  obtain ⟨m, hm⟩ : ∃ m, c.length = m := ⟨_, rfl⟩
  rw [hm] at H HT hlen ⊢
  have HM := Lib.hid hm
  have hmI : (m : Int) ≤ 256 := by omega
  have HM256 := Lib.hid hlen
  clear hm hlen
  go_enter Try.func66, Try.ntmps66
  go_wp2_with fail
  refine HT.out.mono ?_
  rintro e w1 ⟨rfl, m0, rfl⟩
  have hc0 : Chg (fun _ => False) w (w.drewN m0) := (Chg.refl _ _).drewN m0
  obtain ⟨w0, hw0⟩ : ∃ w0, w.drewN m0 = w0 := ⟨_, rfl⟩
  rw [hw0] at hc0 ⊢
  have HC0 := Lib.hid hc0
  clear HT hw0 hc0
  go_wp2
  go_loopw [6, 14] (fun o6 o14 wr => ∃ (k : Nat) (u : Value), k ≤ m ∧ o14 = .int .i64 (k : Int) ∧ u = o6 ∧ wr.ownsRow w.heap.size 79 5 u (shTo c size n k).length (svs (shTo c size n k)) ∧ Chg (fun _ => False) w wr) (fun _ o14 _ => m - (intOf o14).toNat)
  case atStart => exact ⟨0, _, Nat.zero_le _, rfl, rfl, World.ownsRow_nil _ _ _ _, HC0.out⟩
  case round =>
    obtain ⟨k, u, hk, rfl, rfl, hown, hc⟩ := hrel
    clear HC0
    have hwz := hc.size
    by_cases hlt : k < m
    · have hrd := H.out.kept hc (by simp)
      rw [← HM.out] at hrd
      obtain ⟨g, off, rfl, hcell⟩ := hrd.at k (by rw [HM.out]; exact hlt)
      have hx := HR.out.at k (by rw [HM.out]; exact hlt)
      have h0t : 0 ≤ tot (c.take k) := tot_nonneg _ fun z hz => HR.out.2.1 z (List.mem_of_mem_take hz)
      obtain ⟨x, hxe⟩ : ∃ x, c.getD k 0 = x := ⟨_, rfl⟩
      rw [hxe] at hcell hx
      have hx0 : 0 ≤ x := hx.1
      have hx1 : x ≤ 1073741824 := by omega
      have hXB := Lib.hid hwz
      clear hwz
      have HX := Lib.hid hxe; have HOWN := Lib.hid hown; have HC := Lib.hid hc
      clear hrd hx h0t hxe hown hc
      have hkm : (k : Int) < (m : Int) := by omega
      by_cases hxz : x = 0
      · have hsk := shTo_skip (c := c) (size := size) (n := n) (k := k) (by rw [HX.out]; exact hxz)
        have HSK := Lib.hid hsk
        clear hsk
        subst hxz
        go_wp2
        go_roundw
        case rel => exact ⟨k + 1, _, by omega, by go_num, rfl, by rw [HSK.out]; exact HOWN.out, HC.out⟩
        case measure => simp [intOf]; omega
      · have hmo := shTo_more (c := c) (size := size) (n := n) (k := k) (by rw [HX.out]; exact hxz)
        rw [HX.out] at hmo
        have HMO := Lib.hid hmo
        have hP0 : 0 ≤ x * size := Int.mul_nonneg hx0 (by omega)
        have hP1 : x * size ≤ 1073741824 * 4096 := Int.mul_le_mul hx1 hs2 (by omega) (by omega)
        have hmk : mkSh size n k x = if x * size / n = 0 then ⟨(k : Int), x, 1, x * size % n, true⟩ else ⟨(k : Int), x, x * size / n, x * size % n, false⟩ := rfl
        obtain ⟨P, hP⟩ : ∃ P, x * size = P := ⟨_, rfl⟩
        rw [hP] at hP0 hP1 hmk
        have hw1 : IntKind.i64.wrap (x * size) = P := by rw [hP, IntKind.wrap_i64]; omega
        have hQ0 : 0 ≤ P / n := Int.ediv_nonneg hP0 (by omega)
        have hQ1 : P / n ≤ P := Int.ediv_le_self _ hP0
        have hR0 : 0 ≤ P % n := Int.emod_nonneg _ (by omega)
        have hR1 : P % n < n := Int.emod_lt_of_pos _ hn0
        have hd1 : P.tdiv n = P / n := Int.tdiv_eq_ediv_of_nonneg hP0
        have hd2 : P.tmod n = P % n := Int.tmod_eq_emod_of_nonneg hP0
        obtain ⟨q, hq⟩ : ∃ q, P / n = q := ⟨_, rfl⟩
        obtain ⟨r, hrr⟩ : ∃ r, P % n = r := ⟨_, rfl⟩
        rw [hq] at hQ0 hQ1 hd1 hmk
        rw [hrr] at hR0 hR1 hd2 hmk
        have hw2 : IntKind.i64.wrap q = q := by rw [IntKind.wrap_i64]; omega
        have hw3 : IntKind.i64.wrap r = r := by rw [IntKind.wrap_i64]; omega
        have hwP : IntKind.i64.wrap P = P := by rw [IntKind.wrap_i64]; omega
        have hnz : ¬ n = 0 := by omega
        have HMK := Lib.hid hmk; have HP := Lib.hid hP
        clear hmo hmk hP hq hrr
        have hoa : ∀ A A' : Obj, ((wr.alloc A).alloc A').drew.ownsRow w.heap.size 79 5 u (shTo c size n k).length (svs (shTo c size n k)) := fun A A' => ((HOWN.out.alloc A).alloc A').drew
        have hba : ∀ A A' : Obj, ((wr.alloc A).alloc A').drew.heap[wr.heap.size + 1]? = some A' := fun A A' => heap_alloc2_new wr A A'
        have hsa : ∀ A A' : Obj, w.heap.size ≤ ((wr.alloc A).alloc A').drew.heap.size := fun A A' => by have := hXB.out; simp [World.drew]; omega
        have hca : ∀ (A A' : Obj) (w2 : World), Chg (fun k => some k = u.ownBlock) ((wr.alloc A).alloc A').drew w2 → Chg (fun _ => False) w w2 := fun A A' w2 h2 => by
          have h3 : Chg (fun _ => False) w ((wr.alloc A).alloc A').drew := ((HC.out.trans (Chg.alloc (fun _ => False) wr A) fun _ _ h => h).trans (Chg.alloc (fun _ => False) _ A') fun _ _ h => h).drew
          exact h3.trans h2 fun q hq he => by have := (HOWN.out.lt q he.symm).1; omega
        have hll : (shTo c size n k).length ≤ 100000 := by have := shTo_length c size n k; omega
        have HOA := Lib.hid hoa; have HBA := Lib.hid hba; have HSA := Lib.hid hsa; have HCA := Lib.hid hca; have HLL := Lib.hid hll
        clear hoa hba hsa hca hll
        go_wp2
        go_region
        by_cases hqz : q = 0
        · subst hqz
          have hmk := HMK.out
          rw [if_pos rfl] at hmk
          have HMK2 := Lib.hid hmk
          clear hmk
          go_wp2_with (at_builtin; refine wpList_append_share rfl (.tmp 39) (.tmp 41) rfl w.heap.size u (shTo c size n k) ⟨(k : Int), x, 1, r, true⟩ rfl (HOA.out _ _) (wr.heap.size + 1) rfl (HBA.out _ _) HLL.out (HSA.out _ _) ?_)
          intro v2 w2 ho2 hc2
          have hc3 := HCA.out _ _ w2 hc2
          have HO2 := Lib.hid ho2; have HC3 := Lib.hid hc3
          clear ho2 hc2 hc3
          go_wp2
          go_roundw
          case rel => exact ⟨k + 1, v2, by omega, by go_num, rfl, by rw [HMO.out, HMK2.out, List.length_append]; exact HO2.out, HC3.out⟩
          case measure => simp [intOf]; omega
        · have hmk := HMK.out
          rw [if_neg hqz] at hmk
          have HMK2 := Lib.hid hmk
          clear hmk
          go_wp2_with (at_builtin; refine wpList_append_share rfl (.tmp 39) (.tmp 41) rfl w.heap.size u (shTo c size n k) ⟨(k : Int), x, q, r, false⟩ rfl (HOA.out _ _) (wr.heap.size + 1) rfl (HBA.out _ _) HLL.out (HSA.out _ _) ?_)
          intro v2 w2 ho2 hc2
          have hc3 := HCA.out _ _ w2 hc2
          have HO2 := Lib.hid ho2; have HC3 := Lib.hid hc3
          clear ho2 hc2 hc3
          go_wp2
          go_roundw
          case rel => exact ⟨k + 1, v2, by omega, by go_num, rfl, by rw [HMO.out, HMK2.out, List.length_append]; exact HO2.out, HC3.out⟩
          case measure => simp [intOf]; omega
    · obtain rfl : k = m := by omega
      have h256 := HM256.out
      rw [h256] at hown
      have HOWN := Lib.hid hown; have HC := Lib.hid hc
      clear hown hc h256
      go_wp2
      go_ret
      exact ⟨_, rfl, HOWN.out, HC.out⟩

theorem own_rd {w : World} {B : Nat} {u : Value} {l : List Sh} (h : w.ownsRow B 79 5 u l.length (svs l)) (k : Nat) (hk : k < l.length) : ∃ g cap, u = .slice (some ⟨g, 0, none⟩) l.length cap ∧
    w.cell? ⟨g, k * 5, none⟩ = some (.int .i64 (l.getD k default).sym) ∧ w.cell? ⟨g, k * 5 + 1, none⟩ = some (.int .i64 (l.getD k default).cnt) ∧ w.cell? ⟨g, k * 5 + 2, none⟩ = some (.int .i64 (l.getD k default).plc) ∧
    w.cell? ⟨g, k * 5 + 3, none⟩ = some (.int .i64 (l.getD k default).lft) ∧ w.cell? ⟨g, k * 5 + 4, none⟩ = some (.bool (l.getD k default).rai) := by
  obtain ⟨ao, cap, rfl⟩ := own_form h
  obtain ⟨g, rfl, _⟩ := own_slice h (by omega)
  exact ⟨g, cap, rfl, own_at h rfl k hk⟩
theorem layL_length (q : List Int) (l : List Sh) : (layL q l).length = q.length := by
  induction l generalizing q with
  | nil => rfl
  | cons x r ih => rw [layL, ih, List.length_set]
theorem layL_take (q : List Int) (l : List Sh) (k : Nat) (hk : k < l.length) : layL q (l.take (k + 1)) = (layL q (l.take k)).set (l.getD k default).sym.toNat (l.getD k default).plc := by
  rw [List.take_succ_eq_append_getElem hk, layL_append, List.getD_eq_getElem?_getD, List.getElem?_eq_getElem hk]; rfl

set_option maxHeartbeats 2000000 in
set_option maxRecDepth 100000 in
theorem ntold_room (u : Value) (l : List Sh) (B : Nat) (w : World) (h : w.ownsRow B 79 5 u l.length (svs l)) (hl : l.length ≤ 100000) (hsy : ∀ s ∈ l, 0 ≤ s.sym ∧ s.sym < 256) (Z : List Int) (hZ : Z = List.replicate 256 0) :
    Calls Try.prog 67 #[u] w fun e w' => ∃ v', e = .returned v' ∧ OwnI w' w.heap.size v' (layL Z l) ∧ Chg (fun _ => False) w w' ∧ RoomOk v' := by
  have H := Lib.hid h; have HSY := Lib.hid hsy
  obtain ⟨ao, cap, rfl⟩ := own_form h
  obtain ⟨m, hm⟩ : ∃ m, l.length = m := ⟨_, rfl⟩
  rw [hm] at H hl ⊢
  have HM := Lib.hid hm; have HZ := Lib.hid hZ
  have hmI : (m : Int) ≤ 100000 := by omega
  have hZl : Z.length = 256 := by rw [hZ]; exact List.length_replicate
  have HZL := Lib.hid hZl
  clear h hsy hm hl hZ hZl
  go_enter Try.func67, Try.ntmps67
  go_wp2_with (at_make; refine wpList_make_ints rfl _ _ rfl 256 256 256 rfl rfl rfl rfl (by omega) Z HZ.out ?_)
  intro w1 hrow1 hc1
  have HR1 := Lib.hid hrow1; have HC1 := Lib.hid hc1
  obtain ⟨G, hG⟩ : ∃ G, w.heap.size = G := ⟨_, rfl⟩
  rw [hG] at HR1 ⊢
  have HG := Lib.hid hG
  clear hrow1 hc1 hG
  go_wp2
  go_loopw [9] (fun o9 wr => ∃ k : Nat, k ≤ m ∧ o9 = .int .i64 (k : Int) ∧ RowI wr G 3 (layL Z (l.take k)) ∧ Chg (fun _ => False) w wr) (fun o9 _ => m - (intOf o9).toNat)
  case atStart => exact ⟨0, Nat.zero_le _, rfl, by rw [List.take_zero]; exact HR1.out, HC1.out⟩
  case round =>
    clear HR1 HC1
    obtain ⟨k, hk, rfl, hrow, hc⟩ := hrel
    by_cases hlt : k < m
    · have hown := hc.own H.out (by simp)
      rw [← HM.out] at hown
      obtain ⟨g, cap', he, c0, c1, c2, c3, c4⟩ := own_rd hown k (by rw [HM.out]; exact hlt)
      simp only [Value.slice.injEq] at he
      obtain ⟨rfl, -, -⟩ := he
      have hsy := HSY.out (l.getD k default) (by rw [List.getD_eq_getElem?_getD, List.getElem?_eq_getElem (by rw [HM.out]; exact hlt)]; exact List.getElem_mem _)
      have hst := layL_take Z l k (by rw [HM.out]; exact hlt)
      obtain ⟨⟨sy, ct, pl, lf, ra⟩, hs⟩ : ∃ s, l.getD k default = s := ⟨_, rfl⟩
      rw [hs] at c0 c1 c2 c3 c4 hsy hst
      simp only [] at c0 c1 c2 c3 c4 hsy hst
      obtain ⟨i, rfl⟩ : ∃ i : Nat, sy = (i : Int) := ⟨sy.toNat, by omega⟩
      rw [Int.toNat_natCast] at hst
      have hi : i < 256 := by omega
      have hlay : (layL Z (l.take k)).length = 256 := by rw [layL_length]; exact HZL.out
      have hca := Chg.alloc (fun _ => False) wr (.cells #[.int .i64 (i : Int), .int .i64 ct, .int .i64 pl, .int .i64 lf, .bool ra] 79)
      have hnew := heap_alloc_new wr (.cells #[.int .i64 (i : Int), .int .i64 ct, .int .i64 pl, .int .i64 lf, .bool ra] 79)
      obtain ⟨W1, hW1⟩ : ∃ W1, wr.alloc (.cells #[.int .i64 (i : Int), .int .i64 ct, .int .i64 pl, .int .i64 lf, .bool ra] 79) = W1 := ⟨_, rfl⟩
      rw [hW1] at hca hnew
      have hrow1 := hrow.kept hca (by simp)
      have d0 : W1.cell? ⟨wr.heap.size, 0, none⟩ = some (.int .i64 (i : Int)) := by rw [cell_of_row _ _ 0 _ _ _ hnew]; rfl
      have d2 : W1.cell? ⟨wr.heap.size, 2, none⟩ = some (.int .i64 pl) := by rw [cell_of_row _ _ 2 _ _ _ hnew]; rfl
      have e0 := hrow1.cell i (by omega)
      have e1 := hrow1.free i
      have hr2 := hrow1.set i pl
      rw [← hst] at hr2
      have hc2 : Chg (fun _ => False) w (W1.setCell ⟨G, i, none⟩ (.int .i64 pl)) := (hc.trans hca fun _ _ h => h).trans (Chg.setCell W1 ⟨G, i, none⟩ _) fun q hq he => by have := HG.out; simp at he; omega
      obtain ⟨z, hz⟩ : ∃ z, (layL Z (l.take k)).getD i 0 = z := ⟨_, rfl⟩
      rw [hz] at e0
      have hi2 : (i : Int) < 256 := by omega
      have HR2 := Lib.hid hr2; have HC2 := Lib.hid hc2
      clear hrow hc hown hst hs hca hnew hrow1 hlay hr2 hc2 hz hsy
      have hkm : (k : Int) < (m : Int) := by omega
      go_wp2
      go_roundw
      case rel => exact ⟨k + 1, by omega, by go_num, HR2.out, HC2.out⟩
      case measure => simp [intOf]; omega
    · obtain rfl : k = m := by omega
      rw [List.take_of_length_le (by rw [HM.out]; exact Nat.le_refl _)] at hrow
      have hlay : (layL Z l).length = 256 := by rw [layL_length]; exact HZL.out
      have hown := hrow.own 256 G (Nat.le_refl _)
      rw [hlay] at hown
      have HO := Lib.hid hown; have HC := Lib.hid hc
      clear hrow hc hlay hown
      go_wp2
      go_ret
      exact ⟨_, rfl, by rw [HG.out]; exact HO.out, HC.out, .of (Nat.le_refl _)⟩

theorem ntold_any (u : Value) (l : List Sh) (B : Nat) (w : World) (h : w.ownsRow B 79 5 u l.length (svs l)) (hl : l.length ≤ 100000) (hsy : ∀ s ∈ l, 0 ≤ s.sym ∧ s.sym < 256) (Z : List Int) (hZ : Z = List.replicate 256 0) :
    Calls Try.prog 67 #[u] w fun e w' => ∃ v', e = .returned v' ∧ OwnI w' w.heap.size v' (layL Z l) ∧ Chg (fun _ => False) w w' := (ntold_room u l B w h hl hsy Z hZ).mono fun _ _ ⟨v', h1, h2, h3, _⟩ => ⟨v', h1, h2, h3⟩

end Go.Proofs.Ythghlfghdmifoaa

/- norm's queue is a heap; what its add and next do. THIS SPEAKS OF THE PROGRAM'S OWN TEXT. -/
namespace Go.Proofs.Ythghlfghdmifoaa
open Go.RowKit

section
variable {b B f X : Nat} {w : World} {l : List Sh}

theorem methLen (a : Addr) (w : World) : (method 216 80 (.pointer (some a)) "Len").run Try.prog w = .ok (98, .pointer (some a)) w := by kernel_rfl
theorem methLess (a : Addr) (w : World) : (method 216 80 (.pointer (some a)) "Less").run Try.prog w = .ok (99, .pointer (some a)) w := by kernel_rfl
theorem methSwap (a : Addr) (w : World) : (method 216 80 (.pointer (some a)) "Swap").run Try.prog w = .ok (102, .pointer (some a)) w := by kernel_rfl
theorem methPush (a : Addr) (w : World) : (method 216 80 (.pointer (some a)) "Push").run Try.prog w = .ok (101, .pointer (some a)) w := by kernel_rfl
theorem methPop (a : Addr) (w : World) : (method 216 80 (.pointer (some a)) "Pop").run Try.prog w = .ok (100, .pointer (some a)) w := by kernel_rfl

/-- f is one of norm's two orders, and it is lt -/
def IsOrd (f : Nat) (lt : Sh → Sh → Bool) : Prop := (f = 71 ∨ f = 74) ∧ (∀ a c w, Calls Try.prog f #[sv a, sv c] w fun e w' => e = .returned (.bool (lt a c)) ∧ Chg (fun _ => False) w w') ∧ TotalOrd (noLess lt)
theorem isOrd_more : IsOrd 71 moreB := ⟨.inl rfl, nmore_any, moreB_ord⟩
theorem isOrd_great : IsOrd 74 greatB := ⟨.inr rfl, ngreat_any, greatB_ord⟩

theorem queue_hp {lt : Sh → Sh → Bool} (ho : IsOrd f lt) : HpA (.pointer (some ⟨b, 0, none⟩)) (Qr b B f X) lt (Sq B X) where
  len := fun w _ h => ⟨_, methLen _ w, qlen_any h⟩
  less := fun w _ h => ⟨_, methLess _ w, fun i j hi hj => qless_any ho.1 ho.2.1 h i j hi hj⟩
  swap := fun w _ h => ⟨_, methSwap _ w, fun i j hi hj => qswap_any h i j hi hj⟩
  small := fun _ _ h => h.small
theorem queue_pushes (x : Sh) : HpAPushes (.pointer (some ⟨b, 0, none⟩)) (Qr b B f X) (Sq B X) (fun s => .iface 79 (sv s)) x := fun w _ h hl => ⟨_, methPush _ w, qpush_any x h hl⟩
theorem queue_pops : HpAPops (.pointer (some ⟨b, 0, none⟩)) (Qr b B f X) (Sq B X) (fun s => .iface 79 (sv s)) := fun w _ x h => ⟨_, methPop _ w, qpop_any x h⟩

/-- the queue that holds the shares l, in a heap's order -/
def Qh (b B f : Nat) (lt : Sh → Sh → Bool) (w : World) (l : List Sh) : Prop := (∃ v, w.heap[b]? = some (.cells #[v, .func (.func f) #[] #[]] 83 (0, 0)) ∧ w.ownsRow B 79 5 v l.length (svs l) ∧ l.length ≤ 100000 ∧ B ≤ b) ∧ Heap (noLess lt) l l.length
theorem Qh.of {lt : Sh → Sh → Bool} (h : Qr b B f X w l) (hh : Heap (noLess lt) l l.length) : Qh b B f lt w l := by
  obtain ⟨v, h1, h2, h3, h4⟩ := h
  exact ⟨⟨v, h1, h2, h3, h4.1⟩, hh⟩
theorem Qh.far {lt : Sh → Sh → Bool} (h : Qh b B f lt w l) (o : Obj) : Qr b B f w.heap.size (w.alloc o) l := by
  obtain ⟨⟨v, h1, h2, h3, h4⟩, _⟩ := h
  refine ⟨v, (Below.heap_alloc w o b (lt_of_block h1)).trans h1, h2.alloc o, h3, h4, ?_, ?_, by simp⟩
  · have := lt_of_block h1; omega
  · intro he; have := (h2.lt _ he).2; omega
theorem Qh.kept {S : Nat → Prop} {w' : World} {lt : Sh → Sh → Bool} (h : Qh b B f lt w l) (hc : Chg S w w') (hS : ∀ k, B ≤ k → k < w.heap.size → ¬ S k) : Qh b B f lt w' l := by
  obtain ⟨⟨v, h1, h2, h3, h4⟩, hh⟩ := h
  refine ⟨⟨v, (hc.block b (lt_of_block h1) (hS b h4 (lt_of_block h1))).trans h1, hc.own h2 ?_, h3, h4⟩, hh⟩
  intro k hk
  exact hS k (h2.lt k hk).1 (h2.lt k hk).2
theorem Qh.le {lt : Sh → Sh → Bool} (h : Qh b B f lt w l) : B ≤ b ∧ b < w.heap.size := by obtain ⟨⟨v, h1, h2, h3, h4⟩, hh⟩ := h; exact ⟨h4, lt_of_block h1⟩

set_option maxHeartbeats 1000000 in
set_option maxRecDepth 100000 in
theorem qadd_any {lt : Sh → Sh → Bool} (ho : IsOrd f lt) (x : Sh) (h : Qh b B f lt w l) (hl : l.length < 100000) :
    Calls Try.prog 72 #[.pointer (some ⟨b, 0, none⟩), sv x] w fun e w' => e = .returned (.tuple #[]) ∧ ∃ l', Qh b B f lt w' l' ∧ l'.Perm (x :: l) ∧ Chg (fun k => B ≤ k) w w' := by
  have hp : ∀ o, Calls Try.prog 77 #[.iface 80 (.pointer (some ⟨b, 0, none⟩)), .iface 79 (sv x)] (w.alloc o) fun e w' => e = .returned (.tuple #[]) ∧ ∃ l', Qh b B f lt w' l' ∧ l'.Perm (x :: l) ∧ Chg (fun k => B ≤ k) w w' := by
    intro o
    refine (hpA_push ho.2.2 (queue_hp ho) x (queue_pushes x) (w.alloc o) l (h.far o) hl h.2).mono ?_
    rintro e w' ⟨rfl, l', h1, h2, h3, h4⟩
    exact ⟨rfl, l', Qh.of h1 h3, h2, (Chg.alloc (fun k => B ≤ k) w o).trans h4 fun _ _ hk => hk.1⟩
  have HP := Lib.hid hp
  clear hp h hl ho
  obtain ⟨s1, k1, p1, l1, r1⟩ := x
  unfold sv at HP ⊢
  simp only [] at HP ⊢
  go_enter Try.func72, Try.ntmps72
  go_wp2_with fail
  refine (HP.out _).mono ?_
  rintro e w2 ⟨rfl, hh⟩
  have HH := Lib.hid hh
  clear hh HP
  go_wp2
  go_returns
  exact ⟨rfl, HH.out⟩

theorem zeroShare (W : World) : (zeroValue 79).run Try.prog W = .ok (.agg #[.int .i64 0, .int .i64 0, .int .i64 0, .int .i64 0, .bool false]) W := by kernel_rfl

set_option maxHeartbeats 1000000 in
set_option maxRecDepth 100000 in
theorem qnext_any {lt : Sh → Sh → Bool} (ho : IsOrd f lt) (h : Qh b B f lt w l) (hl : 0 < l.length) :
    Calls Try.prog 73 #[.pointer (some ⟨b, 0, none⟩)] w fun e w' => ∃ x l', e = .returned (sv x) ∧ Qh b B f lt w' l' ∧ l.Perm (x :: l') ∧ (∀ y ∈ l', noLess lt x y) ∧ Chg (fun k => B ≤ k) w w' := by
  have hp : Calls Try.prog 78 #[.iface 80 (.pointer (some ⟨b, 0, none⟩))] (w.alloc (.cells #[.int .i64 0, .int .i64 0, .int .i64 0, .int .i64 0, .bool false] 79)) fun e w' => ∃ x l', e = .returned (.iface 79 (sv x)) ∧ (Qr b B f w.heap.size w' l' ∧ Heap (noLess lt) l' l'.length) ∧ l.Perm (x :: l') ∧ (∀ y ∈ l', noLess lt x y) ∧ Chg (fun k => B ≤ k) w w' ∧
      w'.heap[w.heap.size]? = some (.cells #[.int .i64 0, .int .i64 0, .int .i64 0, .int .i64 0, .bool false] 79 (0, 0)) ∧ B ≤ w.heap.size := by
    refine (hpA_pop ho.2.2 (queue_hp ho) queue_pops _ l (h.far _) hl h.2).mono ?_
    rintro e w' ⟨x, l', rfl, h1, h2, h3, h4, h5⟩
    refine ⟨x, l', rfl, ⟨h1, h4⟩, h2, h3, (Chg.alloc (fun k => B ≤ k) w _).trans h5 fun _ _ hk => hk.1, ?_, ?_⟩
    · exact (h5.block w.heap.size (by simp) (fun hk => hk.2 rfl)).trans (heap_alloc_new w _)
    · have := h.le; omega
  have HP := Lib.hid hp
  have has := Try.asShare
  have hz := zeroShare
  clear hp h hl ho
  go_enter Try.func73, Try.ntmps73
  go_wp2_with fail
  refine (HP.out).mono ?_
  rintro e w2 ⟨x, l', rfl, h1, h2, h3, h4, h5, h6⟩
  obtain ⟨s1, k1, p1, l1, r1⟩ := x
  obtain ⟨N, hN⟩ : ∃ N, w.heap.size = N := ⟨_, rfl⟩
  rw [hN] at h1 h5 h6 ⊢
  have z0 : w2.cell? ⟨N, 0, none⟩ = some (.int .i64 0) := by rw [cell_of_row _ _ 0 _ _ _ h5]; rfl
  have z1 : w2.cell? ⟨N, 1, none⟩ = some (.int .i64 0) := by rw [cell_of_row _ _ 1 _ _ _ h5]; rfl
  have z2 : w2.cell? ⟨N, 2, none⟩ = some (.int .i64 0) := by rw [cell_of_row _ _ 2 _ _ _ h5]; rfl
  have z3 : w2.cell? ⟨N, 3, none⟩ = some (.int .i64 0) := by rw [cell_of_row _ _ 3 _ _ _ h5]; rfl
  have z4 : w2.cell? ⟨N, 4, none⟩ = some (.bool false) := by rw [cell_of_row _ _ 4 _ _ _ h5]; rfl
  have f0 := frozen_of_row w2 N 0 _ _ h5
  have f1 := frozen_of_row w2 N 1 _ _ h5
  have f2 := frozen_of_row w2 N 2 _ _ h5
  have f3 := frozen_of_row w2 N 3 _ _ h5
  have f4 := frozen_of_row w2 N 4 _ _ h5
  have hb5 : (W5 w2 N 0 (Sh.mk s1 k1 p1 l1 r1)).heap[N]? = some (.cells #[.int .i64 s1, .int .i64 k1, .int .i64 p1, .int .i64 l1, .bool r1] 79 (0, 0)) := by
    unfold W5
    rw [heap_setCell_same _ N (0 + 4) _ _ _ (heap_setCell_same _ N (0 + 3) _ _ _ (heap_setCell_same _ N (0 + 2) _ _ _ (heap_setCell_same _ N (0 + 1) _ _ _ (heap_setCell_same w2 N 0 _ _ _ h5))))]
    rfl
  have hc5 := W5_chg w2 N 0 (Sh.mk s1 k1 p1 l1 r1)
  have hq5 := h1.1.kept hc5 (fun k hk he => hk.2 he)
  have HF := Lib.hid (show Qh b B f lt (W5 w2 N 0 (Sh.mk s1 k1 p1 l1 r1)) l' ∧ l.Perm (Sh.mk s1 k1 p1 l1 r1 :: l') ∧ (∀ y ∈ l', noLess lt (Sh.mk s1 k1 p1 l1 r1) y) ∧ Chg (fun k => B ≤ k) w (W5 w2 N 0 (Sh.mk s1 k1 p1 l1 r1)) from
    ⟨Qh.of hq5 h1.2, h2, h3, h4.trans hc5 fun k _ hk => by rw [hk]; exact h6⟩)
  have y0 : (w2.setCell ⟨N, 0, none⟩ (.int .i64 s1)).cell? ⟨N, 0, none⟩ = some (.int .i64 s1) := by rw [cell_of_row _ _ 0 _ _ _ (heap_setCell_same w2 N 0 _ _ _ h5)]; rfl
  have y1 : ((w2.setCell ⟨N, 0, none⟩ (.int .i64 s1)).setCell ⟨N, 1, none⟩ (.int .i64 k1)).cell? ⟨N, 1, none⟩ = some (.int .i64 k1) := by rw [cell_of_row _ _ 1 _ _ _ (heap_setCell_same _ N 1 _ _ _ (heap_setCell_same w2 N 0 _ _ _ h5))]; rfl
  have y2 : (((w2.setCell ⟨N, 0, none⟩ (.int .i64 s1)).setCell ⟨N, 1, none⟩ (.int .i64 k1)).setCell ⟨N, 2, none⟩ (.int .i64 p1)).cell? ⟨N, 2, none⟩ = some (.int .i64 p1) := by rw [cell_of_row _ _ 2 _ _ _ (heap_setCell_same _ N 2 _ _ _ (heap_setCell_same _ N 1 _ _ _ (heap_setCell_same w2 N 0 _ _ _ h5)))]; rfl
  have y3 : ((((w2.setCell ⟨N, 0, none⟩ (.int .i64 s1)).setCell ⟨N, 1, none⟩ (.int .i64 k1)).setCell ⟨N, 2, none⟩ (.int .i64 p1)).setCell ⟨N, 3, none⟩ (.int .i64 l1)).cell? ⟨N, 3, none⟩ = some (.int .i64 l1) := by rw [cell_of_row _ _ 3 _ _ _ (heap_setCell_same _ N 3 _ _ _ (heap_setCell_same _ N 2 _ _ _ (heap_setCell_same _ N 1 _ _ _ (heap_setCell_same w2 N 0 _ _ _ h5))))]; rfl
  have y4 : (((((w2.setCell ⟨N, 0, none⟩ (.int .i64 s1)).setCell ⟨N, 1, none⟩ (.int .i64 k1)).setCell ⟨N, 2, none⟩ (.int .i64 p1)).setCell ⟨N, 3, none⟩ (.int .i64 l1)).setCell ⟨N, 4, none⟩ (.bool r1)).cell? ⟨N, 4, none⟩ = some (.bool r1) := by rw [cell_of_row _ _ 4 _ _ _ (heap_setCell_same _ N 4 _ _ _ (heap_setCell_same _ N 3 _ _ _ (heap_setCell_same _ N 2 _ _ _ (heap_setCell_same _ N 1 _ _ _ (heap_setCell_same w2 N 0 _ _ _ h5)))))]; rfl
  clear h1 h2 h3 h4 h5 h6 hN hb5 hc5 hq5 HP
  unfold W5 at HF
  simp only [Nat.zero_add] at HF
  unfold sv
  simp only []
  go_wp2
  refine bodyPost_ret (v := sv (Sh.mk s1 k1 p1 l1 r1)) (by simp [results, Try.results73, go_sem, y0, y1, y2, y3, y4]; try rfl) rfl ?_
  exact ⟨Sh.mk s1 k1 p1 l1 r1, l', rfl, HF.out⟩

end

end Go.Proofs.Ythghlfghdmifoaa
