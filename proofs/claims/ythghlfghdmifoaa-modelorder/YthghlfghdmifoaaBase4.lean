/- Texts that other texts of this claim rest on, one behind the other (MdRefE MdRow MdProgD OneBox LgLen LgProg CxZero CxProgC MdProgE MdProg MdAwake OpCap OpInts OpIntsC MdFew OpModel). -/
import Derived.Test.YthghlfghdmifoaaBase3
import Derived.Deep.CutRange
import Derived.Deep.RegionHeld3
import Derived.Handy
import Derived.Laws.MathBits
import Derived.Lib.SmallJoins
import Derived.Deep.Slices
/- What the document's own model (puncheonref16) tells: First. -/
namespace Go.Proofs.Ythghlfghdmifoaa
open Go.RowKit

set_option maxRecDepth 100000 in
theorem makeLists : ∃ Z : Array Value, Z.toList = List.replicate 256 (.slice none 0 0) ∧ ∀ W : World, (Instr.makeSlice 24 (.int .i64 256) (.int .i64 256)).run Try.prog W = .ok (.slice (some ⟨W.heap.size, 0, none⟩) 256 256) (W.alloc (.cells Z 35)) := ⟨(List.replicate 256 (.slice none 0 0)).toArray, rfl, fun W => by kernel_rfl⟩

/-- a block that is a row of slices -/
def RowV (w : World) (g : Nat) (vs : List Value) : Prop := w.heap[g]? = some (.cells vs.toArray 35 (0, 0))
theorem RowV.kept {S : Nat → Prop} {w w' : World} {g : Nat} {vs : List Value} (h : RowV w g vs) (hc : Chg S w w') (hS : ¬ S g) : RowV w' g vs := (hc.block g (lt_of_block h) hS).trans h
theorem RowV.lt {w : World} {g : Nat} {vs : List Value} (h : RowV w g vs) : g < w.heap.size := lt_of_block h
theorem RowV.cell {w : World} {g : Nat} {vs : List Value} (h : RowV w g vs) (j : Nat) (hj : j < vs.length) : w.cell? ⟨g, j, none⟩ = some (vs.getD j undef) := by
  rw [cell_of_row w g j _ _ _ h, List.getElem?_toArray, List.getElem?_eq_getElem hj, List.getD_eq_getElem?_getD, List.getElem?_eq_getElem hj]; rfl
theorem RowV.free {w : World} {g : Nat} {vs : List Value} (h : RowV w g vs) (j : Nat) : w.frozen? ⟨g, j, none⟩ = false := frozen_of_row w g j _ _ h
theorem RowV.set {w : World} {g : Nat} {vs : List Value} (h : RowV w g vs) (j : Nat) (u : Value) : RowV (w.setCell ⟨g, j, none⟩ u) g (vs.set j u) := by
  unfold RowV
  rw [heap_setCell_same w g j _ _ u h, List.setIfInBounds_toArray]

theorem Mb.more {w : World} {g : Nat} {log : Int} {one : Bool} {cv : Value} (h : Mb w g log one cv) : (w.cell? ⟨g, 0, none⟩ = some (.int .i64 log) ∧ w.cell? ⟨g, 1, none⟩ = some (.bool one) ∧ w.cell? ⟨g, 2, none⟩ = some cv) ∧ (w.frozen? ⟨g, 0, none⟩ = false ∧ w.frozen? ⟨g, 1, none⟩ = false ∧ w.frozen? ⟨g, 2, none⟩ = false) ∧
    (∀ o, (w.alloc o).cell? ⟨g, 0, none⟩ = some (.int .i64 log)) ∧ (∀ o, (w.alloc o).cell? ⟨g, 1, none⟩ = some (.bool one)) ∧ (∀ o, (w.alloc o).cell? ⟨g, 2, none⟩ = some cv) ∧ (∀ o, (w.alloc o).frozen? ⟨g, 0, none⟩ = false) ∧ (∀ o, (w.alloc o).frozen? ⟨g, 1, none⟩ = false) ∧ ∀ o, (w.alloc o).frozen? ⟨g, 2, none⟩ = false :=
  have hk : ∀ o, Mb (w.alloc o) g log one cv := fun o => h.kept (Chg.alloc (fun _ => False) w o) (by simp)
  ⟨h.cells, ⟨frozen_of_row w g 0 _ _ h, frozen_of_row w g 1 _ _ h, frozen_of_row w g 2 _ _ h⟩, fun o => (hk o).cells.1, fun o => (hk o).cells.2.1, fun o => (hk o).cells.2.2, fun o => frozen_of_row _ g 0 _ _ (hk o), fun o => frozen_of_row _ g 1 _ _ (hk o), fun o => frozen_of_row _ g 2 _ _ (hk o)⟩

def nils : List Value := List.replicate 256 (.slice none 0 0)
theorem nils_length : nils.length = 256 := List.length_replicate
/-- behind the making of the empty lists -/
def First1 (w : World) (R : Int) (s3 : Value) (wx : World) : Prop := ∃ G G3, s3 = .pointer (some ⟨G3, 0, none⟩) ∧ Mb wx G3 R false (.slice (some ⟨G, 0, none⟩) 256 256) ∧ RowV wx G nils ∧ Mb wx w.heap.size 0 false (.slice none 0 0) ∧ w.heap.size < G ∧ w.heap.size < G3 ∧ Chg (fun _ => False) w wx

section
variable {w W : World} {Z : Array Value} {R : Int}
theorem rowZ (hZ : Z.toList = nils) (W : World) : RowV (W.alloc (.cells Z 35)) W.heap.size nils := by
  have := heap_alloc_new W (.cells Z 35)
  unfold RowV
  rw [← hZ]
  exact this
theorem firstA (hZ : Z.toList = nils) (hm : Mb W w.heap.size 0 false (.slice none 0 0)) (hc : Chg (fun _ => False) w W) :
    First1 w R (.pointer (some ⟨W.heap.size + 1, 0, none⟩)) ((W.alloc (.cells Z 35)).alloc (.cells #[.int .i64 R, .bool false, .slice (some ⟨W.heap.size, 0, none⟩) 256 256] 26)) := by
  have c1 := Chg.alloc (fun _ => False) W (.cells Z 35)
  have c2 := Chg.alloc (fun _ => False) (W.alloc (.cells Z 35)) (.cells #[.int .i64 R, .bool false, .slice (some ⟨W.heap.size, 0, none⟩) 256 256] 26)
  have hlt := hm.lt
  exact ⟨W.heap.size, W.heap.size + 1, rfl, heap_alloc2_new W _ _, (rowZ hZ W).kept c2 (by simp), (hm.kept c1 (by simp)).kept c2 (by simp), hlt, by omega, (hc.trans c1 fun _ _ h => h).trans c2 fun _ _ h => h⟩
theorem firstB (hZ : Z.toList = nils) (hm : Mb W w.heap.size 0 false (.slice none 0 0)) (hc : Chg (fun _ => False) w W) :
    First1 w R (.pointer (some ⟨W.heap.size, 0, none⟩)) ((W.alloc (.cells #[.int .i64 R, .bool false, .slice (some ⟨W.heap.size + 1, 0, none⟩) 256 256] 26)).alloc (.cells Z 35)) := by
  have c1 := Chg.alloc (fun _ => False) W (.cells #[.int .i64 R, .bool false, .slice (some ⟨W.heap.size + 1, 0, none⟩) 256 256] 26)
  have c2 := Chg.alloc (fun _ => False) (W.alloc (.cells #[.int .i64 R, .bool false, .slice (some ⟨W.heap.size + 1, 0, none⟩) 256 256] 26)) (.cells Z 35)
  have hlt := hm.lt
  have hr := rowZ hZ (W.alloc (.cells #[.int .i64 R, .bool false, .slice (some ⟨W.heap.size + 1, 0, none⟩) 256 256] 26))
  rw [show (W.alloc (.cells #[.int .i64 R, .bool false, .slice (some ⟨W.heap.size + 1, 0, none⟩) 256 256] 26)).heap.size = W.heap.size + 1 by simp] at hr
  exact ⟨W.heap.size + 1, W.heap.size, rfl, heap_alloc2_old W _ _, hr, (hm.kept c1 (by simp)).kept c2 (by simp), by omega, hlt, (hc.trans c1 fun _ _ h => h).trans c2 fun _ _ h => h⟩
theorem firstC {G : Nat} (hr : RowV W G nils) (hG : w.heap.size < G) (hm : Mb W w.heap.size 0 false (.slice none 0 0)) (hc : Chg (fun _ => False) w W) :
    First1 w R (.pointer (some ⟨W.heap.size, 0, none⟩)) (W.alloc (.cells #[.int .i64 R, .bool false, .slice (some ⟨G, 0, none⟩) 256 256] 26)) := by
  have c1 := Chg.alloc (fun _ => False) W (.cells #[.int .i64 R, .bool false, .slice (some ⟨G, 0, none⟩) 256 256] 26)
  exact ⟨G, W.heap.size, rfl, heap_alloc_new W _, hr.kept c1 (by simp), hm.kept c1 (by simp), hG, hm.lt, hc.trans c1 fun _ _ h => h⟩
theorem firstE {G G3 : Nat} (hr : RowV W G nils) (hG : w.heap.size < G) (h3 : Mb W G3 0 false (.slice none 0 0)) (hG3 : w.heap.size < G3) (hne : G ≠ G3) (hm : Mb W w.heap.size 0 false (.slice none 0 0)) (hc : Chg (fun _ => False) w W) :
    First1 w R (.pointer (some ⟨G3, 0, none⟩)) (((W.setCell ⟨G3, 0, none⟩ (.int .i64 R)).setCell ⟨G3, 1, none⟩ (.bool false)).setCell ⟨G3, 2, none⟩ (.slice (some ⟨G, 0, none⟩) 256 256)) := by
  have c1 := W3_chg W G3 R false (.slice (some ⟨G, 0, none⟩) 256 256)
  exact ⟨G, G3, rfl, (W3_cells h3 R false (.slice (some ⟨G, 0, none⟩) 256 256)).2.2.2, hr.kept c1 hne, hm.kept c1 (by omega), hG, hG3, hc.trans c1 fun k hk he => by omega⟩
theorem firstD {G3 : Nat} (hZ : Z.toList = nils) (h3 : Mb W G3 0 false (.slice none 0 0)) (hG3 : w.heap.size < G3) (hm : Mb W w.heap.size 0 false (.slice none 0 0)) (hc : Chg (fun _ => False) w W) :
    First1 w R (.pointer (some ⟨G3, 0, none⟩)) ((((W.alloc (.cells Z 35)).setCell ⟨G3, 0, none⟩ (.int .i64 R)).setCell ⟨G3, 1, none⟩ (.bool false)).setCell ⟨G3, 2, none⟩ (.slice (some ⟨W.heap.size, 0, none⟩) 256 256)) := by
  have c1 := Chg.alloc (fun _ => False) W (.cells Z 35)
  have hlt := hm.lt
  have hl3 := h3.lt
  exact firstE (rowZ hZ W) hlt (h3.kept c1 (by simp)) hG3 (by omega) (hm.kept c1 (by simp)) (hc.trans c1 fun _ _ h => h)
end

/-- the lists of the first k contexts -/
def partL (xs : List Nat) (R : Int) (k c : Nat) : List Int := if (c : Int) ∈ (pres xs).take k then normR (cnt (sel xs (c : Int))) R else []
theorem partL_all (xs : List Nat) (R : Int) (c : Nat) (hc : c < 256) : partL xs R (pres xs).length c = ctxL xs R c := by
  unfold partL ctxL
  rw [List.take_length]
  by_cases h : 0 < (sel xs (c : Int)).length
  · rw [if_pos h, if_pos (pres_mem.2 ⟨by omega, by omega, h⟩)]
  · rw [if_neg h, if_neg (fun hh => h (pres_mem.1 hh).2.2)]
theorem partL_next (xs : List Nat) (R : Int) (k c : Nat) (hk : k < (pres xs).length) (hc : (pres xs).getD k 0 = (c : Int)) (d : Nat) : partL xs R (k + 1) d = if d = c then normR (cnt (sel xs (c : Int))) R else partL xs R k d := by
  unfold partL
  have ht : (pres xs).take (k + 1) = (pres xs).take k ++ [(c : Int)] := by rw [take_snoc _ k hk, hc]
  rw [ht]
  by_cases h : d = c
  · subst h
    rw [if_pos (by simp), if_pos rfl]
  · rw [if_neg h]
    have : (d : Int) ∈ (pres xs).take k ++ [(c : Int)] ↔ (d : Int) ∈ (pres xs).take k := by
      rw [List.mem_append, List.mem_singleton]
      constructor
      · rintro (h1 | h1)
        · exact h1
        · omega
      · exact .inl
    simp only [this]
/-- in the midst of First: the lists of the first k contexts are there -/
structure FirstS (xs : List Nat) (w : World) (G G3 : Nat) (R : Int) (al : Option Addr) (np cl k : Nat) (wr : World) : Prop where
  mb : Mb wr G3 R false (.slice (some ⟨G, 0, none⟩) 256 256)
  mn : Mb wr w.heap.size 0 false (.slice none 0 0)
  l : wr.ownsRow 0 3 1 (.slice al np cl) np (iw (pres xs))
  lfar : ∀ q, (Value.slice al np cl).ownBlock = some q → q ≠ G ∧ q ≠ G3 ∧ q ≠ w.heap.size
  chg : Chg (fun _ => False) w wr
  hG : w.heap.size < G
  hG3 : w.heap.size < G3
  hne : G ≠ G3
  row : ∃ vs, RowV wr G vs ∧ vs.length = 256 ∧ ∀ c, c < 256 → RdIr wr (vs.getD c undef) (partL xs R k c) ∧ ∀ q, (vs.getD c undef).ownBlock = some q → q ≠ G ∧ q ≠ G3 ∧ q ≠ w.heap.size

section
variable {xs : List Nat} {w wr : World} {G G3 : Nat} {R : Int} {al : Option Addr} {np cl k : Nat}
theorem FirstS.kept {wr' : World} (h : FirstS xs w G G3 R al np cl k wr) (hc : Chg (fun _ => False) wr wr') : FirstS xs w G G3 R al np cl k wr' := by
  obtain ⟨h1, h2, h3, h4, h5, h6, h7, h8, vs, h9, h10, h11⟩ := h
  exact ⟨h1.kept hc (by simp), h2.kept hc (by simp), hc.own h3 (by simp), h4, h5.trans hc fun _ _ h => h, h6, h7, h8, vs, h9.kept hc (by simp), h10, fun c hcc => ⟨(h11 c hcc).1.kept hc (by simp), (h11 c hcc).2⟩⟩
theorem FirstS.lcell' {g : Nat} {c : Int} (h : FirstS xs w G G3 R (some ⟨g, 0, none⟩) np cl k wr) (j : Nat) (hj : j < np) (hc : (pres xs).getD j 0 = c) : wr.cell? ⟨g, j, none⟩ = some (.int .i64 c) := by
  have hl := h.l.1
  rw [iw_length, Nat.mul_one] at hl
  rw [h.l.cellAt j (by omega), iw_get (pres xs) j (by omega), hc]
theorem FirstS.lcell (h : FirstS xs w G G3 R al np cl k wr) (j : Nat) (hj : j < np) : ∃ g, al = some ⟨g, 0, none⟩ := by
  rcases h.l.2 with ⟨h1, h2⟩ | ⟨g, cap', cur, he, _⟩
  · omega
  · simp only [Value.slice.injEq] at he
    exact ⟨g, he.1⟩
theorem FirstS.lts (h : FirstS xs w G G3 R al np cl k wr) : G < wr.heap.size ∧ G3 < wr.heap.size ∧ w.heap.size < wr.heap.size := by
  obtain ⟨vs, h9, _⟩ := h.row
  exact ⟨h9.lt, h.mb.lt, h.mn.lt⟩
theorem FirstS.store {B c : Nat} {q : Value} (h : FirstS xs w G G3 R al np cl k wr) (hk : k < (pres xs).length) (hc : (pres xs).getD k 0 = (c : Int)) (hc256 : c < 256) (hq : OwnI wr B q (normR (cnt (sel xs (c : Int))) R)) (hqr : RoomOk q) (hB : G < B ∧ G3 < B ∧ w.heap.size < B) :
    FirstS xs w G G3 R al np cl (k + 1) (wr.setCell ⟨G, c, none⟩ q) := by
  have hcs := Chg.setCell wr ⟨G, c, none⟩ q
  have hqf : ∀ b, q.ownBlock = some b → b ≠ G ∧ b ≠ G3 ∧ b ≠ w.heap.size := fun b hb => by
    obtain ⟨g, off, cc, rfl, hg, _⟩ := hq
    simp only [Value.ownBlock, Option.some.injEq] at hb
    omega
  obtain ⟨h1, h2, h3, h4, h5, h6, h7, h8, vs, h9, h10, h11⟩ := h
  refine ⟨h1.kept hcs (fun he => h8 he.symm), h2.kept hcs (by simp; omega), hcs.own h3 (fun b hb he => (h4 b hb).1 he), h4, h5.trans hcs fun b hb he => by simp at he; omega, h6, h7, h8, vs.set c q, h9.set c q, by rw [List.length_set]; exact h10, fun d hd => ?_⟩
  rw [partL_next xs R k c hk hc d]
  by_cases hdc : d = c
  · subst hdc
    rw [if_pos rfl, List.getD_eq_getElem?_getD, List.getElem?_set_self (by omega)]
    exact ⟨⟨hq.rd.kept hcs (fun b hb he => (hqf b hb).1 he), hqr⟩, hqf⟩
  · rw [if_neg hdc, List.getD_eq_getElem?_getD, List.getElem?_set_ne (Ne.symm hdc), ← List.getD_eq_getElem?_getD]
    exact ⟨(h11 d hd).1.kept hcs (fun b hb he => ((h11 d hd).2 b hb).1 he), (h11 d hd).2⟩
theorem cnt_bounds (ys : List Nat) (h : isRight (cnt ys)) : ∀ z ∈ cnt ys, -9223372036854775808 ≤ z ∧ z ≤ 9223372036854775807 := fun z hz => by
  have h1 := cnt_nonneg ys z hz
  have h2 := mem_le_total (cnt ys) h z hz
  omega
end

set_option maxHeartbeats 4000000 in
set_option maxRecDepth 100000 in
theorem r16first_any (v : Value) (xs : List Nat) (w : World) (h : RdB w v xs) (hx : ∀ x ∈ xs, x < 256) (hl : xs.length ≤ 1000000) (h0 : 0 < xs.length) :
    Calls Try.prog 13 #[v] w fun e w' => ∃ u, e = .returned u ∧ RdM w' u (firstM xs) ∧ Chg (fun _ => False) w w' := by
  obtain ⟨ao, cap, rfl⟩ := h.form
  have hca := Chg.alloc (fun _ => False) w (.cells #[.int .i64 0, .bool false, .slice none 0 0] 26)
  have hnew : Mb _ _ 0 false (.slice none 0 0) := heap_alloc_new w (.cells #[.int .i64 0, .bool false, .slice none 0 0] 26)
  have hz := zeroModel
  obtain ⟨Z, hZ, hmake⟩ := makeLists
  have HZ := Lib.hid hZ
  clear hZ
  obtain ⟨hz1, hz2⟩ := firstLog_bounds xs hx (by omega) h0
  have HWI := Lib.hid (show ∀ W, Chg (fun _ => False) w W → Calls Try.prog 36 #[.slice ao xs.length cap] W fun e w' => e = .returned (.int .i64 ((widest xs : Nat) : Int)) ∧ Chg (fun _ => False) W w' from fun W hW => r6widest_any _ xs W (h.kept hW (by simp)) hx (by omega))
  have HPR := Lib.hid (show ∀ W, Chg (fun _ => False) w W → Calls Try.prog 37 #[.slice ao xs.length cap] W fun e w' => ∃ v', e = .returned v' ∧ w'.ownsRow W.heap.size 3 1 v' (pres xs).length (iw (pres xs)) ∧ Chg (fun _ => False) W w' from fun W hW => r6present_own _ xs W (h.kept hW (by simp)) hx (by omega))
  have HFO := Lib.hid (show ∀ W (c : Int), Chg (fun _ => False) w W → Calls Try.prog 38 #[.slice ao xs.length cap, .int .i64 c] W fun e w' => ∃ v', e = .returned v' ∧ OwnI w' W.heap.size v' (cnt (sel xs c)) ∧ Chg (fun _ => False) W w' from fun W c hW => r6for_any _ xs c W (h.kept hW (by simp)) hx (by omega))
  obtain ⟨n, hn⟩ : ∃ n, xs.length = n := ⟨_, rfl⟩
  have hwl := wid_le xs 256
  have hzl : firstLog xs = pickI (n : Int) ((widest xs : Nat) : Int) 9 := by rw [← hn]; rfl
  rw [hn] at hl HWI HPR HFO ⊢
  obtain ⟨M, hM⟩ : ∃ M, widest xs = M := ⟨_, rfl⟩
  have hMe : wid xs 256 = M := hM
  rw [hM] at hzl HWI
  rw [hMe] at hwl
  obtain ⟨R, hR⟩ : ∃ R, firstLog xs = R := ⟨_, rfl⟩
  rw [hR] at hzl hz1 hz2
  have HPK := Lib.hid (show ∀ W, Calls Try.prog 33 #[.int .i64 (n : Int), .int .i64 (M : Int), .int .i64 9] W fun e w' => e = .returned (.int .i64 R) ∧ w' = W from fun W => by
    have := r7pick_any (n : Int) (M : Int) 9 W (by omega) (by omega) (by omega) (by omega) (by omega) (by omega)
    rw [← hzl] at this
    exact this)
  have HR := Lib.hid hR; have HCA := Lib.hid hca; have HNEW := Lib.hid hnew; have HX := Lib.hid hx; have HN := Lib.hid hn
  have hnI : (n : Int) ≤ 1000000 := by omega
  have hMI : (M : Int) ≤ 256 := by omega
  have HCD := Lib.hid hca.drew
  clear h hca hnew hM hMe hR hzl hn hx hl h0 hwl
  go_enter Try.func13, Try.ntmps13
  have HCG := Lib.hid (show ∀ o, Chg (fun _ => False) w ((w.alloc (.cells #[.int .i64 0, .bool false, .slice none 0 0] 26)).alloc o).drew from fun o => (HCA.out.trans (Chg.alloc (fun _ => False) _ o) fun _ _ h => h).drew)
  have HCH := Lib.hid (show ∀ o o', Chg (fun _ => False) w (((w.alloc (.cells #[.int .i64 0, .bool false, .slice none 0 0] 26)).alloc o).alloc o').drew from fun o o' => ((HCA.out.trans (Chg.alloc (fun _ => False) _ o) fun _ _ h => h).trans (Chg.alloc (fun _ => False) _ o') fun _ _ h => h).drew)
  have HZN := Lib.hid (show Z.toList = nils from HZ.out)
  have HN0 := Lib.hid (show Mb (w.alloc (.cells #[.int .i64 0, .bool false, .slice none 0 0] 26)).drew w.heap.size 0 false (.slice none 0 0) from HNEW.out)
  have HNG := Lib.hid (show ∀ o, Mb ((w.alloc (.cells #[.int .i64 0, .bool false, .slice none 0 0] 26)).alloc o).drew w.heap.size 0 false (.slice none 0 0) from fun o => HNEW.out.kept ((Chg.alloc (fun _ => False) _ o).drew) (by simp))
  have HNH := Lib.hid (show ∀ o o', Mb (((w.alloc (.cells #[.int .i64 0, .bool false, .slice none 0 0] 26)).alloc o).alloc o').drew w.heap.size 0 false (.slice none 0 0) from fun o o' => (HNEW.out.kept (Chg.alloc (fun _ => False) _ o) (by simp)).kept ((Chg.alloc (fun _ => False) _ o').drew) (by simp))
  have HRZ1 := Lib.hid (show RowV ((w.alloc (.cells #[.int .i64 0, .bool false, .slice none 0 0] 26)).alloc (.cells Z 35)).drew (w.heap.size + 1) nils from by have h := rowZ HZN.out (w.alloc (.cells #[.int .i64 0, .bool false, .slice none 0 0] 26)); rw [show (w.alloc (.cells #[.int .i64 0, .bool false, .slice none 0 0] 26)).heap.size = w.heap.size + 1 by simp] at h; exact h)
  have HRZ1b := Lib.hid (show RowV (((w.alloc (.cells #[.int .i64 0, .bool false, .slice none 0 0] 26)).alloc (.cells Z 35)).alloc (.cells #[.int .i64 0, .bool false, .slice none 0 0] 26)).drew (w.heap.size + 1) nils from RowV.kept (w := (w.alloc (.cells #[.int .i64 0, .bool false, .slice none 0 0] 26)).alloc (.cells Z 35)) HRZ1.out ((Chg.alloc (fun _ => False) ((w.alloc (.cells #[.int .i64 0, .bool false, .slice none 0 0] 26)).alloc (.cells Z 35)) (.cells #[.int .i64 0, .bool false, .slice none 0 0] 26)).drew) (by simp))
  have HRZ2 := Lib.hid (show RowV (((w.alloc (.cells #[.int .i64 0, .bool false, .slice none 0 0] 26)).alloc (.cells #[.int .i64 0, .bool false, .slice none 0 0] 26)).alloc (.cells Z 35)).drew (w.heap.size + 2) nils from by have h := rowZ HZN.out ((w.alloc (.cells #[.int .i64 0, .bool false, .slice none 0 0] 26)).alloc (.cells #[.int .i64 0, .bool false, .slice none 0 0] 26)); rw [show ((w.alloc (.cells #[.int .i64 0, .bool false, .slice none 0 0] 26)).alloc (.cells #[.int .i64 0, .bool false, .slice none 0 0] 26)).heap.size = w.heap.size + 2 by simp] at h; exact h)
  go_upto_region 1 with fail
  go_cut [3] from 8 to 14 (fun s3 wx => First1 w R s3 wx)
  case first =>
    have HM1 := Lib.hid (show Mb ((w.alloc (.cells #[.int .i64 0, .bool false, .slice none 0 0] 26)).alloc (.cells #[.int .i64 0, .bool false, .slice none 0 0] 26)).drew (w.heap.size + 1) 0 false (.slice none 0 0) from heap_alloc2_new w (.cells #[.int .i64 0, .bool false, .slice none 0 0] 26) (.cells #[.int .i64 0, .bool false, .slice none 0 0] 26))
    have HM1b := Lib.hid (show Mb (((w.alloc (.cells #[.int .i64 0, .bool false, .slice none 0 0] 26)).alloc (.cells #[.int .i64 0, .bool false, .slice none 0 0] 26)).alloc (.cells Z 35)).drew (w.heap.size + 1) 0 false (.slice none 0 0) from (Below.heap_alloc _ _ _ (by simp)).trans (heap_alloc2_new w (.cells #[.int .i64 0, .bool false, .slice none 0 0] 26) (.cells #[.int .i64 0, .bool false, .slice none 0 0] 26)))
    have HM2 := Lib.hid (show Mb (((w.alloc (.cells #[.int .i64 0, .bool false, .slice none 0 0] 26)).alloc (.cells Z 35)).alloc (.cells #[.int .i64 0, .bool false, .slice none 0 0] 26)).drew (w.heap.size + 2) 0 false (.slice none 0 0) from by have h := heap_alloc_new ((w.alloc (.cells #[.int .i64 0, .bool false, .slice none 0 0] 26)).alloc (.cells Z 35)) (.cells #[.int .i64 0, .bool false, .slice none 0 0] 26); rw [show ((w.alloc (.cells #[.int .i64 0, .bool false, .slice none 0 0] 26)).alloc (.cells Z 35)).heap.size = w.heap.size + 2 by simp] at h; exact h)
    go_region_held3 (fun _ => True) (trivial) (first
      | (go_at_call 36; refine (HWI.out _ HCD.out).mono ?_; rintro e w3 ⟨rfl, hc3⟩; have HMN := Lib.hid (HN0.out.kept hc3 (by simp));  have HC3 := Lib.hid ((HCD.out).trans hc3 fun _ _ h => h); have HC30 := Lib.hid hc3; clear hc3)
      | (go_at_call 36; refine (HWI.out _ (HCG.out (.cells Z 35))).mono ?_; rintro e w3 ⟨rfl, hc3⟩; have HMN := Lib.hid ((HNG.out _).kept hc3 (by simp)); have HRW := Lib.hid (HRZ1.out.kept hc3 (by simp));  have HC3 := Lib.hid (((HCG.out (.cells Z 35))).trans hc3 fun _ _ h => h); have HC30 := Lib.hid hc3; clear hc3)
      | (go_at_call 36; refine (HWI.out _ (HCG.out (.cells #[.int .i64 0, .bool false, .slice none 0 0] 26))).mono ?_; rintro e w3 ⟨rfl, hc3⟩; have HMN := Lib.hid ((HNG.out _).kept hc3 (by simp)); have HMW := Lib.hid (HM1.out.kept hc3 (by simp)); obtain ⟨⟨x0, x1, x2⟩, ⟨y0, y1, y2⟩, s0, s1, s2, t0, t1, t2⟩ := HMW.out.more; have HC3 := Lib.hid (((HCG.out (.cells #[.int .i64 0, .bool false, .slice none 0 0] 26))).trans hc3 fun _ _ h => h); have HC30 := Lib.hid hc3; clear hc3)
      | (go_at_call 36; refine (HWI.out _ (HCH.out (.cells #[.int .i64 0, .bool false, .slice none 0 0] 26) (.cells Z 35))).mono ?_; rintro e w3 ⟨rfl, hc3⟩; have HMN := Lib.hid ((HNH.out _ _).kept hc3 (by simp)); have HRW := Lib.hid (HRZ2.out.kept hc3 (by simp)); have HMW := Lib.hid (HM1b.out.kept hc3 (by simp)); obtain ⟨⟨x0, x1, x2⟩, ⟨y0, y1, y2⟩, s0, s1, s2, t0, t1, t2⟩ := HMW.out.more; have HC3 := Lib.hid (((HCH.out (.cells #[.int .i64 0, .bool false, .slice none 0 0] 26) (.cells Z 35))).trans hc3 fun _ _ h => h); have HC30 := Lib.hid hc3; clear hc3)
      | (go_at_call 36; refine (HWI.out _ (HCH.out (.cells Z 35) (.cells #[.int .i64 0, .bool false, .slice none 0 0] 26))).mono ?_; rintro e w3 ⟨rfl, hc3⟩; have HMN := Lib.hid ((HNH.out _ _).kept hc3 (by simp)); have HRW := Lib.hid (HRZ1b.out.kept hc3 (by simp)); have HMW := Lib.hid (HM2.out.kept hc3 (by simp)); obtain ⟨⟨x0, x1, x2⟩, ⟨y0, y1, y2⟩, s0, s1, s2, t0, t1, t2⟩ := HMW.out.more; have HC3 := Lib.hid (((HCH.out (.cells Z 35) (.cells #[.int .i64 0, .bool false, .slice none 0 0] 26))).trans hc3 fun _ _ h => h); have HC30 := Lib.hid hc3; clear hc3)
      | (go_at_call 33; refine (HPK.out _).mono ?_; rintro e w4 ⟨rfl, rfl⟩))
    all_goals (go_wp2_with fail; go_meet; first
      | exact firstA HZN.out HMN.out HC3.out
      | exact firstB HZN.out HMN.out HC3.out
      | exact firstC HRW.out (by omega) HMN.out HC3.out
      | exact firstE HRW.out (by omega) HMW.out (by omega) (by omega) HMN.out HC3.out
      | exact firstD HZN.out HMW.out (by omega) HMN.out HC3.out)
  case rest =>
  obtain ⟨G, G3, rfl, hm3, hrow, hmN, hG, hG3, hc⟩ := hcut
  have hGlt := hrow.lt
  have hG3lt := hm3.lt
  have hne3 : G ≠ G3 := fun he => by
    rw [he] at hrow
    have := hrow.symm.trans hm3
    simp at this
  have HS0 := Lib.hid (show Mb wc G3 R false (.slice (some ⟨G, 0, none⟩) 256 256) ∧ RowV wc G nils ∧ Mb wc w.heap.size 0 false (.slice none 0 0) ∧ Chg (fun _ => False) w wc ∧ w.heap.size < G ∧ w.heap.size < G3 ∧ G < wc.heap.size ∧ G3 < wc.heap.size ∧ G ≠ G3 from ⟨hm3, hrow, hmN, hc, hG, hG3, hGlt, hG3lt, hne3⟩)
  clear hm3 hrow hmN hc hG hG3 hGlt hG3lt hne3 HCA HNEW HCD HCG HCH HZN HN0 HNG HNH HRZ1 HRZ1b HRZ2 HZ hmake HWI
  go_wp2_with fail
  refine (HPR.out wc HS0.out.2.2.2.1).mono ?_
  rintro e w5 ⟨l, rfl, hl5, hc5⟩
  obtain ⟨np, hnp⟩ : ∃ np, (pres xs).length = np := ⟨_, rfl⟩
  have hnp256 : np ≤ 256 := by rw [← hnp]; exact presTo_length xs 256
  rw [hnp] at hl5
  obtain ⟨al, cl, rfl⟩ : ∃ al cl, l = .slice al np cl := by
    rcases hl5.2 with ⟨rfl, rfl⟩ | ⟨g, cap, cur, rfl, _⟩
    · exact ⟨_, _, rfl⟩
    · exact ⟨_, _, rfl⟩
  have HNP := Lib.hid hnp
  have hnpI : (np : Int) ≤ 256 := by omega
  have HS := Lib.hid (show FirstS xs w G G3 R al np cl 0 w5 from by
    obtain ⟨a1, a2, a3, a4, a5, a6, a7, a8, a9⟩ := HS0.out
    refine ⟨a1.kept hc5 (by simp), a3.kept hc5 (by simp), ownsRow_mono hl5 (Nat.zero_le _), fun k hk => ⟨by have := (hl5.lt k hk).1; omega, by have := (hl5.lt k hk).1; omega, by have := (hl5.lt k hk).1; omega⟩, a4.trans hc5 fun _ _ h => h, a5, a6, a9, nils, a2.kept hc5 (by simp), nils_length, fun c hc => ?_⟩
    have hn : nils.getD c undef = .slice none 0 0 := by
      unfold nils
      rw [List.getD_eq_getElem?_getD, List.getElem?_replicate, if_pos hc]; rfl
    rw [hn]
    refine ⟨?_, by simp [Value.ownBlock]⟩
    have : partL xs R 0 c = [] := by unfold partL; rw [List.take_zero, if_neg (by simp)]
    rw [this]
    exact .nil _)
  clear hl5 hc5 hnp hnp256 HS0 HPR
  go_wp2
  go_loopw [5] (fun o5 wr => ∃ k : Nat, k ≤ np ∧ o5 = .int .i64 (k : Int) ∧ FirstS xs w G G3 R al np cl k wr) (fun o5 _ => np - (intOf o5).toNat)
  case atStart => exact ⟨0, Nat.zero_le _, rfl, HS.out⟩
  case round =>
    clear HS
    obtain ⟨k, hk, rfl, hs⟩ := hrel
    by_cases hlt : k < np
    · have hcr := pres_range xs k (by rw [HNP.out]; exact hlt)
      have hcm : (pres xs).getD k 0 ∈ pres xs := getD_mem (by rw [HNP.out]; exact hlt)
      obtain ⟨c, hce⟩ : ∃ c : Nat, (pres xs).getD k 0 = (c : Int) := ⟨((pres xs).getD k 0).toNat, by omega⟩
      rw [hce] at hcr hcm
      have hc256 : c < 256 := by omega
      have hsel := (pres_mem.1 hcm).2.2
      have hok := first_ok xs HX.out (by rw [HN.out]; omega) c hc256 hsel
      rw [HR.out] at hok
      obtain ⟨g, rfl⟩ := hs.lcell k hlt
      have hlc := hs.lcell' k hlt hce
      obtain ⟨b0, b1, b2⟩ := hs.mb.cells
      have hsz := hs.chg
      have hfo := HFO.out wr.drew (c : Int) hs.chg.drew
      have HCT := Lib.hid (show ∀ W fv, RdI W fv (cnt (sel xs (c : Int))) → Calls Try.prog 35 #[fv, .int .i64 R] W fun e w' => NormSays W (cnt (sel xs (c : Int))) R e w' ∧ RoomE e from fun W fv hW => r8counts_room fv (cnt (sel xs (c : Int))) R W hW (cnt_bounds _ hok.1) (by rw [cnt_length]; omega) (by omega))
      have HFO2 := Lib.hid hfo; have HOK := Lib.hid hok; have HS := Lib.hid hs; have HCE := Lib.hid hce; have HC256 := Lib.hid hc256
      have hkn : (k : Int) < (np : Int) := by omega
      have hcI : (c : Int) < 256 := by omega
      clear hcr hcm hce hsel hok hs hsz hfo hc256
      go_wp2
      go_region_held3 (fun W => W.cell? ⟨g, k, none⟩ = some (.int .i64 (c : Int)) ∧ W.cell? ⟨G3, 0, none⟩ = some (.int .i64 R)) (first | exact ⟨hlc, b0⟩ | exact ⟨m0, m1⟩ | exact ⟨n0, n1⟩) (first
        | (go_at_call 38; refine (HFO2.out).mono ?_; rintro e w6 ⟨fv, rfl, hf6, hc6⟩; have hs6 := HS.out.kept ((Chg.refl (fun _ => False) wr).drew.trans hc6 fun _ _ h => h); have m0 := hs6.lcell' k hlt HCE.out; have m1 := hs6.mb.cells.1; have HS6 := Lib.hid hs6; have HF6 := Lib.hid hf6; clear hs6 hf6 hc6)
        | (go_at_call 35; refine (HCT.out _ _ HF6.out.rd).mono ?_; rintro e w7 ⟨⟨q, rfl, hq7, -, hc7⟩, hrm7⟩; have HRM7 := Lib.hid (hrm7 _ _ rfl); rw [if_pos HOK.out]; have hs7 := HS6.out.kept hc7; have n0 := hs7.lcell' k hlt HCE.out; have n1 := hs7.mb.cells.1; have HQ7 := Lib.hid (hq7 HOK.out); have HG7 := Lib.hid (show G < w6.heap.size ∧ G3 < w6.heap.size ∧ w.heap.size < w6.heap.size from HS6.out.lts); have HS7 := Lib.hid hs7; clear hs7 hq7 hc7))
      have hg7 := HG7.out
      have hs8 := HS7.out.store (by rw [HNP.out]; exact hlt) HCE.out HC256.out HQ7.out HRM7.out hg7
      obtain ⟨aq, lq, hqf⟩ : ∃ aq lq, q = .slice aq 256 lq := by obtain ⟨g', off', cc, he, _⟩ := HQ7.out; exact ⟨_, _, by rw [he, (normR_right HOK.out).1.1]⟩
      subst hqf
      have HS8 := Lib.hid hs8
      obtain ⟨vs, hv1, hv2, -⟩ := HS7.out.row
      have v0 := hv1.cell c (by rw [hv2]; exact HC256.out)
      have v1 := hv1.free c
      obtain ⟨p0, p1, p2⟩ := HS7.out.mb.cells
      obtain ⟨vo, hvo⟩ : ∃ vo, vs.getD c undef = vo := ⟨_, rfl⟩
      rw [hvo] at v0
      clear hs8 hv1 hv2 hvo hg7 hlc b0 b1 b2 m0 m1 n1 HS6 HF6 HS7 HQ7 HG7 HS HCT HFO2 HOK
      go_wp2
      go_region
      go_wp2
      go_roundw
      case rel => exact ⟨k + 1, by omega, by go_num, HS8.out.kept ((Chg.refl _ _).drew)⟩
      case measure => simp [intOf]; omega
    · obtain rfl : k = np := by omega
      have hmb := hs.mn
      obtain ⟨p0, p1, p2⟩ := hs.mb.cells
      obtain ⟨y0, y1, y2, hmb7⟩ := W3_cells hmb R false (.slice (some ⟨G, 0, none⟩) 256 256)
      have hc7 := W3_chg wr w.heap.size R false (.slice (some ⟨G, 0, none⟩) 256 256)
      obtain ⟨vs, hv1, hv2, hv3⟩ := hs.row
      have hv4 := hv1.kept hc7 (by have := hs.hG; omega)
      have hrd7 : RdM (W3 wr w.heap.size R false (.slice (some ⟨G, 0, none⟩) 256 256)) (.agg #[.int .i64 R, .bool false, .slice (some ⟨G, 0, none⟩) 256 256]) (firstM xs) := by
        refine ⟨.slice (some ⟨G, 0, none⟩) 256 256, ?_, .inr ⟨G, 0, 256, by simp [firstM], fun j hj => ?_⟩⟩
        · show _ = Value.agg #[.int .i64 (firstLog xs), .bool false, _]
          rw [HR.out]
        · have hj256 : j < 256 := by simpa [firstM] using hj
          refine ⟨vs.getD j undef, by rw [Nat.zero_add]; exact hv4.cell j (by omega), ?_⟩
          rw [firstM_at xs j hj256, HR.out, ← partL_all xs R j hj256, HNP.out]
          exact (hv3 j hj256).1.kept hc7 (fun b hb he => ((hv3 j hj256).2 b hb).2.2 he)
      have hc8 : Chg (fun _ => False) w (W3 wr w.heap.size R false (.slice (some ⟨G, 0, none⟩) 256 256)) := hs.chg.trans hc7 fun k hk he => by omega
      obtain ⟨z0, z1, z2⟩ := hmb.cells
      have f0 := frozen_of_row wr w.heap.size 0 _ _ hmb
      have f1 := frozen_of_row wr w.heap.size 1 _ _ hmb
      have f2 := frozen_of_row wr w.heap.size 2 _ _ hmb
      have HRD7 := Lib.hid hrd7; have HC8 := Lib.hid hc8
      unfold W3 at y2 HRD7 HC8
      clear hs hmb hmb7 hc7 hv1 hv2 hv3 hv4 hrd7 hc8
      go_wp2
      refine bodyPost_ret (v := .agg #[.int .i64 R, .bool false, .slice (some ⟨G, 0, none⟩) 256 256]) (by simp [results, Try.results13, go_sem, y0, y1, y2]; try rfl) rfl ?_
      exact ⟨_, rfl, HRD7.out, HC8.out⟩

end Go.Proofs.Ythghlfghdmifoaa

/- A row of lists that a call makes, in memory of its own (for model's First and Zero, body1's Decode). -/
namespace Go.Proofs.Ythghlfghdmifoaa
open Go.RowKit

/-- block G holds the lists L; all of it lies from block B on -/
structure RowLs (w : World) (B G : Nat) (L : List (List Int)) : Prop where
  low : B ≤ G
  row : ∃ vs, RowV w G vs ∧ vs.length = L.length ∧ ∀ c, c < L.length → RdIr w (vs.getD c undef) (L.getD c []) ∧ ∀ q, (vs.getD c undef).ownBlock = some q → B ≤ q ∧ q ≠ G
theorem RowLs.lt {w : World} {B G : Nat} {L : List (List Int)} (h : RowLs w B G L) : G < w.heap.size := by
  obtain ⟨vs, h1, -⟩ := h.row
  exact h1.lt
theorem RowLs.kept {S : Nat → Prop} {w w' : World} {B G : Nat} {L : List (List Int)} (h : RowLs w B G L) (hc : Chg S w w') (hS : ∀ k, B ≤ k → ¬ S k) : RowLs w' B G L := by
  obtain ⟨vs, h1, h2, h3⟩ := h.row
  exact ⟨h.low, vs, h1.kept hc (hS G h.low), h2, fun c hl => ⟨(h3 c hl).1.kept hc fun k hk => hS k ((h3 c hl).2 k hk).1, (h3 c hl).2⟩⟩
theorem RowLs.cell {w : World} {B G : Nat} {L : List (List Int)} (h : RowLs w B G L) (c : Nat) (hc : c < L.length) : ∃ u, w.cell? ⟨G, c, none⟩ = some u ∧ w.frozen? ⟨G, c, none⟩ = false ∧ RdIr w u (L.getD c []) := by
  obtain ⟨vs, h1, h2, h3⟩ := h.row
  exact ⟨_, h1.cell c (by omega), h1.free c, (h3 c hc).1⟩
theorem RowLs.ll {w : World} {B G : Nat} {L : List (List Int)} (h : RowLs w B G L) (cap : Nat) : RdLL w (.slice (some ⟨G, 0, none⟩) L.length cap) L := by
  obtain ⟨vs, h1, h2, h3⟩ := h.row
  exact .inr ⟨G, 0, cap, rfl, fun j hj => ⟨_, by rw [Nat.zero_add]; exact h1.cell j (by omega), (h3 j hj).1⟩⟩
/-- a list is laid -/
theorem RowLs.store {w : World} {B G c : Nat} {L : List (List Int)} {q : Value} {Q : List Int} (h : RowLs w B G L) (hc : c < L.length) (hq : RdIr w q Q) (hb : ∀ k, q.ownBlock = some k → B ≤ k ∧ k ≠ G) : RowLs (w.setCell ⟨G, c, none⟩ q) B G (L.set c Q) := by
  obtain ⟨vs, h1, h2, h3⟩ := h.row
  have hcs := Chg.setCell w ⟨G, c, none⟩ q
  refine ⟨h.low, vs.set c q, h1.set c q, by rw [List.length_set, List.length_set]; exact h2, fun d hd => ?_⟩
  rw [List.length_set] at hd
  by_cases hdc : d = c
  · subst hdc
    rw [List.getD_eq_getElem?_getD, List.getElem?_set_self (by omega), List.getD_eq_getElem?_getD, List.getElem?_set_self hd]
    exact ⟨hq.kept hcs fun k hk he => (hb k hk).2 he, hb⟩
  · rw [List.getD_eq_getElem?_getD, List.getElem?_set_ne (Ne.symm hdc), ← List.getD_eq_getElem?_getD, List.getD_eq_getElem?_getD (l := L.set c Q), List.getElem?_set_ne (Ne.symm hdc), ← List.getD_eq_getElem?_getD]
    exact ⟨(h3 d hd).1.kept hcs fun k hk he => ((h3 d hd).2 k hk).2 he, (h3 d hd).2⟩
/-- lists that are empty, in a block that is new -/
theorem RowLs.new {w : World} {Z : Array Value} {n : Nat} (hZ : Z.toList = List.replicate n (.slice none 0 0)) : RowLs (w.alloc (.cells Z 35)) w.heap.size w.heap.size (List.replicate n []) := by
  have hr : RowV (w.alloc (.cells Z 35)) w.heap.size (List.replicate n (.slice none 0 0)) := by
    have := heap_alloc_new w (.cells Z 35)
    unfold RowV
    rw [← hZ]
    exact this
  refine ⟨Nat.le_refl _, _, hr, by simp, fun c hc => ?_⟩
  rw [List.length_replicate] at hc
  rw [List.getD_eq_getElem?_getD, List.getElem?_replicate, if_pos hc, List.getD_eq_getElem?_getD, List.getElem?_replicate, if_pos hc]
  exact ⟨.nil _, by simp [Value.ownBlock]⟩
/-- one list, in a block that is new -/
theorem RowLs.one {w : World} {B : Nat} {q : Value} {Q : List Int} (hB : B ≤ w.heap.size) (hq : RdIr w q Q) (hb : ∀ k, q.ownBlock = some k → B ≤ k ∧ k < w.heap.size) : RowLs (w.alloc (.cells #[q] 35)) B w.heap.size [Q] := by
  have hc := Chg.alloc (fun _ => False) w (.cells #[q] 35)
  refine ⟨hB, [q], heap_alloc_new w (.cells #[q] 35), rfl, fun c hl => ?_⟩
  obtain rfl : c = 0 := by simpa using hl
  exact ⟨hq.kept hc (by simp), fun k hk => ⟨(hb k hk).1, by have := (hb k hk).2; omega⟩⟩
/-- it is a model, whatever turns below B -/
theorem RowLs.rdmf {w : World} {B G cap : Nat} {m : Md} (h : RowLs w B G m.cs) : RdMF B w (.agg #[.int .i64 m.log, .bool m.one, .slice (some ⟨G, 0, none⟩) m.cs.length cap]) m :=
  fun _ _ hc hS => ⟨_, rfl, (h.kept hc hS).ll cap⟩

end Go.Proofs.Ythghlfghdmifoaa

/- What model's listed tells: a model's lists, of bytes that a function tells which is handed in. THIS SPEAKS OF THE PROGRAM'S OWN TEXT. -/
namespace Go.Proofs.Ythghlfghdmifoaa
open Go.RowKit

/-- the lists of the first k places -/
def partF (f : Nat → List Nat) (r : Int) (n k : Nat) : List (List Int) := (List.range n).map fun c => if c < k ∧ f c ≠ [] then normR (cnt (f c)) r else []
theorem partF_length (f : Nat → List Nat) (r : Int) (n k : Nat) : (partF f r n k).length = n := by simp [partF]
theorem partF_zero (f : Nat → List Nat) (r : Int) (n : Nat) : partF f r n 0 = List.replicate n [] := by
  refine List.ext_getElem (by simp [partF]) fun i h1 h2 => ?_
  simp [partF]
theorem partF_next (f : Nat → List Nat) (r : Int) (n k : Nat) (h : f k ≠ []) : (partF f r n k).set k (normR (cnt (f k)) r) = partF f r n (k + 1) := by
  refine List.ext_getElem (by simp [partF]) fun i h1 h2 => ?_
  rw [List.getElem_set]
  simp only [partF, List.getElem_map, List.getElem_range]
  by_cases hi : k = i
  · subst hi
    rw [if_pos rfl, if_pos ⟨by omega, h⟩]
  · rw [if_neg hi]
    have e : (i < k ∧ f i ≠ []) ↔ (i < k + 1 ∧ f i ≠ []) := by constructor <;> rintro ⟨h1, h2⟩ <;> exact ⟨by omega, h2⟩
    simp only [e]
theorem partF_skip (f : Nat → List Nat) (r : Int) (n k : Nat) (h : f k = []) : partF f r n k = partF f r n (k + 1) := by
  refine List.ext_getElem (by simp [partF]) fun i h1 h2 => ?_
  simp only [partF, List.getElem_map, List.getElem_range]
  by_cases hi : i = k
  · subst hi
    rw [if_neg (fun hh => hh.2 h), if_neg (fun hh => hh.2 h)]
  · have e : (i < k ∧ f i ≠ []) ↔ (i < k + 1 ∧ f i ≠ []) := by constructor <;> rintro ⟨h1, h2⟩ <;> exact ⟨by omega, h2⟩
    simp only [e]
theorem partF_all (f : Nat → List Nat) (r : Int) (n : Nat) : partF f r n n = (List.range n).map fun c => if f c = [] then [] else normR (cnt (f c)) r := by
  refine List.map_congr_left fun c hc => ?_
  rw [List.mem_range] at hc
  by_cases h : f c = []
  · rw [if_neg (fun hh => hh.2 h), if_pos h]
  · rw [if_pos ⟨hc, h⟩, if_neg h]

theorem RowLs.mono {w : World} {B B' G : Nat} {L : List (List Int)} (h : RowLs w B G L) (hb : B' ≤ B) : RowLs w B' G L := by
  obtain ⟨vs, h1, h2, h3⟩ := h.row
  exact ⟨Nat.le_trans hb h.low, vs, h1, h2, fun c hc => ⟨(h3 c hc).1, fun q hq => ⟨Nat.le_trans hb ((h3 c hc).2 q hq).1, ((h3 c hc).2 q hq).2⟩⟩⟩
theorem RdMF.kept {B : Nat} {S : Nat → Prop} {w w' : World} {v : Value} {m : Md} (h : RdMF B w v m) (hc : Chg S w w') (hS : ∀ k, B ≤ k → ¬ S k) : RdMF B w' v m := fun T w'' hc' hT =>
  h (fun k => S k ∨ T k) w'' ((hc.mono fun _ _ h => .inl h).trans hc' fun _ _ h => .inr h) fun k hk hh => hh.elim (hS k hk) (hT k hk)
theorem RdMF.mono {B B' : Nat} {w : World} {v : Value} {m : Md} (h : RdMF B w v m) (hb : B' ≤ B) : RdMF B' w v m := fun S w' hc hS => h S w' hc fun k hk => hS k (Nat.le_trans hb hk)

set_option maxRecDepth 100000 in
set_option maxHeartbeats 4000000 in
theorem mlisted_any (n : Nat) (log : Int) (one : Bool) (m1 : Nat) (P1 : Value) (f : Nat → List Nat) (w : World) (hn : n = if one then 1 else 256) (hlog : 1 ≤ log ∧ log ≤ 12)
    (hmk : ∃ Z : Array Value, Z.toList = List.replicate n (.slice none 0 0) ∧ ∀ W : World, (Instr.makeSlice 24 (.int .i64 (n : Int)) (.int .i64 (n : Int))).run Try.prog W = .ok (.slice (some ⟨W.heap.size, 0, none⟩) n n) (W.alloc (.cells Z 35)))
    (hm1 : ∀ args W, (callFunc m1 args).run Try.prog W = .ok (.enter m1 args) W)
    (hfx : ∀ c, c < n → ∀ x ∈ f c, x < 256) (hfl : ∀ c, c < n → (f c).length < 10000000000) (hok : ∀ c, c < n → f c ≠ [] → normOk (cnt (f c)) log)
    (hf : ∀ W (c : Nat), Chg (fun _ => False) w W → c < n → Calls Try.prog m1 #[.int .i64 (c : Int), P1] W fun e W' => ∃ u, e = .returned u ∧ RdB W' u (f c) ∧ Chg (fun _ => False) W W') :
    Calls Try.prog 27 #[.agg #[.int .i64 log, .bool one, .slice none 0 0], .func (.func m1) #[] #[P1]] w fun e w' =>
      ∃ u, e = .returned (.tuple #[u, .int .i64 0]) ∧ RdMF w.heap.size w' u ⟨log, one, (List.range n).map fun c => if f c = [] then [] else normR (cnt (f c)) log⟩ ∧ Chg (fun _ => False) w w' := by
  obtain ⟨Z, hZ, hmake⟩ := hmk
  have HFX := Lib.hid hfx; have HFL := Lib.hid hfl; have HOK := Lib.hid hok; have HF := Lib.hid hf; have HZ := Lib.hid hZ
  have hn256 : n ≤ 256 := by rw [hn]; split <;> omega
  have hnI : (n : Int) ≤ 256 := by omega
  have HLS := Lib.hid (show ∀ W, Calls Try.prog 39 #[.bool one] W fun e w' => e = .returned (.int .i64 (n : Int)) ∧ w' = W from fun W => by
    have := mlistsN_any one W
    rwa [show (if one = true then (1 : Int) else 256) = (n : Int) by rw [hn]; split <;> rfl] at this)
  obtain ⟨hlo, hhi⟩ := hlog
  have c1 := Chg.alloc (fun _ => False) w (.cells #[.int .i64 log, .bool one, .slice none 0 0] 26)
  have mb1 : Mb _ _ log one (.slice none 0 0) := heap_alloc_new w (.cells #[.int .i64 log, .bool one, .slice none 0 0] 26)
  obtain ⟨W1, hW1⟩ : ∃ W, w.alloc (.cells #[.int .i64 log, .bool one, .slice none 0 0] 26) = W := ⟨_, rfl⟩
  rw [hW1] at c1 mb1
  have hlt1 := mb1.lt
  have c2 := Chg.alloc (fun _ => False) W1 (.cells #[.int .i64 0, .bool false, .slice none 0 0] 26)
  have mb2 : Mb _ _ 0 false (.slice none 0 0) := heap_alloc_new W1 (.cells #[.int .i64 0, .bool false, .slice none 0 0] 26)
  have mb1 := mb1.kept c2 (by simp)
  obtain ⟨W2, hW2⟩ : ∃ W, W1.alloc (.cells #[.int .i64 0, .bool false, .slice none 0 0] 26) = W := ⟨_, rfl⟩
  rw [hW2] at c2 mb2 mb1
  obtain ⟨b0, b1, b2⟩ := mb1.cells
  have hlt2 := mb2.lt
  have hzm := zeroModel
  obtain ⟨G2, hG2⟩ : ∃ G2, w.heap.size = G2 := ⟨_, rfl⟩
  obtain ⟨G4, hG4⟩ : ∃ G4, W1.heap.size = G4 := ⟨_, rfl⟩
  rw [hG2] at mb1 hlt1 b0 b1 b2 ⊢
  rw [hG4] at mb2 hlt1 hlt2
  have HC2 := Lib.hid (c1.trans c2 fun _ _ h => h); have MB1 := Lib.hid mb1; have MB2 := Lib.hid mb2; have HG2 := Lib.hid hG2; have HLT := Lib.hid (show G2 < G4 ∧ G4 < W2.heap.size from ⟨hlt1, hlt2⟩)
  -- what the list's making leaves
  have c3 := Chg.alloc (fun _ => False) W2 (.cells Z 35)
  have hnew := RowLs.new (w := W2) hZ
  have mb1a := mb1.kept c3 (by simp)
  have mb2a := mb2.kept c3 (by simp)
  obtain ⟨W3', hW3⟩ : ∃ W, W2.alloc (.cells Z 35) = W := ⟨_, rfl⟩
  obtain ⟨G, hG⟩ : ∃ G, W2.heap.size = G := ⟨_, rfl⟩
  rw [hW3] at c3 hnew mb1a mb2a
  rw [hG] at hnew hlt2
  have f2 := frozen_of_row _ _ 2 _ _ mb1a
  have z2 := mb1a.cells.2.2
  have c4 := Chg.setCell W3' ⟨G2, 2, none⟩ (.slice (some ⟨G, 0, none⟩) n n)
  have mb1b : Mb (W3'.setCell ⟨G2, 2, none⟩ (.slice (some ⟨G, 0, none⟩) n n)) G2 log one (.slice (some ⟨G, 0, none⟩) n n) := heap_setCell_same W3' G2 2 _ _ (.slice (some ⟨G, 0, none⟩) n n) mb1a
  have mb2b := mb2a.kept c4 (by simp; omega)
  have hnewb := hnew.kept c4 (fun k hk he => by simp at he; omega)
  rw [← partF_zero f log n] at hnewb
  have hcb := (HC2.out.trans c3 fun _ _ h => h).trans c4 fun q hq he => by simp at he; have := HG2.out; omega
  have q2 := mb1b.cells.2.2
  have MB1B := Lib.hid mb1b; have MB2B := Lib.hid mb2b; have NEWB := Lib.hid hnewb; have HCB := Lib.hid hcb; have HGG := Lib.hid (show G4 < G from hlt2)
  clear hn hfx hfl hok hf hZ c1 c2 mb1 mb2 hlt1 hlt2 c3 hnew mb1a mb2a c4 mb1b mb2b hnewb hcb
  go_enter Try.func27, Try.ntmps27
  go_wp2_with fail
  with_reducible refine Calls.mono (HLS.out _) ?_
  rintro e w9 ⟨rfl, rfl⟩
  go_wp2
  go_loopw [6, 7, 8, 9, 18] (fun _ _ _ _ o18 wr => ∃ k : Nat, k ≤ n ∧ o18 = .int .i64 (k : Int) ∧ Mb wr G2 log one (.slice (some ⟨G, 0, none⟩) n n) ∧ Mb wr G4 0 false (.slice none 0 0) ∧ RowLs wr G G (partF f log n k) ∧ Chg (fun _ => False) w wr) (fun _ _ _ _ o18 _ => n - (intOf o18).toNat)
  case atStart => exact ⟨0, Nat.zero_le _, rfl, MB1B.out, MB2B.out, NEWB.out, HCB.out⟩
  case round =>
    clear MB1B MB2B NEWB HCB b0 b1 b2 f2 z2 q2 MB1 MB2 HC2 hW1 hW2 hW3
    obtain ⟨k, hk, rfl, hm2, hm4, hrow, hcg⟩ := hrel
    have M2 := Lib.hid hm2; have M4 := Lib.hid hm4; have HROW := Lib.hid hrow; have HCG := Lib.hid hcg
    by_cases hlt : k < n
    · have hkI : (k : Int) < (n : Int) := by omega
      have CL := Lib.hid (HF.out wr k hcg hlt)
      obtain ⟨x0, x1, x2⟩ := hm2.cells
      clear hm2 hm4 hrow hcg
      go_wp2_with fail
      with_reducible refine Calls.mono CL.out ?_
      rintro e w2 ⟨u, rfl, hu, hc2⟩
      have HU := Lib.hid hu; have C2 := Lib.hid (HCG.out.trans hc2 fun _ _ h => h)
      have m2 := M2.out.kept hc2 (by simp); have m4 := M4.out.kept hc2 (by simp); have r2 := HROW.out.kept hc2 (by simp)
      obtain ⟨y0, y1, y2⟩ := m2.cells
      have M2 := Lib.hid m2; have M4 := Lib.hid m4; have HROW := Lib.hid r2
      clear hu hc2 m2 m4 r2 x0 x1 x2 CL
      obtain ⟨au, lu, hue⟩ := HU.out.form
      subst hue
      by_cases h0 : f k = []
      · have hl0 : (f k).length = 0 := by rw [h0]; rfl
        have H0 := Lib.hid h0
        rw [hl0]
        clear h0 hl0
        go_wp2
        go_roundw
        case rel => exact ⟨k + 1, by omega, by go_num, M2.out, M4.out, by rw [← partF_skip f log n k H0.out]; exact HROW.out, C2.out⟩
        case measure => simp [intOf]; omega
      · have hno := HOK.out k hlt h0
        have hpos : 0 < (f k).length := List.length_pos_iff.2 h0
        have HO := Lib.hid fun W (hW : Chg (fun _ => False) w2 W) => hof_any _ (f k) W (HU.out.kept hW (by simp)) (HFX.out k hlt) (Nat.lt_trans (HFL.out k hlt) (by omega))
        have hb : ∀ z ∈ cnt (f k), -9223372036854775808 ≤ z ∧ z ≤ 9223372036854775807 := fun z hz => by
          obtain ⟨i, hi, rfl⟩ := List.mem_iff_getElem.1 hz
          have := hno.1.one i hi
          rw [List.getD_eq_getElem?_getD, List.getElem?_eq_getElem hi] at this
          simp only [Option.getD_some] at this
          omega
        have NC := Lib.hid fun W q (hq : RdI W q (cnt (f k))) => ncounts_room q (cnt (f k)) log W hq hb (by rw [hno.1.1]; omega) (by omega)
        have HNO := Lib.hid hno; have H0 := Lib.hid h0
        obtain ⟨nu, hnu⟩ : ∃ nu, (f k).length = nu := ⟨_, rfl⟩
        rw [hnu] at hpos HU HO ⊢
        have hne : ((nu : Int) == 0) = false := by simp; omega
        have hn0 : ¬ nu = 0 := by omega
        clear hno hb hnu h0
        go_wp2
        go_region_held3 (fun W => W.cell? ⟨G2, 0, none⟩ = some (.int .i64 log)) (first | exact y0 | exact k0 | exact q0) (first
          | (go_at_call 23; refine (HO.out _ ((Chg.refl _ _).drew)).mono ?_; rintro e w3 ⟨v3, rfl, ho3, hc3⟩; have D3 := Lib.hid ((Chg.refl (fun _ => False) w2).drew.trans hc3 fun _ _ h => h); have RD3 := Lib.hid ho3.rd; have k0 := (M2.out.kept D3.out (by simp)).cells.1; clear ho3 hc3)
          | (go_at_call 53; refine (NC.out _ _ RD3.out).mono ?_; rintro e w4 ⟨⟨q, rfl, hq, -, hc4⟩, hrm⟩; have D4 := Lib.hid (D3.out.trans hc4 fun _ _ h => h); have HRM := Lib.hid (hrm _ _ rfl); have HQ := Lib.hid (hq HNO.out); have q0 := (M2.out.kept D4.out (by simp)).cells.1; clear hq hc4 hrm))
        have m4 := M4.out.kept D4.out (by simp)
        have m2 := M2.out.kept D4.out (by simp)
        have hr4 := HROW.out.kept D4.out (by simp)
        have hc4 := C2.out.trans D4.out fun _ _ h => h
        obtain ⟨vo, v0, v1, -⟩ := hr4.cell k (by rw [partF_length]; exact hlt)
        have hqb : ∀ i, q.ownBlock = some i → w2.heap.size ≤ i := fun i hi => Nat.le_trans D3.out.size (HQ.out.block i hi)
        have hst := hr4.store (c := k) (q := q) (by rw [partF_length]; exact hlt) ⟨HQ.out.rd, HRM.out⟩ (fun i hi => by
          have := hqb i hi
          have := HROW.out.lt
          omega)
        rw [partF_next f log n k H0.out] at hst
        obtain ⟨aq, lq, hqf⟩ : ∃ aq lq, q = .slice aq 256 lq := by obtain ⟨g, off, cc, he, -⟩ := HQ.out; exact ⟨_, _, by rw [he, (normR_right HNO.out).1.1]⟩
        subst hqf
        have cs := Chg.setCell w4 ⟨G, k, none⟩ (.slice aq 256 lq)
        have hm2 := m2.kept cs (by simp; have := HGG.out; have := HLT.out; omega)
        have hm4 := m4.kept cs (by simp; have := HGG.out; omega)
        have hcs := hc4.trans cs fun i hi he => by simp at he; have := HGG.out; have := HLT.out; have := HG2.out; omega
        obtain ⟨y0, y1, y2⟩ := m2.cells
        have HST := Lib.hid hst; have HM2 := Lib.hid hm2; have HM4 := Lib.hid hm4; have HCS := Lib.hid hcs
        clear m4 m2 hr4 hc4 hqb hst cs hm2 hm4 hcs NC HO HRM HQ D4 D3 RD3 k0 q0
        go_wp2
        go_roundw
        case rel => exact ⟨k + 1, by omega, by go_num, HM2.out, HM4.out, HST.out, HCS.out⟩
        case measure => simp [intOf]; omega
    · obtain rfl : k = n := by omega
      obtain ⟨x0, x1, x2⟩ := hm2.cells
      have f0 := frozen_of_row _ _ 0 _ _ hm4
      have f1 := frozen_of_row _ _ 1 _ _ hm4
      have f2 := frozen_of_row _ _ 2 _ _ hm4
      obtain ⟨v0, v1, v2⟩ := hm4.cells
      obtain ⟨y0, y1, y2, y3⟩ := W3_cells hm4 log one (.slice (some ⟨G, 0, none⟩) k k)
      have hr2 := (hrow.kept (W3_chg wr G4 log one (.slice (some ⟨G, 0, none⟩) k k)) (fun q hq he => by have := HGG.out; omega)).mono (B' := w.heap.size) (by have := HGG.out; have := HLT.out; have := HG2.out; omega)
      rw [partF_all] at hr2
      have hmd : RdMF w.heap.size (W3 wr G4 log one (.slice (some ⟨G, 0, none⟩) k k)) (.agg #[.int .i64 log, .bool one, .slice (some ⟨G, 0, none⟩) k k]) ⟨log, one, (List.range k).map fun c => if f c = [] then [] else normR (cnt (f c)) log⟩ := by
        have := RowLs.rdmf (cap := k) (m := ⟨log, one, (List.range k).map fun c => if f c = [] then [] else normR (cnt (f c)) log⟩) hr2
        simpa using this
      have hcf := hcg.trans (W3_chg wr G4 log one (.slice (some ⟨G, 0, none⟩) k k)) fun q hq he => by have := HLT.out; have := HG2.out; omega
      have HMD := Lib.hid hmd; have HCF := Lib.hid hcf
      unfold W3 at y2 y3 HMD HCF
      clear hm2 hm4 hrow hcg hr2 hmd hcf M2 M4 HROW HCG
      go_wp2
      refine bodyPost_ret (v := .tuple #[.agg #[.int .i64 log, .bool one, .slice (some ⟨G, 0, none⟩) k k], .int .i64 0]) (by simp [results, Try.results27, go_sem, y0, y1, y2]; try rfl) rfl ?_
      exact ⟨_, rfl, by simpa [HG2.out] using HMD.out, HCF.out⟩

end Go.Proofs.Ythghlfghdmifoaa

/- A block of one cell: a variable that a closure shares, or a result that a deferred call may turn. -/
namespace Go.Proofs.Ythghlfghdmifoaa
open Go.RowKit

/-- block b holds the value v, and nothing else -/
def Bx (w : World) (b : Nat) (t : TypeId) (v : Value) : Prop := w.heap[b]? = some (.cells #[v] t (0, 0))
theorem Bx.new (w : World) (t : TypeId) (v : Value) : Bx (w.alloc (.cells #[v] t)) w.heap.size t v := heap_alloc_new w _
theorem Bx.lt {w : World} {b : Nat} {t : TypeId} {v : Value} (h : Bx w b t v) : b < w.heap.size := lt_of_block h
theorem Bx.cell {w : World} {b : Nat} {t : TypeId} {v : Value} (h : Bx w b t v) : w.cell? ⟨b, 0, none⟩ = some v := by rw [cell_of_row w b 0 _ t _ h]; rfl
theorem Bx.free {w : World} {b : Nat} {t : TypeId} {v : Value} (h : Bx w b t v) : w.frozen? ⟨b, 0, none⟩ = false := frozen_of_row w b 0 _ t h
theorem Bx.kept {S : Nat → Prop} {w w' : World} {b : Nat} {t : TypeId} {v : Value} (h : Bx w b t v) (hc : Chg S w w') (hS : ¬ S b) : Bx w' b t v := (hc.block b (lt_of_block h) hS).trans h
theorem Bx.set {w : World} {b : Nat} {t : TypeId} {v : Value} (h : Bx w b t v) (x : Value) : Bx (w.setCell ⟨b, 0, none⟩ x) b t x := by
  have := heap_setCell_same w b 0 _ _ x h
  unfold Bx
  rw [this]; rfl
theorem Bx.drew {w : World} {b : Nat} {t : TypeId} {v : Value} (h : Bx w b t v) : Bx w.drew b t v := h

end Go.Proofs.Ythghlfghdmifoaa

/- What math/bits.Len64 and math/bits.Len tell of any number. -/
namespace Go.Proofs.Ythghlfghdmifoaa
open Go.RowKit

theorem len_fin {x y c : Int} (b : Nat) (hc : c = (b : Int)) (hb : b ≤ 56) (hy : y.toNat = x.toNat / 2 ^ b) (hy1 : 1 ≤ y) (hy2 : y < 256) : wrap64 (c + wrap64 ((bitLen y.toNat : Nat) : Int)) = ((bitLen x.toNat : Nat) : Int) := by
  have h8 := bitLen_le8 y.toNat (by omega)
  have hs := bitLen_shift x.toNat b (by omega)
  rw [← hy] at hs
  rw [hs, hc]
  generalize bitLen y.toNat = l at *
  unfold wrap64
  omega

set_option maxRecDepth 100000 in
set_option maxHeartbeats 4000000 in
theorem len64_any (x : Int) (h0 : 0 ≤ x) (hx : x ≤ 18446744073709551615) (w : World) : Calls Try.prog 76 #[.int .u64 x] w fun e w' => e = .returned (.int .i64 (bitLen x.toNat : Int)) ∧ w' = w := by
  go_enter Try.func76, Try.ntmps76
  go_wp2
  all_goals rw [len8tab_get]
  all_goals go_ret
  all_goals refine ⟨congrArg (fun z => Ending.returned (Value.int .i64 z)) ?_, rfl⟩
  · exact len_fin 56 rfl (by decide) (by omega) (by omega) (by omega)
  · exact len_fin 48 rfl (by decide) (by omega) (by omega) (by omega)
  · exact len_fin 40 rfl (by decide) (by omega) (by omega) (by omega)
  · exact len_fin 32 rfl (by decide) (by omega) (by omega) (by omega)
  · exact len_fin 24 rfl (by decide) (by omega) (by omega) (by omega)
  · exact len_fin 16 rfl (by decide) (by omega) (by omega) (by omega)
  · exact len_fin 8 rfl (by decide) (by omega) (by omega) (by omega)
  · have h8 := bitLen_le8 x.toNat (by omega)
    generalize bitLen x.toNat = l at *
    unfold wrap64
    omega

theorem len_any (x : Int) (h0 : 0 ≤ x) (hx : x ≤ 18446744073709551615) (w : World) : Calls Try.prog 70 #[.int .u64 x] w fun e w' => e = .returned (.int .i64 (bitLen x.toNat : Int)) ∧ w' = w := by
  have H := fun w => len64_any x h0 hx w
  go_enter Try.func70, Try.ntmps70
  go_wp2_with fail
  refine (H _).mono ?_
  rintro e w' ⟨rfl, rfl⟩
  go_wp2
  go_ret
  exact ⟨rfl, rfl⟩

end Go.Proofs.Ythghlfghdmifoaa

/- What logs' Floor, Ceil, Width and Pick tell. THIS ALONE SPEAKS OF THE PROGRAM'S OWN TEXT. -/
namespace Go.Proofs.Ythghlfghdmifoaa
open Go.RowKit

theorem bitLen_width {n : Int} (h : 1 ≤ n) : bitLen n.toNat = widthI n := by
  unfold bitLen widthI
  rw [if_neg (by omega), if_neg (by omega)]

theorem lwidth_w (n : Int) (w : World) (hn : n ≤ 1099511627776) (hlo : -9223372036854775808 ≤ n) :
    Calls Try.prog 64 #[.int .i64 n] w fun e w' => e = .returned (.int .i64 ((widthI n : Nat) : Int)) ∧ w' = w := by
  by_cases h1 : n < 1
  · have hw := width_small h1
    go_enter Try.func64, Try.ntmps64
    go_wp2
    go_ret
    rw [hw]
    exact ⟨rfl, rfl⟩
  · have hw := bitLen_width (n := n) (by omega)
    have H := fun w => len_any n (by omega) (by omega) w
    have hm : n % 18446744073709551616 = n := by omega
    go_enter Try.func64, Try.ntmps64
    go_wp2_with fail
    refine (H _).mono ?_
    rintro e w' ⟨rfl, rfl⟩
    go_wp2
    go_ret
    exact ⟨rfl, rfl⟩

theorem lfloor_w (n : Int) (w : World) (hn : n ≤ 1099511627776) (hlo : -9223372036854775808 ≤ n) :
    Calls Try.prog 51 #[.int .i64 n] w fun e w' => e = .returned (.int .i64 ((floorI n : Nat) : Int)) ∧ w' = w := by
  by_cases h1 : n < 2
  · have hw := floor_small h1
    go_enter Try.func51, Try.ntmps51
    go_wp2
    go_ret
    rw [hw]
    exact ⟨rfl, rfl⟩
  · have H := fun w => lwidth_w n w hn hlo
    have hw := width_floor (n := n) (by omega)
    have h40 := floor_le40 hn
    rw [hw] at H
    generalize floorI n = f at *
    have hs : ((f + 1 : Nat) : Int) - 1 = (f : Int) := by omega
    have hwr : wrap64 ((f : Int)) = (f : Int) := by unfold wrap64; omega
    obtain ⟨q, hq⟩ : ∃ q : Int, q = ((f + 1 : Nat) : Int) := ⟨_, rfl⟩
    rw [← hq] at H hs
    have hq1 : 0 ≤ q ∧ q ≤ 41 := by omega
    go_enter Try.func51, Try.ntmps51
    go_wp2_with fail
    refine (H _).mono ?_
    rintro e w' ⟨rfl, rfl⟩
    go_wp2
    go_ret
    refine ⟨congrArg (fun z => Ending.returned (Value.int .i64 z)) ?_, rfl⟩
    omega

theorem lceil_w (n : Int) (w : World) (hn : n ≤ 1099511627776) (hlo : -9223372036854775808 ≤ n) :
    Calls Try.prog 52 #[.int .i64 n] w fun e w' => e = .returned (.int .i64 ((ceilI n : Nat) : Int)) ∧ w' = w := by
  by_cases h1 : n < 2
  · have hw := ceil_small h1
    go_enter Try.func52, Try.ntmps52
    go_wp2
    go_ret
    rw [hw]
    exact ⟨rfl, rfl⟩
  · have H := fun w => lwidth_w (n - 1) w (by omega) (by omega)
    have hw : widthI (n - 1) = ceilI n := by
      unfold widthI ceilI
      rw [if_neg (by omega), if_neg h1]
      congr 2
      omega
    rw [hw] at H
    go_enter Try.func52, Try.ntmps52
    go_wp2_with fail
    refine (H _).mono ?_
    rintro e w' ⟨rfl, rfl⟩
    go_wp2
    go_ret
    exact ⟨rfl, rfl⟩

theorem lwidth_any (n : Int) (w : World) (hn : n ≤ 1099511627776) (hlo : -9223372036854775808 ≤ n) :
    Calls Try.prog 64 #[.int .i64 n] w fun e w' => e = .returned (.int .i64 ((widthI n : Nat) : Int)) ∧ Chg (fun _ => False) w w' :=
  (lwidth_w n w hn hlo).mono fun _ _ h => ⟨h.1, h.2 ▸ Chg.refl _ _⟩
theorem lfloor_any (n : Int) (w : World) (hn : n ≤ 1099511627776) (hlo : -9223372036854775808 ≤ n) :
    Calls Try.prog 51 #[.int .i64 n] w fun e w' => e = .returned (.int .i64 ((floorI n : Nat) : Int)) ∧ Chg (fun _ => False) w w' :=
  (lfloor_w n w hn hlo).mono fun _ _ h => ⟨h.1, h.2 ▸ Chg.refl _ _⟩
theorem lceil_any (n : Int) (w : World) (hn : n ≤ 1099511627776) (hlo : -9223372036854775808 ≤ n) :
    Calls Try.prog 52 #[.int .i64 n] w fun e w' => e = .returned (.int .i64 ((ceilI n : Nat) : Int)) ∧ Chg (fun _ => False) w w' :=
  (lceil_w n w hn hlo).mono fun _ _ h => ⟨h.1, h.2 ▸ Chg.refl _ _⟩

theorem foldl_take_succ (a : Int) (zs : List Int) (k : Nat) (hk : k < zs.length) : (zs.take (k + 1)).foldl max a = max ((zs.take k).foldl max a) (zs.getD k 0) := by
  rw [List.take_add_one, List.foldl_append]
  simp [List.getElem?_eq_getElem hk]

theorem lgreatest_w (a : Int) (g cap : Nat) (zs : List Int) (w : World) (hl : zs.length < 100000000000)
    (hc : ∀ j, j < zs.length → w.cell? ⟨g, j, none⟩ = some (.int .i64 (zs.getD j 0))) :
    Calls Try.prog 50 #[.int .i64 a, .slice (some ⟨g, 0, none⟩) zs.length cap] w fun e w' => e = .returned (.int .i64 (zs.foldl max a)) ∧ w' = w := by
  have HC := Lib.hid hc
  clear hc
  obtain ⟨n, hn⟩ : ∃ n, zs.length = n := ⟨_, rfl⟩
  rw [hn] at hl ⊢
  have HN := Lib.hid hn
  clear hn
  go_enter Try.func50, Try.ntmps50
  go_wp2
  go_loopw [5, 11] (fun o5 o11 wr => ∃ k : Nat, k ≤ n ∧ o11 = .int .i64 (k : Int) ∧ o5 = .int .i64 ((zs.take k).foldl max a) ∧ wr = w) (fun _ o11 _ => n - (intOf o11).toNat)
  case atStart => exact ⟨0, Nat.zero_le _, rfl, rfl, rfl⟩
  case round =>
    obtain ⟨k, hk, rfl, rfl, rfl⟩ := hrel
    by_cases hlt : k < n
    · have hcell := HC.out k (by rw [HN.out]; exact hlt)
      have hsu := foldl_take_succ a zs k (by rw [HN.out]; exact hlt)
      generalize zs.getD k 0 = x at *
      generalize (zs.take k).foldl max a = m at *
      have HSU := Lib.hid hsu
      clear hsu
      by_cases hgt : m < x
      · have d1 : decide (m < x) = true := decide_eq_true hgt
        go_wp2
        go_roundw
        case rel => exact ⟨k + 1, by omega, by go_num, by rw [HSU.out, show max m x = x by omega], trivial⟩
        case measure => simp [intOf]; omega
      · have d1 : decide (m < x) = false := decide_eq_false hgt
        go_wp2
        go_roundw
        case rel => exact ⟨k + 1, by omega, by go_num, by rw [HSU.out, show max m x = m by omega], trivial⟩
        case measure => simp [intOf]; omega
    · obtain rfl : k = n := by omega
      have hal : (zs.take k).foldl max a = zs.foldl max a := by rw [← HN.out, List.take_length]
      rw [hal]
      go_wp2
      go_ret
      exact ⟨rfl, rfl⟩

set_option maxRecDepth 100000 in
theorem lpick_any (n m t : Int) (w : World) (hn : n ≤ 1099511627776) (hlo : -9223372036854775808 ≤ n) (hm : m ≤ 1099511627776) (hmo : -9223372036854775808 ≤ m) (_ht : t ≤ 1099511627776) (_hto : -9223372036854775808 ≤ t) :
    Calls Try.prog 26 #[.int .i64 n, .int .i64 m, .int .i64 t] w fun e w' => e = .returned (.int .i64 (pickI n m t)) ∧ Chg (fun _ => False) w w' := by
  have F := fun w => lfloor_w n w hn hlo
  have C := fun w => lceil_w m w hm hmo
  have h40 := floor_le40 hn
  have hdef : pickI n m t = [5, ((ceilI m : Nat) : Int)].foldl max (min ((floorI n : Int) - 2) t) := rfl
  rw [hdef]
  clear hdef
  obtain ⟨c, hc⟩ : ∃ c : Int, ((ceilI m : Nat) : Int) = c := ⟨_, rfl⟩
  obtain ⟨f, hf⟩ : ∃ f : Int, ((floorI n : Nat) : Int) = f := ⟨_, rfl⟩
  rw [hc] at C ⊢
  rw [hf] at F ⊢
  have hf2 : 0 ≤ f ∧ f ≤ 40 := by omega
  have hf3 : wrap64 (f - 2) = f - 2 := by unfold wrap64; omega
  clear hc hf h40
  by_cases hmin : t < f - 2
  · have hmn : min (f - 2) t = t := by omega
    rw [hmn]
    clear hmn
    go_enter Try.func26, Try.ntmps26
    go_wp2_with fail
    refine (F _).mono ?_
    rintro e w' ⟨rfl, rfl⟩
    go_wp2_with fail
    refine (C _).mono ?_
    rintro e w' ⟨rfl, rfl⟩
    go_wp2_with fail
    refine (lgreatest_w t _ _ [5, c] _ (by simp) ?_).mono ?_
    · intro j hj
      match j, hj with
      | 0, _ => simp
      | 1, _ => simp
    rintro e w' ⟨rfl, rfl⟩
    go_wp2
    go_ret
    refine ⟨congrArg (fun z => Ending.returned (Value.int .i64 z)) ?_, Chg.alloc _ _ _⟩
    simp [Int.max_assoc]
  · have hmn : min (f - 2) t = f - 2 := by omega
    rw [hmn]
    clear hmn
    obtain ⟨q, hq⟩ : ∃ q : Int, f - 2 = q := ⟨_, rfl⟩
    rw [hq] at hmin ⊢
    have hwq : wrap64 q = q := by rw [← hq]; exact hf3
    clear hf3
    go_enter Try.func26, Try.ntmps26
    go_wp2_with fail
    refine (F _).mono ?_
    rintro e w' ⟨rfl, rfl⟩
    go_wp2_with fail
    refine (C _).mono ?_
    rintro e w' ⟨rfl, rfl⟩
    go_wp2_with fail
    refine (lgreatest_w q _ _ [5, c] _ (by simp) ?_).mono ?_
    · intro j hj
      match j, hj with
      | 0, _ => simp
      | 1, _ => simp
    rintro e w' ⟨rfl, rfl⟩
    go_wp2
    go_ret
    refine ⟨congrArg (fun z => Ending.returned (Value.int .i64 z)) ?_, Chg.alloc _ _ _⟩
    simp [Int.max_assoc]

end Go.Proofs.Ythghlfghdmifoaa

/- The zero value of 256 times 256 bools. -/
namespace Go.Proofs.Ythghlfghdmifoaa
open Go.RowKit

theorem zeroSeen : ∃ Z : List Value, Z = dbl 10 (List.replicate 64 (.bool false)) ∧ ∀ W : World, (zeroValue 66).run Try.prog W = .ok (.agg Z.toArray) W := ⟨_, rfl, fun W => by kernel_rfl⟩

theorem bl_rep (n : Nat) (b : Bool) : bl (List.replicate n b) = List.replicate n (.bool b) := by simp [bl]

end Go.Proofs.Ythghlfghdmifoaa

/- What ctx's Widest tells. THIS ALONE SPEAKS OF THE PROGRAM'S OWN TEXT. -/
namespace Go.Proofs.Ythghlfghdmifoaa
open Go.RowKit

set_option maxHeartbeats 2000000 in
set_option maxRecDepth 100000 in
theorem xwidest_any (v : Value) (xs : List Nat) (w : World) (h : RdB w v xs) (hx : ∀ x ∈ xs, x < 256) (hl : xs.length < 1000000) :
    Calls Try.prog 29 #[v] w fun e w' => e = .returned (.int .i64 ((widest xs : Nat) : Int)) ∧ Chg (fun _ => False) w w' := by
  obtain ⟨ao, cap, rfl⟩ := h.form
  have H := Lib.hid h; have HX := Lib.hid hx
  clear h hx
  obtain ⟨Z, hZ, hzero⟩ := zeroSeen
  obtain ⟨Y, hY, hzeroY⟩ := zeroCounts
  have hsz : Z = bl (List.replicate 65536 false) := by rw [hZ, dbl_rep, bl_rep]
  have h0 : RowT (w.alloc (.cells Z.toArray 66)) w.heap.size 66 (List.replicate 65536 false) := by
    unfold RowT; rw [← hsz]; exact heap_alloc_new w _
  have c0 := Chg.alloc (fun _ => False) w (.cells Z.toArray 66)
  have z0 : (w.alloc (.cells Z.toArray 66)).heap.size = w.heap.size + 1 := by simp
  obtain ⟨W0, hW0⟩ : ∃ W0, w.alloc (.cells Z.toArray 66) = W0 := ⟨_, rfl⟩
  rw [hW0] at h0 c0 z0
  have h1 : RowI (W0.alloc (.cells Y.toArray 62)) W0.heap.size 62 (List.replicate 256 0) := by
    unfold RowI; rw [← hY]; exact heap_alloc_new W0 _
  have c1 := Chg.alloc (fun _ => False) W0 (.cells Y.toArray 62)
  have h0' := h0.kept c1 (by simp)
  have c01 := c0.trans c1 (fun _ _ h => h)
  obtain ⟨W1, hW1⟩ : ∃ W1, W0.alloc (.cells Y.toArray 62) = W1 := ⟨_, rfl⟩
  rw [hW1] at h1 h0' c01
  obtain ⟨gm, hgm⟩ : ∃ gm, W0.heap.size = gm := ⟨_, rfl⟩
  obtain ⟨gs, hgs⟩ : ∃ gs, w.heap.size = gs := ⟨_, rfl⟩
  rw [hgm] at h1 z0
  rw [hgs] at h0' z0
  have hsn : SeenOk (xs.take 0) (List.replicate 65536 false) := by
    rw [List.take_zero]
    exact SeenOk.nil List.length_replicate fun j hj => by rw [List.getD_eq_getElem?_getD, List.getElem?_replicate, if_pos hj]; rfl
  have hmn : ManyOk (xs.take 0) (List.replicate 256 0) := by rw [List.take_zero]; exact ManyOk.nil
  have hw0 : widest (xs.take 0) = 0 := by rw [List.take_zero]; decide +kernel
  have ST : Hid (∃ (vs : List Bool) (ms : List Int), SeenOk (xs.take 0) vs ∧ ManyOk (xs.take 0) ms ∧ RowT W1 gs 66 vs ∧ RowI W1 gm 62 ms) := Lib.hid ⟨_, _, hsn, hmn, h0', h1⟩
  have CC := Lib.hid c01; have HW0 := Lib.hid hw0; have HGS := Lib.hid hgs; have HGM := Lib.hid z0
  clear hZ hY hsz h0 c0 z0 h1 c1 h0' c01 hsn hmn hw0
  go_enter Try.func29, Try.ntmps29
  go_wp2
  go_loopw [5, 11] (fun o5 o11 wr => ∃ k : Nat, k ≤ xs.length ∧ o11 = .int .i64 (k : Int) ∧ o5 = .int .i64 ((widest (xs.take k) : Nat) : Int) ∧ (∃ (vs : List Bool) (ms : List Int), SeenOk (xs.take k) vs ∧ ManyOk (xs.take k) ms ∧ RowT wr gs 66 vs ∧ RowI wr gm 62 ms) ∧ Chg (fun _ => False) w wr) (fun _ o11 _ => xs.length - (intOf o11).toNat)
  case atStart => exact ⟨0, Nat.zero_le _, rfl, by rw [HW0.out]; rfl, ST.out, CC.out⟩
  case round =>
    obtain ⟨k, hk, rfl, rfl, ⟨vs, ms, hvs, hms, hT, hI⟩, hcg⟩ := hrel
    clear ST CC HW0
    by_cases hlt : k < xs.length
    · obtain ⟨g, off, rfl, hcell⟩ := (H.out.kept hcg (by simp)).at k hlt
      have hyx := getD_lt xs HX.out k
      have htk : xs.take (k + 1) = xs.take k ++ [xs.getD k 0] := by
        rw [List.take_succ_eq_append_getElem hlt, List.getD_eq_getElem?_getD, List.getElem?_eq_getElem hlt]; rfl
      have htx : ∀ y ∈ xs.take k, y < 256 := fun y hy => HX.out y (List.mem_of_mem_take hy)
      have htl : (xs.take k).length < 1073741824 := by rw [List.length_take]; omega
      have hlst := lst_take 0 xs k hk
      have hc256 : lst 0 (xs.take k) < 256 := lst_lt 0 _ (by omega) htx
      have hat := atI_nat xs k hlt
      rw [← hlst] at hat
      have hmb := hms.bound _ hc256
      have hold := seen_old hvs hms htx hyx htl
      have hnew := seen_new hvs hms htx hyx htl
      rw [← htk] at hold hnew
      obtain ⟨x, hxe⟩ : ∃ x, xs.getD k 0 = x := ⟨_, rfl⟩
      obtain ⟨c, hce⟩ : ∃ c, lst 0 (xs.take k) = c := ⟨_, rfl⟩
      obtain ⟨z, hze⟩ : ∃ z, widest (xs.take k) = z := ⟨_, rfl⟩
      rw [hxe] at hcell hold hnew hyx
      rw [hce] at hat hold hnew hc256 hmb
      rw [hze] at hold hnew ⊢
      obtain ⟨m, hme⟩ : ∃ m, ms.getD c 0 = m := ⟨_, rfl⟩
      obtain ⟨b, hbe⟩ : ∃ b, vs.getD (c * 256 + x) false = b := ⟨_, rfl⟩
      rw [hbe] at hold hnew
      rw [hme] at hnew hmb
      have HBE := Lib.hid hbe; have HME := Lib.hid hme
      have HCG := Lib.hid hcg; have HOLD := Lib.hid hold; have HNEW := Lib.hid hnew; have HAT := Lib.hid hat; have HI := Lib.hid hI; have HT := Lib.hid hT
      have HVS := Lib.hid hvs; have HMS := Lib.hid hms
      clear hcg hold hnew hat hI hT hvs hms htk htx htl hlst hxe hce hze hme hbe
      go_wp2_with fail
      refine (xat_any _ xs (k : Int) wr (H.out.kept HCG.out (by simp)) HX.out (by omega) (by omega)).mono ?_
      rintro e w2 ⟨rfl, mm, rfl⟩
      rw [HAT.out]
      have qq := (Chg.refl (fun _ => False) wr).drewN mm
      have hT := HT.out.kept qq (by simp)
      have hI := HI.out.kept qq (by simp)
      have hcg := HCG.out.trans qq (fun _ _ h => h)
      have hcT := hT.cell (c * 256 + x) (by rw [HVS.out.1]; omega)
      have hfT := hT.free (c * 256 + x)
      rw [HBE.out] at hcT
      obtain ⟨Wq, hWq⟩ : ∃ Wq, wr.drewN mm = Wq := ⟨_, rfl⟩
      rw [hWq] at hT hI hcg hcT hfT
      rw [hWq]
      clear hWq qq HT HI HCG
      have hcI256 : (c : Int) < 256 := by omega
      have hxI256 : (x : Int) < 256 := by omega
      cases b with
      | true =>
        obtain ⟨hs2, hm2, hw2⟩ := HOLD.out rfl
        have HS2 := Lib.hid hs2; have HM2 := Lib.hid hm2; have HW2 := Lib.hid hw2; have HT := Lib.hid hT; have HI := Lib.hid hI; have HCG := Lib.hid hcg
        clear hs2 hm2 hw2 hT hI hcg HOLD HNEW
        go_wp2
        go_roundw
        case rel => exact ⟨k + 1, by omega, by go_num, by rw [HW2.out], ⟨vs, ms, HS2.out, HM2.out, HT.out, HI.out⟩, HCG.out⟩
        case measure => simp [intOf]; omega
      | false =>
        obtain ⟨hs2, hm2, hw2⟩ := HNEW.out rfl
        have hne : gs ≠ gm := by have := HGM.out; omega
        have st1 := Chg.setCell Wq ⟨gs, c * 256 + x, none⟩ (.bool true)
        have t1 := hT.set (c * 256 + x) true
        have i1 := hI.kept st1 (by simp; omega)
        have c1 := hcg.trans st1 (S := fun _ => False) (fun q hq hh => by have := HGS.out; simp at hh; omega)
        have a1 := i1.cell c (by rw [HMS.out.1]; omega)
        have f1 := i1.free c
        rw [HME.out] at a1
        have st2 := Chg.setCell (Wq.setCell ⟨gs, c * 256 + x, none⟩ (.bool true)) ⟨gm, c, none⟩ (.int .i64 (m + 1))
        have i2 := i1.set c (m + 1)
        have t2 := t1.kept st2 (by simp; omega)
        have c2 := c1.trans st2 (S := fun _ => False) (fun q hq hh => by have := HGS.out; have := HGM.out; simp at hh; omega)
        have a2 := i2.cell c (by rw [List.length_set, HMS.out.1]; omega)
        rw [set_getD _ _ _ _ (by rw [HMS.out.1]; omega), if_pos rfl] at a2
        have HS2 := Lib.hid hs2; have HM2 := Lib.hid hm2; have HW2 := Lib.hid hw2; have HT := Lib.hid t2; have HI := Lib.hid i2; have HCG := Lib.hid c2
        clear hs2 hm2 hw2 hT hI hcg HOLD HNEW st1 t1 i1 c1 st2 i2 t2 c2 hne
        obtain ⟨hm0, hm1⟩ := hmb
        by_cases hzm : (z : Int) < m + 1
        · go_wp2
          go_roundw
          case rel => exact ⟨k + 1, by omega, by go_num, by rw [HW2.out]; simp; omega, ⟨_, _, HS2.out, HM2.out, HT.out, HI.out⟩, HCG.out⟩
          case measure => simp [intOf]; omega
        · go_wp2
          go_roundw
          case rel => exact ⟨k + 1, by omega, by go_num, by rw [HW2.out]; simp; omega, ⟨_, _, HS2.out, HM2.out, HT.out, HI.out⟩, HCG.out⟩
          case measure => simp [intOf]; omega
    · obtain rfl : k = xs.length := by omega
      rw [List.take_length]
      go_wp2
      go_ret
      exact ⟨rfl, hcg⟩

end Go.Proofs.Ythghlfghdmifoaa

/- What model's Zero and First tell. THIS SPEAKS OF THE PROGRAM'S OWN TEXT. -/
namespace Go.Proofs.Ythghlfghdmifoaa
open Go.RowKit

theorem Try.entersF1 (args : Array Value) (w : World) : (callFunc 31 args).run Try.prog w = .ok (.enter 31 args) w := by kernel_rfl
theorem Try.entersZ1 (args : Array Value) (w : World) : (callFunc 28 args).run Try.prog w = .ok (.enter 28 args) w := by kernel_rfl
set_option maxRecDepth 100000 in
theorem makeOne : ∃ Z : Array Value, Z.toList = List.replicate 1 (.slice none 0 0) ∧ ∀ W : World, (Instr.makeSlice 24 (.int .i64 ((1 : Nat) : Int)) (.int .i64 ((1 : Nat) : Int))).run Try.prog W = .ok (.slice (some ⟨W.heap.size, 0, none⟩) 1 1) (W.alloc (.cells Z 35)) := ⟨#[.slice none 0 0], rfl, fun W => by kernel_rfl⟩

/-- the closure: the bytes of a context, out of the array -/
theorem mfirst1_any (c B : Nat) (vs : List Value) (ys : List Nat) (w : World) (hB : w.heap[B]? = some (.cells vs.toArray 49 (0, 0))) (hl : vs.length = 256) (hc : c < 256) (h : RdB w (vs.getD c undef) ys) :
    Calls Try.prog 31 #[.int .i64 (c : Int), .pointer (some ⟨B, 0, none⟩)] w fun e w' => ∃ u, e = .returned u ∧ RdB w' u ys ∧ Chg (fun _ => False) w w' := by
  have a1 : w.cell? ⟨B, c, none⟩ = some (vs.getD c undef) := by
    rw [cell_of_row w B c _ _ _ hB, List.getElem?_toArray, List.getElem?_eq_getElem (by omega), List.getD_eq_getElem?_getD, List.getElem?_eq_getElem (by omega)]; rfl
  obtain ⟨ao, cap, he⟩ := h.form
  have H := Lib.hid h
  rw [he] at a1 H
  have hcI : (c : Int) < 256 := by omega
  clear h hB hl he
  go_enter Try.func31, Try.ntmps31
  go_wp2
  go_ret
  exact ⟨_, rfl, H.out, Chg.refl _ _⟩

/-- the closure: all the bytes -/
theorem mzero1_any (c B : Nat) (v : Value) (ys : List Nat) (w : World) (hB : Bx w B 22 v) (h : RdB w v ys) :
    Calls Try.prog 28 #[.int .i64 (c : Int), .pointer (some ⟨B, 0, none⟩)] w fun e w' => ∃ u, e = .returned u ∧ RdB w' u ys ∧ Chg (fun _ => False) w w' := by
  obtain ⟨ao, cap, rfl⟩ := h.form
  have a1 := hB.cell
  have H := Lib.hid h
  clear hB h
  go_enter Try.func28, Try.ntmps28
  go_wp2
  go_ret
  exact ⟨_, rfl, H.out, Chg.refl _ _⟩

theorem sel_ctxL (xs : List Nat) (r : Int) (c : Nat) : (if sel xs (c : Int) = [] then ([] : List Int) else normR (cnt (sel xs (c : Int))) r) = ctxL xs r c := by
  unfold ctxL
  by_cases h : sel xs (c : Int) = []
  · rw [if_pos h, if_neg (by rw [h]; simp)]
  · rw [if_neg h, if_pos (List.length_pos_iff.2 h)]

set_option maxRecDepth 100000 in
set_option maxHeartbeats 4000000 in
theorem mfirst_any (v : Value) (xs : List Nat) (w : World) (h : RdB w v xs) (hx : ∀ x ∈ xs, x < 256) (hl : xs.length < 1000000) (_hr : RoomOk v) :
    Calls Try.prog 10 #[v] w fun e w' => ∃ u, e = .returned (.tuple #[u, .int .i64 (if xs = [] then 1 else 0)]) ∧ RdMF w.heap.size w' u (if xs = [] then md0 else firstM xs) ∧ Chg (fun _ => False) w w' := by
  obtain ⟨ao, cap, rfl⟩ := h.form
  have hmf : ∀ (fn : Fn) (first cap : Array Value) (w : World), (Instr.makeFunc fn first cap).run Try.prog w = .ok (.func fn first cap) w := fun _ _ _ _ => rfl
  have hzm := zeroModel
  have ca := Chg.alloc (fun _ => False) w (.cells #[.int .i64 0, .bool false, .slice none 0 0] 26)
  have hm : Mb _ _ 0 false (.slice none 0 0) := heap_alloc_new w (.cells #[.int .i64 0, .bool false, .slice none 0 0] 26)
  obtain ⟨W1, hW1⟩ : ∃ W, w.alloc (.cells #[.int .i64 0, .bool false, .slice none 0 0] 26) = W := ⟨_, rfl⟩
  rw [hW1] at ca hm
  obtain ⟨z0, z1, z2⟩ := hm.cells
  have HCA := Lib.hid ca; have HM := Lib.hid hm
  by_cases h0 : xs = []
  · rw [if_pos h0, if_pos h0]
    have hlen : xs.length = 0 := by rw [h0]; rfl
    rw [hlen]
    have f0 := frozen_of_row _ _ 0 _ _ hm
    have f1 := frozen_of_row _ _ 1 _ _ hm
    have f2 := frozen_of_row _ _ 2 _ _ hm
    obtain ⟨y0, y1, y2, y3⟩ := W3_cells hm 0 false (.slice none 0 0)
    have HFF := Lib.hid (ca.trans (W3_chg W1 w.heap.size 0 false (.slice none 0 0)) fun k hk he => by omega)
    unfold W3 at y2 y3 HFF
    clear h0 hlen h hm ca
    go_enter Try.func10, Try.ntmps10
    go_wp2
    refine bodyPost_ret (v := .tuple #[.agg #[.int .i64 0, .bool false, .slice none 0 0], .int .i64 1]) (by simp [results, Try.results10, go_sem, y0, y1, y2]; try rfl) rfl ?_
    exact ⟨_, rfl, fun _ _ _ _ => ⟨.slice none 0 0, rfl, RdLL.nil _ _ _⟩, HFF.out⟩
  · rw [if_neg h0, if_neg h0]
    have hpos : 0 < xs.length := List.length_pos_iff.2 h0
    have HX := Lib.hid hx; have HL := Lib.hid hl; have H := Lib.hid h
    have HWI := Lib.hid fun W (hW : RdB W (.slice ao xs.length cap) xs) => xwidest_any _ xs W hW hx hl
    have HAP := Lib.hid fun W (hW : RdB W (.slice ao xs.length cap) xs) => mapart_any _ xs W hW hx (by omega)
    have hwl := wid_le xs 256
    have hR1 := firstLog_bounds xs hx (by omega) hpos
    have hFL : firstLog xs = pickI (xs.length : Int) ((widest xs : Nat) : Int) 9 := rfl
    have HOK := Lib.hid fun (c : Nat) (hc : c < 256) (hs : sel xs (c : Int) ≠ []) => first_ok xs hx (by omega) c hc (List.length_pos_iff.2 hs)
    have hwe : widest xs ≤ 256 := hwl
    obtain ⟨M, hM⟩ : ∃ M, widest xs = M := ⟨_, rfl⟩
    obtain ⟨n, hn⟩ : ∃ n, xs.length = n := ⟨_, rfl⟩
    obtain ⟨R, hR⟩ : ∃ R, firstLog xs = R := ⟨_, rfl⟩
    rw [hR] at hFL hR1 HOK
    rw [hM] at hFL HWI hwe
    rw [hn] at hFL HWI HAP H hpos hl ⊢
    have hnI : (n : Int) < 1000000 := by omega
    have hMI : (M : Int) ≤ 256 := by omega
    have HPK := Lib.hid fun W => lpick_any (n : Int) (M : Int) 9 W (by omega) (by omega) (by omega) (by omega) (by omega) (by omega)
    rw [← hFL] at HPK
    have HR := Lib.hid hR; have HN := Lib.hid hn
    have hn0 : ((n : Int) == 0) = false := by simp; omega
    have hnz : ¬ n = 0 := by omega
    obtain ⟨Z, hZ, hzero⟩ := zeroApart
    have HZ := Lib.hid hZ
    obtain ⟨G0, hG0⟩ : ∃ G0, w.heap.size = G0 := ⟨_, rfl⟩
    have HG0 := Lib.hid hG0
    rw [hG0] at z0 z1 z2 HM ⊢
    clear hn hR hM hFL h0 hwl hwe h hx hl ca hm hZ
    go_enter Try.func10, Try.ntmps10
    go_wp2_with fail
    refine (HWI.out _ (H.out.kept HCA.out (by simp))).mono ?_
    rintro e w3 ⟨rfl, hc3⟩
    have C3 := Lib.hid hc3
    clear hc3
    go_wp2_with fail
    refine (HPK.out _).mono ?_
    rintro e w4 ⟨rfl, hc4⟩
    have C4 := Lib.hid (C3.out.trans hc4 fun _ _ h => h)
    clear hc4 z0 z1 z2 hW1
    obtain ⟨G4, hG4⟩ : ∃ G4, w4.heap.size = G4 := ⟨_, rfl⟩
    have HG4 := Lib.hid hG4
    go_upto_region 4 with fail
    have cb := Chg.alloc (fun _ => False) w4 (.cells #[.int .i64 R, .bool false, .slice none 0 0] 26)
    have mb : Mb _ _ R false (.slice none 0 0) := heap_alloc_new w4 (.cells #[.int .i64 R, .bool false, .slice none 0 0] 26)
    obtain ⟨W5, hW5⟩ : ∃ W, w4.alloc (.cells #[.int .i64 R, .bool false, .slice none 0 0] 26) = W := ⟨_, rfl⟩
    rw [hW5] at cb mb ⊢
    have C5 := Lib.hid (C4.out.trans cb fun _ _ h => h); have MB := Lib.hid mb
    clear cb mb hW5 hG4
    go_wp2_with fail
    refine (HAP.out _ (H.out.kept (HCA.out.trans C5.out fun _ _ h => h) (by simp))).mono ?_
    rintro e w6 ⟨vs, rfl, hvl, hvr, hc6⟩
    have hi : (Try.prog.info? 49).map (·.size) = some vs.toArray.size := by rw [List.size_toArray, hvl]; exact infoApart
    have hiz : Z.toArray.size = vs.toArray.size := by rw [List.size_toArray, List.size_toArray, hvl, HZ.out, List.length_replicate]
    have h1 : vs.toArray.all (·.oneCell') = true := by
      rw [Array.all_eq_true_iff_forall_mem]
      intro v hv
      obtain ⟨c, hc, rfl⟩ := List.mem_iff_getElem.1 (by simpa using hv : v ∈ vs)
      have := (hvr c (by omega)).cells1
      rwa [List.getD_eq_getElem?_getD, List.getElem?_eq_getElem hc] at this
    have D6 := Lib.hid hc6; have HI := Lib.hid hi; have HIZ := Lib.hid hiz; have H1 := Lib.hid h1; have HVL := Lib.hid hvl; have HVR := Lib.hid hvr
    clear hc6 hi hiz h1 hvl hvr
    go_upto_region 5 with (refine wpList_store_row rfl 49 _ _ rfl w6.heap.size _ rfl rfl _ _ (heap_alloc_new w6 (.cells Z.toArray 49)) HI.out HIZ.out H1.out ?_)
    have cd := Chg.alloc (fun _ => False) w6 (.cells Z.toArray 49)
    have ce := Chg.setRow (w6.alloc (.cells Z.toArray 49)) w6.heap.size vs.toArray
    have hrow := setRow_heap (w6.alloc (.cells Z.toArray 49)) w6.heap.size Z.toArray vs.toArray _ _ (heap_alloc_new w6 (.cells Z.toArray 49))
    obtain ⟨W8, hW8⟩ : ∃ W, (w6.alloc (.cells Z.toArray 49)).setRow w6.heap.size vs.toArray = W := ⟨_, rfl⟩
    rw [hW8] at ce hrow ⊢
    have cf := cd.trans ce (S := fun _ => False) fun k hk he => by omega
    have D8 := D6.out.trans cf fun _ _ h => h
    have mb8 := MB.out.kept D8 (by simp)
    have C8 := C5.out.trans D8 fun _ _ h => h
    obtain ⟨G6, hG6⟩ : ∃ G6, w6.heap.size = G6 := ⟨_, rfl⟩
    rw [hG6] at hrow ⊢
    rw [HG4.out] at mb8
    obtain ⟨x0, x1, x2⟩ := mb8.cells
    have LI := Lib.hid (mlisted_any 256 R false 31 (.pointer (some ⟨G6, 0, none⟩)) (fun c => sel xs (c : Int)) W8 rfl (by omega) makeLists Try.entersF1
      (fun c _ => sel_lt HX.out _) (fun c _ => Nat.lt_of_le_of_lt (sel_len xs _) (by rw [HN.out]; omega)) (fun c hc hs => HOK.out c hc hs)
      (fun W c hW hc => mfirst1_any c G6 vs _ W ((hW.block G6 (lt_of_block hrow) (by simp)).trans hrow) HVL.out hc ((HVR.out c hc).kept (cf.trans hW fun _ _ h => h) (by simp))))
    have D8 := Lib.hid C8
    have HLT := Lib.hid (show G0 < W8.heap.size from Nat.lt_of_lt_of_le HM.out.lt C8.size)
    clear mb8 C8 cf ce cd hrow hW8 hG6 D6
    go_wp2_with fail
    with_reducible refine Calls.mono LI.out ?_
    rintro e w9 ⟨u, rfl, hmd, hc9⟩
    have c9 := D8.out.trans hc9 fun _ _ h => h
    have hm9 := HM.out.kept c9 (by simp)
    have hfm : (⟨R, false, (List.range 256).map fun c : Nat => if sel xs (c : Int) = [] then [] else normR (cnt (sel xs (c : Int))) R⟩ : Md) = firstM xs := by
      unfold firstM
      rw [HR.out]
      congr 1
      exact List.map_congr_left fun c _ => sel_ctxL xs R c
    rw [hfm] at hmd
    obtain ⟨cv, hu0, hll⟩ := hmd.rd
    obtain ⟨al, cl, hcv⟩ := hll.form
    obtain ⟨nl, hnl⟩ : ∃ nl, (firstM xs).cs.length = nl := ⟨_, rfl⟩
    have hu : u = .agg #[.int .i64 R, .bool false, .slice al nl cl] := by rw [hu0, hcv, hnl, ← HR.out]; rfl
    subst hu
    have f0 := frozen_of_row _ _ 0 _ _ hm9
    have f1 := frozen_of_row _ _ 1 _ _ hm9
    have f2 := frozen_of_row _ _ 2 _ _ hm9
    obtain ⟨v0, v1, v2⟩ := hm9.cells
    obtain ⟨y0, y1, y2, y3⟩ := W3_cells hm9 R false (.slice al nl cl)
    have HMD := Lib.hid ((hmd.kept (W3_chg w9 G0 R false (.slice al nl cl)) fun k hk he => by have := HLT.out; omega).mono (B' := G0) (by have := HLT.out; omega))
    have HFF := Lib.hid ((HCA.out.trans c9 fun _ _ h => h).trans (W3_chg w9 G0 R false (.slice al nl cl)) fun k hk he => by have := HG0.out; omega)
    unfold W3 at y2 y3 HMD HFF
    clear c9 hc9 hm9 hmd hll hcv hnl hfm hu0 x0 x1 x2 LI
    go_wp2
    refine bodyPost_ret (v := .tuple #[.agg #[.int .i64 R, .bool false, .slice al nl cl], .int .i64 0]) (by simp [results, Try.results10, go_sem, y0, y1, y2]; try rfl) rfl ?_
    exact ⟨_, rfl, HMD.out, HFF.out⟩

set_option maxRecDepth 100000 in
set_option maxHeartbeats 4000000 in
theorem mzero_any (v : Value) (xs : List Nat) (w : World) (h : RdB w v xs) (hx : ∀ x ∈ xs, x < 256) (hl : xs.length ≤ 1000000) (_hr : RoomOk v) :
    Calls Try.prog 9 #[v] w fun e w' => ∃ u, e = .returned (.tuple #[u, .int .i64 (if xs = [] then 1 else 0)]) ∧ RdMF w.heap.size w' u (if xs = [] then md0 else zeroM xs) ∧ Chg (fun _ => False) w w' := by
  obtain ⟨ao, cap, rfl⟩ := h.form
  have hmf : ∀ (fn : Fn) (first cap : Array Value) (w : World), (Instr.makeFunc fn first cap).run Try.prog w = .ok (.func fn first cap) w := fun _ _ _ _ => rfl
  have hzm := zeroModel
  have cb := Chg.alloc (fun _ => False) w (.cells #[.slice ao xs.length cap] 22)
  have hb := Bx.new w 22 (.slice ao xs.length cap)
  obtain ⟨W0, hW0⟩ : ∃ W, w.alloc (.cells #[.slice ao xs.length cap] 22) = W := ⟨_, rfl⟩
  rw [hW0] at cb hb
  have hlt := hb.lt
  have ca := Chg.alloc (fun _ => False) W0 (.cells #[.int .i64 0, .bool false, .slice none 0 0] 26)
  have hm : Mb _ _ 0 false (.slice none 0 0) := heap_alloc_new W0 (.cells #[.int .i64 0, .bool false, .slice none 0 0] 26)
  obtain ⟨W1, hW1⟩ : ∃ W, W0.alloc (.cells #[.int .i64 0, .bool false, .slice none 0 0] 26) = W := ⟨_, rfl⟩
  rw [hW1] at ca hm
  have hb := hb.kept ca (by simp)
  have ca := cb.trans ca fun _ _ h => h
  have h2 := h.kept ca (by simp)
  obtain ⟨B0, hB0⟩ : ∃ B0, w.heap.size = B0 := ⟨_, rfl⟩
  obtain ⟨G0, hG0⟩ : ∃ G0, W0.heap.size = G0 := ⟨_, rfl⟩
  rw [hB0] at hb hlt
  rw [hG0] at hm hlt
  have b0 := hb.cell
  obtain ⟨z0, z1, z2⟩ := hm.cells
  have HCA := Lib.hid ca; have HM := Lib.hid hm; have HB := Lib.hid hb; have HLT0 := Lib.hid hlt; have HB0 := Lib.hid hB0
  by_cases h0 : xs = []
  · rw [if_pos h0, if_pos h0]
    have hlen : xs.length = 0 := by rw [h0]; rfl
    rw [hlen] at hW0 b0 ⊢
    have f0 := frozen_of_row _ _ 0 _ _ hm
    have f1 := frozen_of_row _ _ 1 _ _ hm
    have f2 := frozen_of_row _ _ 2 _ _ hm
    obtain ⟨y0, y1, y2, y3⟩ := W3_cells hm 0 false (.slice none 0 0)
    have HFF := Lib.hid (ca.trans (W3_chg W1 G0 0 false (.slice none 0 0)) fun k hk he => by omega)
    unfold W3 at y2 y3 HFF
    clear h0 hlen h hm ca cb hb h2 HB hlt
    go_enter Try.func9, Try.ntmps9
    go_wp2
    refine bodyPost_ret (v := .tuple #[.agg #[.int .i64 0, .bool false, .slice none 0 0], .int .i64 1]) (by simp [results, Try.results9, go_sem, y0, y1, y2]; try rfl) rfl ?_
    exact ⟨_, rfl, fun _ _ _ _ => ⟨.slice none 0 0, rfl, RdLL.nil _ _ _⟩, HFF.out⟩
  · rw [if_neg h0, if_neg h0]
    have hpos : 0 < xs.length := List.length_pos_iff.2 h0
    have HX := Lib.hid hx; have HL := Lib.hid hl; have H := Lib.hid h2
    have HOF := Lib.hid fun W (hW : RdB W (.slice ao xs.length cap) xs) => hof_any _ xs W hW hx (by omega)
    have hzk := zero_ok xs hx (by omega) hpos
    have hbd : ∀ z ∈ cnt xs, -9223372036854775808 ≤ z ∧ z ≤ 9223372036854775807 := fun z hz => by
      obtain ⟨i, hi, rfl⟩ := List.mem_iff_getElem.1 hz
      have := hzk.1.1.one i hi
      rw [List.getD_eq_getElem?_getD, List.getElem?_eq_getElem hi] at this
      simp only [Option.getD_some] at this
      omega
    have HMY := Lib.hid fun W q (hq : RdI W q (cnt xs)) => hmany_any q (cnt xs) W hq hbd (by rw [cnt_length]; omega)
    have hFL : zeroLog xs = pickI (xs.length : Int) ((manyI (cnt xs) : Nat) : Int) 11 := rfl
    have hwe := manyI_le (cnt xs)
    have HNE := Lib.hid h0
    obtain ⟨M, hM⟩ : ∃ M, manyI (cnt xs) = M := ⟨_, rfl⟩
    obtain ⟨n, hn⟩ : ∃ n, xs.length = n := ⟨_, rfl⟩
    obtain ⟨R, hR⟩ : ∃ R, zeroLog xs = R := ⟨_, rfl⟩
    rw [hR] at hFL hzk
    rw [hM] at hFL HMY hwe
    rw [hn] at hFL HOF H hpos hl hW0 b0 HB ⊢
    obtain ⟨hok, hR1⟩ := hzk
    have HOK := Lib.hid hok
    have hnI : (n : Int) ≤ 1000000 := by omega
    have hMI : (M : Int) ≤ 256 := by omega
    have HPK := Lib.hid fun W => lpick_any (n : Int) (M : Int) 11 W (by omega) (by omega) (by omega) (by omega) (by omega) (by omega)
    rw [← hFL] at HPK
    have HR := Lib.hid hR; have HN := Lib.hid hn
    have hn0 : ((n : Int) == 0) = false := by simp; omega
    have hnz : ¬ n = 0 := by omega
    clear hn hR hM hFL h0 hwe h hx hl ca hm cb hb h2 hok hlt hbd
    go_enter Try.func9, Try.ntmps9
    go_wp2_with fail
    refine (HOF.out _ H.out).mono ?_
    rintro e w3 ⟨v3, rfl, ho3, hc3⟩
    have C3 := Lib.hid hc3; have RD3 := Lib.hid ho3.rd
    clear hc3 ho3
    go_wp2_with fail
    refine (HMY.out _ _ RD3.out).mono ?_
    rintro e w4 ⟨rfl, m4, hw4⟩
    have C4 := Lib.hid (C3.out.trans (S := fun _ => False) (c := w4) (by rw [hw4]; exact (Chg.refl _ _).drewN m4) fun _ _ h => h)
    have b0 := (HB.out.kept C4.out (by simp)).cell
    clear hw4 z0 z1 z2 hW1 hW0
    go_wp2_with fail
    refine (HPK.out _).mono ?_
    rintro e w5 ⟨rfl, hc5⟩
    have C5 := Lib.hid (C4.out.trans hc5 fun _ _ h => h)
    obtain ⟨G4, hG4⟩ : ∃ G4, w5.heap.size = G4 := ⟨_, rfl⟩
    have HG4 := Lib.hid hG4
    clear hc5
    go_upto_region 5 with fail
    have cb := Chg.alloc (fun _ => False) w5 (.cells #[.int .i64 R, .bool true, .slice none 0 0] 26)
    have mb : Mb _ _ R true (.slice none 0 0) := heap_alloc_new w5 (.cells #[.int .i64 R, .bool true, .slice none 0 0] 26)
    obtain ⟨W8, hW8⟩ : ∃ W, w5.alloc (.cells #[.int .i64 R, .bool true, .slice none 0 0] 26) = W := ⟨_, rfl⟩
    rw [hW8] at cb mb ⊢
    rw [hG4] at mb
    obtain ⟨x0, x1, x2⟩ := mb.cells
    have C8 := C5.out.trans cb fun _ _ h => h
    have LI := Lib.hid (mlisted_any 1 R true 28 (.pointer (some ⟨B0, 0, none⟩)) (fun _ => xs) W8 rfl (by omega) makeOne Try.entersZ1
      (fun _ _ => HX.out) (fun _ _ => by have := HL.out; omega) (fun _ _ _ => HOK.out)
      (fun W c hW _ => mzero1_any c B0 (.slice ao n cap) xs W (HB.out.kept (C8.trans hW fun _ _ h => h) (by simp)) (H.out.kept (C8.trans hW fun _ _ h => h) (by simp))))
    have D8 := Lib.hid C8
    have HLT := Lib.hid (show G0 < W8.heap.size from Nat.lt_of_lt_of_le HM.out.lt C8.size)
    clear mb C8 cb hW8 hG4
    go_wp2_with fail
    with_reducible refine Calls.mono LI.out ?_
    rintro e w9 ⟨u, rfl, hmd, hc9⟩
    have c9 := D8.out.trans hc9 fun _ _ h => h
    have hm9 := HM.out.kept c9 (by simp)
    have hfm : (⟨R, true, (List.range 1).map fun _ : Nat => if xs = [] then [] else normR (cnt xs) R⟩ : Md) = zeroM xs := by
      unfold zeroM
      rw [HR.out, if_neg HNE.out]
      rfl
    rw [hfm] at hmd
    obtain ⟨cv, hu0, hll⟩ := hmd.rd
    obtain ⟨al, cl, hcv⟩ := hll.form
    obtain ⟨nl, hnl⟩ : ∃ nl, (zeroM xs).cs.length = nl := ⟨_, rfl⟩
    have hu : u = .agg #[.int .i64 R, .bool true, .slice al nl cl] := by rw [hu0, hcv, hnl, ← HR.out]; rfl
    subst hu
    have f0 := frozen_of_row _ _ 0 _ _ hm9
    have f1 := frozen_of_row _ _ 1 _ _ hm9
    have f2 := frozen_of_row _ _ 2 _ _ hm9
    obtain ⟨v0, v1, v2⟩ := hm9.cells
    obtain ⟨y0, y1, y2, y3⟩ := W3_cells hm9 R true (.slice al nl cl)
    have HMD := Lib.hid ((hmd.kept (W3_chg w9 G0 R true (.slice al nl cl)) fun k hk he => by have := HLT.out; omega).mono (B' := w.heap.size) (by have := HLT.out; have := HB0.out; have := HLT0.out; omega))
    have HFF := Lib.hid ((HCA.out.trans c9 fun _ _ h => h).trans (W3_chg w9 G0 R true (.slice al nl cl)) fun k hk he => by have := HB0.out; have := HLT0.out; omega)
    unfold W3 at y2 y3 HMD HFF
    clear c9 hc9 hm9 hmd hll hcv hnl hfm hu0 x0 x1 x2 LI b0
    go_wp2
    refine bodyPost_ret (v := .tuple #[.agg #[.int .i64 R, .bool true, .slice al nl cl], .int .i64 0]) (by simp [results, Try.results9, go_sem, y0, y1, y2]; try rfl) rfl ?_
    exact ⟨_, rfl, HMD.out, HFF.out⟩

end Go.Proofs.Ythghlfghdmifoaa

/- What model's Zero, First, Right, At and Fits tell: mzero_any, mfirst_any (MdProgE), mright_any (MdProgA), mat_any, mat_room, mfits_any (MdProgB). -/
namespace Go.Proofs.Ythghlfghdmifoaa
open Go.RowKit

end Go.Proofs.Ythghlfghdmifoaa

/- What puncheonlaw16.awake tells: the chapter's example holds. -/
namespace Go.Proofs.Ythghlfghdmifoaa
open Go.RowKit

theorem ex16 : zeroLog [7, 7, 7] = 5 ∧ (normR (cnt [7, 7, 7]) 5).getD 7 0 = 32 := by decide +kernel
theorem ex16lt : ∀ x ∈ [7, 7, 7], x < 256 := by decide

set_option maxHeartbeats 2000000 in
theorem awake16_any (w : World) : Calls Try.prog 8 #[] w fun e w' => e = .returned (.bool true) ∧ Chg (fun _ => False) w w' := by
  have hx := ex16lt
  have hr := zero_right [7, 7, 7] hx (by decide) (by decide)
  have hat := zero_at [7, 7, 7] hx (by decide) (by decide) 9 (by decide)
  rw [ex16.1] at hat
  have hok := (zero_ok [7, 7, 7] hx (by decide) (by decide)).1
  rw [ex16.1] at hok
  have hlen := (normR_right hok).1.1
  have hft : (zeroM [7, 7, 7]).fits [7] := (zero_fits [7, 7, 7] hx (by decide) (by decide)).take 1
  obtain ⟨Q, hQ⟩ : ∃ Q, normR (cnt [7, 7, 7]) 5 = Q := ⟨_, rfl⟩
  have h7 := ex16.2
  rw [hQ] at hat hlen h7
  have hca := Chg.alloc (fun _ => False) w (.cells #[.int .u8 7, .int .u8 7, .int .u8 7] 5)
  have hrd : RdB (w.alloc (.cells #[.int .u8 7, .int .u8 7, .int .u8 7] 5)) (.slice (some ⟨w.heap.size, 0, none⟩) 3 3) [7, 7, 7] := rdb_new w [7, 7, 7] #[.int .u8 7, .int .u8 7, .int .u8 7] 3 (0, 0) rfl rfl
  have hz := mzero_any _ [7, 7, 7] _ hrd hx (by decide) (RoomOk.of (Nat.le_refl _))
  rw [if_neg (by simp), if_neg (by simp)] at hz
  have HZ := Lib.hid hz; have HCA := Lib.hid hca; have HR := Lib.hid hr; have HAT := Lib.hid hat; have HLEN := Lib.hid hlen; have HFT := Lib.hid hft; have H7 := Lib.hid h7
  have HM := Lib.hid (show zeroM [7, 7, 7] = ⟨5, true, [Q]⟩ from by unfold zeroM; rw [ex16.1, hQ])
  clear hx hr hat hok hlen hft hQ h7 hca hrd hz
  go_enter Try.func8, Try.ntmps8
  go_wp2_with fail
  refine HZ.out.mono ?_
  rintro e w2 ⟨u, rfl, hm2, hc2⟩
  obtain ⟨cv, rfl, hl2⟩ := hm2.rd
  clear hm2
  have hcw := HCA.out.trans hc2 fun _ _ h => h
  have hfr := fun W hW => mright_any (mdv (zeroM [7, 7, 7]) cv) (zeroM [7, 7, 7]) W ⟨cv, rfl, hW⟩ HR.out.fit64
  have hfa := fun W hW => mat_any (mdv (zeroM [7, 7, 7]) cv) (zeroM [7, 7, 7]) 9 W ⟨cv, rfl, hW⟩ HR.out.fit64 (by decide)
  have hff := fun W u' hW hb => mfits_any (mdv (zeroM [7, 7, 7]) cv) u' (zeroM [7, 7, 7]) [7] W ⟨cv, rfl, hW⟩ HR.out.fit64 hb (by decide) (by decide)
  rw [decide_eq_true HR.out] at hfr
  rw [HAT.out] at hfa
  rw [decide_eq_true HFT.out] at hff
  rw [HM.out] at hfr hfa hff hl2 ⊢
  simp only [] at hfr hfa hff hl2
  rw [show mdv ⟨5, true, [Q]⟩ cv = .agg #[.int .i64 5, .bool true, cv] from rfl] at hfr hfa hff ⊢
  obtain ⟨ao, cap, rfl⟩ := hl2.form
  rw [show [Q].length = 1 from rfl] at hfr hfa hff hl2 ⊢
  have hca2 := Chg.alloc (fun _ => False) w2 (.cells #[.int .i64 5, .bool true, .slice ao 1 cap] 26)
  have hmb : Mb _ _ 5 true (.slice ao 1 cap) := heap_alloc_new w2 (.cells #[.int .i64 5, .bool true, .slice ao 1 cap] 26)
  obtain ⟨W2, hW2⟩ : ∃ W2, w2.alloc (.cells #[.int .i64 5, .bool true, .slice ao 1 cap] 26) = W2 := ⟨_, rfl⟩
  rw [hW2] at hca2 hmb
  have hl3 := hl2.kept hca2
  obtain ⟨b0, b1, b2⟩ := hmb.cells
  have HFR := Lib.hid (hfr W2 hl3); have HFA := Lib.hid hfa; have HFF := Lib.hid hff; have HMB := Lib.hid hmb; have HL3 := Lib.hid hl3; have HC3 := Lib.hid (hcw.trans hca2 fun _ _ h => h)
  clear hl2 hc2 hcw hfr hfa hff hca2 hmb hl3 HZ HCA
  go_wp2_with fail
  refine HFR.out.mono ?_
  rintro e w4 ⟨rfl, hc4⟩
  have HL4 := Lib.hid (HL3.out.kept hc4); have HMB4 := Lib.hid (HMB.out.kept hc4 (by simp)); have HC4 := Lib.hid (HC3.out.trans hc4 fun _ _ h => h)
  obtain ⟨b0, b1, b2⟩ := HMB4.out.cells
  clear hc4 HL3 HMB HC3 HFR hW2
  go_wp2_with fail
  refine (HFA.out w4 HL4.out).mono ?_
  rintro e w5 ⟨q, rfl, hq5, hc5⟩
  have HL5 := Lib.hid (HL4.out.kept hc5); have HMB5 := Lib.hid (HMB4.out.kept hc5 (by simp)); have HC5 := Lib.hid (HC4.out.trans hc5 fun _ _ h => h)
  obtain ⟨d0, d1, d2⟩ := HMB5.out.cells
  obtain ⟨aq, cq, rfl⟩ := hq5.form
  rw [HLEN.out] at hq5 ⊢
  obtain ⟨gq, oq, rfl, hqc⟩ := hq5.at 7 (by rw [HLEN.out]; omega)
  rw [H7.out] at hqc
  have hca6 := Chg.alloc (fun _ => False) w5 (.cells #[.int .u8 7] 5)
  have hrd6 : RdB (w5.alloc (.cells #[.int .u8 7] 5)) (.slice (some ⟨w5.heap.size, 0, none⟩) 1 1) [7] := rdb_new w5 [7] #[.int .u8 7] 1 (0, 0) rfl rfl
  have HFF6 := Lib.hid (HFF.out _ _ (HL5.out.kept hca6) hrd6); have HC6 := Lib.hid (HC5.out.trans hca6 fun _ _ h => h)
  clear b0 b1 b2 hc5 hq5 hca6 hrd6 HL4 HMB4 HC4 HFF HFA HL5
  go_wp2_with fail
  refine HFF6.out.mono ?_
  rintro e w7 ⟨rfl, hc7⟩
  have HC7 := Lib.hid (HC6.out.trans hc7 fun _ _ h => h)
  clear hc7
  go_wp2
  go_ret
  exact ⟨rfl, HC7.out⟩

end Go.Proofs.Ythghlfghdmifoaa

/- Opening a []byte argument with what is known of its room. -/
namespace Go.Proofs.Ythghlfghdmifoaa
open Go.ChangeShapes Go.WideShapes Go.ChangeAt Go.RowKit Go.Deep

theorem open_bytesC {H : Type} {enc : TypeId × Value → H} {W : World} {base : Nat} {spare : Nat → Bool} {held : Bool} {a : Option Addr} {len cap : Nat} {d : DataW H} {p : List MemPlace}
    (h : DataW.Trod enc Try.prog W base spare held 22 (.slice a len cap) d p) : ∃ xs, (RdB W (.slice a len cap) xs ∧ ∀ x ∈ xs, x < 256) ∧ len ≤ cap ∧ cap ≤ maxLen := by
  obtain ⟨xs, hxs⟩ := open_bytes h
  refine ⟨xs, hxs, ?_⟩
  obtain ⟨fuel, hf⟩ := h
  rcases open_ints Try.underlying22 Try.underlying5 cellsU8 hf with ⟨hcs, _⟩ | ⟨x, l, c, zs, hcs, _, hl, hm, _⟩
  · simp [Value.cells] at hcs
    obtain ⟨rfl, rfl, rfl⟩ := hcs
    exact ⟨Nat.le_refl _, by unfold maxLen; omega⟩
  · simp [Value.cells] at hcs
    obtain ⟨rfl, rfl, rfl⟩ := hcs
    exact ⟨hl, hm⟩

end Go.Proofs.Ythghlfghdmifoaa

/- An argument of type []int, opened. -/
namespace Go.Proofs.Ythghlfghdmifoaa
open Go.ChangeShapes Go.WideShapes Go.ChangeAt Go.RowKit Go.Deep

theorem open_ints64 {H : Type} {enc : TypeId × Value → H} {W : World} {base : Nat} {spare : Nat → Bool} {held : Bool} {a : Option Addr} {len cap : Nat} {d : DataW H} {p : List MemPlace}
    (h : DataW.Trod enc Try.prog W base spare held 35 (.slice a len cap) d p) : ∃ zs, RdI W (.slice a len cap) zs ∧ ∀ z ∈ zs, -9223372036854775808 ≤ z ∧ z ≤ 9223372036854775807 := by
  obtain ⟨fuel, hf⟩ := h
  rcases open_ints Try.underlying35 Try.underlying3 cellsInt hf with ⟨hcs, _⟩ | ⟨x, l, c, zs, hcs, _, hl, _, hz, _, hcell, hwz⟩
  · simp [Value.cells] at hcs
    obtain ⟨rfl, rfl, rfl⟩ := hcs
    exact ⟨[], .inl ⟨rfl, none, 0, rfl⟩, by simp⟩
  · simp [Value.cells] at hcs
    obtain ⟨rfl, rfl, rfl⟩ := hcs
    have hlen : len ≤ zs.length := by rw [hz]; split <;> omega
    refine ⟨zs.take len, ?_, fun z hz' => by have := bounds_i64 (hwz z (List.mem_of_mem_take hz')); omega⟩
    by_cases h0 : len = 0
    · subst h0
      exact .inl ⟨by simp, some x, cap, rfl⟩
    · obtain ⟨g, off, rfl⟩ := spot_none (hcell 0 (by omega))
      refine .inr ⟨g, off, cap, by simp; omega, fun j hj => ?_⟩
      have hj' : j < len := by simp at hj; omega
      have hc := hcell j (by omega)
      rw [add_lit] at hc
      rw [hc]
      simp [hj']

/-- the same, with how long it can be -/
theorem open_ints64L {H : Type} {enc : TypeId × Value → H} {W : World} {base : Nat} {spare : Nat → Bool} {held : Bool} {a : Option Addr} {len cap : Nat} {d : DataW H} {p : List MemPlace}
    (h : DataW.Trod enc Try.prog W base spare held 35 (.slice a len cap) d p) : ∃ zs, RdI W (.slice a len cap) zs ∧ (∀ z ∈ zs, -9223372036854775808 ≤ z ∧ z ≤ 9223372036854775807) ∧ zs.length ≤ 9223372036854775807 := by
  obtain ⟨zs, h1, h2⟩ := open_ints64 h
  refine ⟨zs, h1, h2, ?_⟩
  have hz : zs.length = len := by
    rcases h1 with ⟨rfl, ao, c, he⟩ | ⟨g, off, c, he, _⟩
    · simp only [Value.slice.injEq] at he; simp [he.2.1]
    · simp only [Value.slice.injEq] at he; exact he.2.1.symm
  obtain ⟨fuel, hf⟩ := h
  rcases open_ints Try.underlying35 Try.underlying3 cellsInt hf with ⟨hcs, _⟩ | ⟨x, l, c, ys, hcs, _, hl, hm, _⟩
  · simp [Value.cells] at hcs
    obtain ⟨rfl, rfl, rfl⟩ := hcs
    omega
  · simp [Value.cells] at hcs
    obtain ⟨rfl, rfl, rfl⟩ := hcs
    unfold maxLen at hm
    omega

end Go.Proofs.Ythghlfghdmifoaa

/- An argument of type []int, opened, with what is known of its room; a list of ints cut from the left. -/
namespace Go.Proofs.Ythghlfghdmifoaa
open Go.ChangeShapes Go.WideShapes Go.ChangeAt Go.RowKit Go.Deep

theorem open_ints64C {H : Type} {enc : TypeId × Value → H} {W : World} {base : Nat} {spare : Nat → Bool} {held : Bool} {a : Option Addr} {len cap : Nat} {d : DataW H} {p : List MemPlace}
    (h : DataW.Trod enc Try.prog W base spare held 35 (.slice a len cap) d p) : ∃ zs, (RdI W (.slice a len cap) zs ∧ (∀ z ∈ zs, -9223372036854775808 ≤ z ∧ z ≤ 9223372036854775807) ∧ zs.length ≤ 9223372036854775807) ∧ len ≤ cap ∧ cap ≤ maxLen := by
  obtain ⟨zs, hzs⟩ := open_ints64L h
  refine ⟨zs, hzs, ?_⟩
  obtain ⟨fuel, hf⟩ := h
  rcases open_ints Try.underlying35 Try.underlying3 cellsInt hf with ⟨hcs, _⟩ | ⟨x, l, c, ys, hcs, _, hl, hm, _⟩
  · simp [Value.cells] at hcs
    obtain ⟨rfl, rfl, rfl⟩ := hcs
    exact ⟨Nat.le_refl _, by unfold maxLen; omega⟩
  · simp [Value.cells] at hcs
    obtain ⟨rfl, rfl, rfl⟩ := hcs
    exact ⟨hl, hm⟩

theorem islice_l {w : World} {ao : Option Addr} {cap q : Nat} {zs : List Int} (h : RdI w (.slice ao zs.length cap) zs) (hq : q ≤ zs.length) (hcap : zs.length ≤ cap) :
    ∃ ao2 c2, (∀ W : World, (Instr.slice 35 (.slice ao zs.length cap) (some (.int .i64 (q : Int))) none none).run Try.prog W = .ok (.slice ao2 (zs.length - q) c2) W) ∧ zs.length - q ≤ c2 ∧ RdI w (.slice ao2 (zs.length - q) c2) (zs.drop q) := by
  refine ⟨if cap = q then ao else ao.map (·.add q), cap - q, fun W => ?_, by omega, ?_⟩
  · have hs : (sizeOf (Try.prog.elem 35)).run Try.prog W = .ok 1 W := by kernel_rfl
    rw [run_slice_l W 35 ao zs.length cap (by kernel_rfl) .i64 (q : Int) (by omega) (by omega), hs]
    simp [Result.andThen, sliced]
  · by_cases hz : q = zs.length
    · exact .inl ⟨by rw [hz, List.drop_length], _, _, by rw [hz, Nat.sub_self]⟩
    · rw [if_neg (by omega)]
      rcases h with ⟨hn, _⟩ | ⟨g, off, c, he, hcell⟩
      · rw [hn] at hz hq; simp at hq; exact absurd hq (by simpa using hz)
      · simp only [Value.slice.injEq] at he
        obtain ⟨rfl, -, -⟩ := he
        refine .inr ⟨g, off + q, cap - q, by rw [List.length_drop]; simp [Addr.add], fun j hj => ?_⟩
        rw [List.length_drop] at hj
        have := hcell (q + j) (by omega)
        rw [← Nat.add_assoc] at this
        rw [this, List.getD_eq_getElem?_getD, List.getD_eq_getElem?_getD, List.getElem?_drop]

end Go.Proofs.Ythghlfghdmifoaa

/- What puncheonref16.Few tells of any model. -/
namespace Go.Proofs.Ythghlfghdmifoaa
open Go.RowKit

/-- lengths that a machine has -/
def Md.wide (m : Md) : Prop := m.cs.length ≤ 9223372036854775807 ∧ ∀ l ∈ m.cs, l.length ≤ 9223372036854775807

set_option maxHeartbeats 2000000 in
theorem r16few_wide (v : Value) (m : Md) (w : World) (h : RdM w v m) (hf : m.wide) : Calls Try.prog 14 #[v] w fun e w' => e = .returned (.bool (decide (fewL m.cs))) ∧ Chg (fun _ => False) w w' := by
  obtain ⟨cv, rfl, h1⟩ := h
  obtain ⟨log, one, cs⟩ := m
  have hf2 := hf
  unfold Md.wide at hf2
  simp only [] at h1 hf2 ⊢
  obtain ⟨D, hD⟩ : ∃ D, decide (fewL cs) = D := ⟨_, rfl⟩
  rw [hD]
  have HD := Lib.hid hD
  obtain ⟨ao, cap, rfl⟩ := h1.form
  have hca := Chg.alloc (fun _ => False) w (.cells #[.int .i64 log, .bool one, .slice ao cs.length cap] 26)
  have hnew : Mb _ _ log one (.slice ao cs.length cap) := heap_alloc_new w (.cells #[.int .i64 log, .bool one, .slice ao cs.length cap] 26)
  have hl := h1.kept hca
  obtain ⟨n, hn⟩ : ∃ n, cs.length = n := ⟨_, rfl⟩
  unfold mdv
  simp only []
  have hnb : (n : Int) ≤ 9223372036854775807 := by have := hf2.1; omega
  rw [hn] at hca hnew hl ⊢
  obtain ⟨W, hW⟩ : ∃ W, w.alloc (.cells #[.int .i64 log, .bool one, .slice ao n cap] 26) = W := ⟨_, rfl⟩
  rw [hW] at hca hnew hl
  obtain ⟨b0, b1, b2⟩ := hnew.cells
  have HCA := Lib.hid hca; have HL := Lib.hid hl; have HN := Lib.hid hn; have HF := Lib.hid hf
  clear h1 hf hf2 hca hnew hl hn hD
  go_enter Try.func14, Try.ntmps14
  go_wp2
  go_loopw [3, 4] (fun o3 o4 wr => ∃ k : Nat, k ≤ n ∧ o4 = .int .i64 (k : Int) ∧ o3 = .int .i64 ((nzL (cs.take k) : Nat) : Int) ∧ (∀ j, j < k → (cs.getD j []).length ≤ 300) ∧ wr = W) (fun _ o4 _ => n - (intOf o4).toNat)
  case atStart => exact ⟨0, Nat.zero_le _, rfl, rfl, fun j hj => by omega, rfl⟩
  case round =>
    obtain ⟨k, hk, rfl, rfl, hok, rfl⟩ := hrel
    have HOK := Lib.hid hok
    clear hok
    by_cases hlt : k < n
    · obtain ⟨g, off, u, rfl, hu1, hu2⟩ := HL.out.at k (by rw [HN.out]; exact hlt)
      have hfa : (cs.getD k []).length ≤ 9223372036854775807 := HF.out.2 _ (by show cs.getD k [] ∈ cs; rw [List.getD_eq_getElem?_getD, List.getElem?_eq_getElem (by rw [HN.out]; exact hlt)]; exact List.getElem_mem _)
      have hst := nzL_take cs k (by rw [HN.out]; exact hlt)
      have hzb := nzL_le (cs.take k)
      rw [List.length_take, HN.out] at hzb
      obtain ⟨au, cu, rfl⟩ := hu2.form
      obtain ⟨nu, hnu⟩ : ∃ nu, (cs.getD k []).length = nu := ⟨_, rfl⟩
      rw [hnu] at hu1 hst hfa
      obtain ⟨z, hz⟩ : ∃ z, nzL (cs.take k) = z := ⟨_, rfl⟩
      rw [hz] at hst hzb ⊢
      have HNU := Lib.hid hnu; have HST := Lib.hid hst
      have hkn : (k : Int) < (n : Int) := by omega
      have hnub : (nu : Int) ≤ 9223372036854775807 := by omega
      have hzI : (z : Int) < 9223372036854775807 := by omega
      clear hfa hnu hst hzb hz hu2
      by_cases hbig : 300 < nu
      · have hD1 : D = false := by rw [← HD.out]; exact decide_eq_false fun hh => by have := hh.1 k (by rw [HN.out]; exact hlt); rw [HNU.out] at this; omega
        subst hD1
        have d1 : decide (300 < (nu : Int)) = true := decide_eq_true (by omega)
        clear hbig
        go_wp2
        go_ret
        exact ⟨rfl, HCA.out⟩
      · have d1 : decide (300 < (nu : Int)) = false := decide_eq_false (by omega)
        have hok2 : ∀ j, j < k + 1 → (cs.getD j []).length ≤ 300 := fun j hj => by
          by_cases hjk : j = k
          · subst hjk; rw [HNU.out]; omega
          · exact HOK.out j (by omega)
        have HOK2 := Lib.hid hok2
        clear hbig hok2
        by_cases hz0 : 0 < nu
        · have d2 : decide (0 < (nu : Int)) = true := decide_eq_true (by omega)
          have hst := HST.out
          rw [if_pos hz0] at hst
          have HST2 := Lib.hid hst
          clear hst
          go_wp2
          go_roundw
          case rel => exact ⟨k + 1, by omega, by go_num, by rw [HST2.out]; go_num, HOK2.out, trivial⟩
          case measure => simp [intOf]; omega
        · have hn0 : nu = 0 := by omega
          subst hn0
          have hst := HST.out
          rw [if_neg hz0, Nat.add_zero] at hst
          have HST2 := Lib.hid hst
          clear hst hz0 d1
          go_wp2
          go_roundw
          case rel => exact ⟨k + 1, by omega, by go_num, by rw [HST2.out]; rfl, HOK2.out, trivial⟩
          case measure => simp [intOf]; omega
    · obtain rfl : k = n := by omega
      rw [List.take_of_length_le (by rw [HN.out]; exact Nat.le_refl _)]
      have hzb := nzL_le cs
      rw [HN.out] at hzb
      have hDe : D = decide (k ≤ 300 ∧ nzL cs ≤ 40) := by
        rw [← HD.out]
        exact decide_eq_decide.2 ⟨fun hh => by have := hh.2; rw [HN.out] at this; exact this, fun hh => ⟨by rw [HN.out]; exact HOK.out, by rw [HN.out]; exact hh⟩⟩
      obtain ⟨z, hz⟩ : ∃ z, nzL cs = z := ⟨_, rfl⟩
      rw [hz] at hDe hzb ⊢
      have hzI : (z : Int) ≤ 9223372036854775807 := by omega
      clear hlt hk hz hzb
      by_cases h3 : k ≤ 300
      · have d1 : decide ((k : Int) ≤ 300) = true := decide_eq_true (by omega)
        by_cases h4 : z ≤ 40
        · rw [decide_eq_true ⟨h3, h4⟩] at hDe
          subst hDe
          have d2 : decide ((z : Int) ≤ 40) = true := decide_eq_true (by omega)
          clear h3 h4
          go_wp2
          go_ret
          exact ⟨rfl, HCA.out⟩
        · rw [decide_eq_false (fun hh => h4 hh.2)] at hDe
          subst hDe
          have d2 : decide ((z : Int) ≤ 40) = false := decide_eq_false (by omega)
          clear h3 h4
          go_wp2
          go_ret
          exact ⟨rfl, HCA.out⟩
      · have d1 : decide ((k : Int) ≤ 300) = false := decide_eq_false (by omega)
        rw [decide_eq_false (fun hh => h3 hh.1)] at hDe
        subst hDe
        clear h3
        go_wp2
        go_ret
        exact ⟨rfl, HCA.out⟩

end Go.Proofs.Ythghlfghdmifoaa

/- An argument that is a model (api.Model), opened. -/
namespace Go.Proofs.Ythghlfghdmifoaa
open Go.Joins Go.ChangeShapes Go.WideShapes Go.ChangeAt Go.RowKit Go.Deep

theorem open_ints_raw {H : Type} {enc : TypeId × Value → H} {W : World} {base : Nat} {spare : Nat → Bool} {held : Bool} {v : Value} {x : DataW H × List MemPlace} {fuel : Nat}
    (h : DataW.trod enc Try.prog W base spare held fuel 35 [v] = some x) : ∃ zs, RdIr W v zs ∧ (∀ z ∈ zs, -9223372036854775808 ≤ z ∧ z ≤ 9223372036854775807) ∧ zs.length ≤ 9223372036854775807 := by
  have key : ∀ a len cap, v = .slice a len cap → ∃ zs, RdIr W v zs ∧ (∀ z ∈ zs, -9223372036854775808 ≤ z ∧ z ≤ 9223372036854775807) ∧ zs.length ≤ 9223372036854775807 := by
    intro a len cap he
    subst he
    obtain ⟨zs, hz, hr, -⟩ := open_ints64C (d := x.1) (p := x.2) ⟨fuel, by simpa [Value.cells] using h⟩
    exact ⟨zs, ⟨hz.1, .of hr⟩, hz.2⟩
  rcases open_ints Try.underlying35 Try.underlying3 cellsInt h with ⟨hcs, _⟩ | ⟨a, l, c, ys, hcs, _⟩
  · simp at hcs
    exact key _ _ _ hcs
  · simp at hcs
    exact key _ _ _ hcs

theorem open_model {H : Type} {enc : TypeId × Value → H} {W : World} {r : Reach} {b0 base : Nat} {spare : Nat → Bool} {held : Bool} {v : Value} {d : DataW H} {p : List MemPlace}
    (hv : Value.okWide Try.prog W r b0 26 v) (h : DataW.Trod enc Try.prog W base spare held 26 v d p) :
    ∃ m : Md, RdM W v m ∧ (-9223372036854775808 ≤ m.log ∧ m.log ≤ 9223372036854775807) ∧ m.wide ∧ ∀ l ∈ m.cs, ∀ z ∈ l, -9223372036854775808 ≤ z ∧ z ≤ 9223372036854775807 := by
  obtain ⟨c0, c1, c2, y0, y1, y2, n, rfl, rfl, rfl, hy0, hy1, hy2⟩ := open_agg3 Try.underlying26 (by kernel_rfl) (by kernel_rfl) hv h
  obtain ⟨log, e0, rfl, wx⟩ := DataW.trod_int Try.underlying3 hy0
  obtain ⟨one, e1, rfl⟩ := DataW.trod_bool Try.underlying4 hy1
  simp at e0 e1
  subst e0 e1
  rcases open_slice1 Try.underlying24 (by kernel_rfl) hy2 with ⟨hcs, _⟩ | ⟨a, len, cap, m, n', V, D, Pl, hcs, _, hlc, hcm, hm, _, hx⟩
  · simp at hcs
    subst hcs
    exact ⟨⟨log, one, []⟩, ⟨_, rfl, .inl ⟨rfl, none, 0, rfl⟩⟩, bounds_i64 wx, ⟨by simp, fun l hl => by simp at hl⟩, fun l hl => by simp at hl⟩
  · simp at hcs
    subst hcs
    have hlm : len ≤ m := by rw [hm]; split <;> omega
    have hmx : maxLen = 9223372036854775807 := rfl
    obtain ⟨f, hf⟩ := choose_lt (α := List Int) (p := fun i zs => RdIr W (V i) zs ∧ (∀ z ∈ zs, -9223372036854775808 ≤ z ∧ z ≤ 9223372036854775807) ∧ zs.length ≤ 9223372036854775807) (n := len) (fun i hi => open_ints_raw (hx i (by omega)).2)
    have hget : ∀ j, j < len → ((List.range len).map f).getD j [] = f j := fun j hj => by simp [List.getD_eq_getElem?_getD, hj]
    refine ⟨⟨log, one, (List.range len).map f⟩, ⟨_, rfl, ?_⟩, bounds_i64 wx, ⟨by simp; omega, fun l hl => ?_⟩, fun l hl => ?_⟩
    · by_cases h0 : len = 0
      · subst h0
        exact .inl ⟨by simp, some a, cap, rfl⟩
      · obtain ⟨g, off, rfl⟩ := spot_none (by have := (hx 0 (by omega)).1; exact this)
        refine .inr ⟨g, off, cap, by simp, fun j hj => ?_⟩
        simp at hj
        have hc := (hx j (by omega)).1
        rw [add_lit] at hc
        exact ⟨V j, hc, by show RdIr W (V j) (((List.range len).map f).getD j []); rw [hget j hj]; exact (hf j hj).1⟩
    · simp only [List.mem_map, List.mem_range] at hl
      obtain ⟨j, hj, rfl⟩ := hl
      exact (hf j hj).2.2
    · simp only [List.mem_map, List.mem_range] at hl
      obtain ⟨j, hj, rfl⟩ := hl
      exact (hf j hj).2.1

end Go.Proofs.Ythghlfghdmifoaa
