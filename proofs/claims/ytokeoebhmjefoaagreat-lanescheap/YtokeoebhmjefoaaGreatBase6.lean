/- Texts that other texts of this claim rest on, one behind the other (MdRefE MdOff MdOf). -/
import Derived.Test.YtokeoebhmjefoaaGreatBase5
import Derived.Deep.CutRange
/- What the document's own model (puncheonref16) tells: First. -/
namespace Go.Proofs.YtokeoebhmjefoaaGreat
open Go.RowKit

set_option maxRecDepth 100000 in
theorem makeLists : ∃ Z : Array Value, Z.toList = List.replicate 256 (.slice none 0 0) ∧ ∀ W : World, (Instr.makeSlice 24 (.int .i64 256) (.int .i64 256)).run Tryz.prog W = .ok (.slice (some ⟨W.heap.size, 0, none⟩) 256 256) (W.alloc (.cells Z 34)) := ⟨(List.replicate 256 (.slice none 0 0)).toArray, rfl, fun W => by kernel_rfl⟩

/-- a block that is a row of slices -/
def RowV (w : World) (g : Nat) (vs : List Value) : Prop := w.heap[g]? = some (.cells vs.toArray 34 (0, 0))
theorem RowV.kept {S : Nat → Prop} {w w' : World} {g : Nat} {vs : List Value} (h : RowV w g vs) (hc : Chg S w w') (hS : ¬ S g) : RowV w' g vs := (hc.block g (lt_of_block h) hS).trans h
theorem RowV.lt {w : World} {g : Nat} {vs : List Value} (h : RowV w g vs) : g < w.heap.size := lt_of_block h
theorem RowV.cell {w : World} {g : Nat} {vs : List Value} (h : RowV w g vs) (j : Nat) (hj : j < vs.length) : w.cell? ⟨g, j, none⟩ = some (vs.getD j undef) := by
  rw [cell_of_row w g j _ _ _ h, List.getElem?_toArray, List.getElem?_eq_getElem hj, List.getD_eq_getElem?_getD, List.getElem?_eq_getElem hj]; rfl
theorem RowV.free {w : World} {g : Nat} {vs : List Value} (h : RowV w g vs) (j : Nat) : w.frozen? ⟨g, j, none⟩ = false := frozen_of_row w g j _ _ h
theorem RowV.set {w : World} {g : Nat} {vs : List Value} (h : RowV w g vs) (j : Nat) (u : Value) : RowV (w.setCell ⟨g, j, none⟩ u) g (vs.set j u) := by
  unfold RowV
  rw [heap_setCell_same w g j _ _ u h, List.setIfInBounds_toArray]

theorem Mb.more {w : World} {g : Nat} {log : Int} {one : Bool} {cv : Value} (h : Mb w g log one cv) : (w.cell? ⟨g, 0, none⟩ = some (.int .i64 log) ∧ w.cell? ⟨g, 1, none⟩ = some (.bool one) ∧ w.cell? ⟨g, 2, none⟩ = some cv) ∧ (w.frozen? ⟨g, 0, none⟩ = false ∧ w.frozen? ⟨g, 1, none⟩ = false ∧ w.frozen? ⟨g, 2, none⟩ = false) ∧
    (∀ o, (w.alloc o).cell? ⟨g, 0, none⟩ = some (.int .i64 log)) ∧ (∀ o, (w.alloc o).cell? ⟨g, 1, none⟩ = some (.bool one)) ∧ (∀ o, (w.alloc o).cell? ⟨g, 2, none⟩ = some cv) ∧ (∀ o, (w.alloc o).frozen? ⟨g, 0, none⟩ = false) ∧ (∀ o, (w.alloc o).frozen? ⟨g, 1, none⟩ = false) ∧ ∀ o, (w.alloc o).frozen? ⟨g, 2, none⟩ = false :=
  have hk : ∀ o, Mb (w.alloc o) g log one cv := fun o => h.kept (Chg.alloc (fun _ => False) w o) (by simp)
  ⟨h.cells, ⟨frozen_of_row w g 0 _ _ h, frozen_of_row w g 1 _ _ h, frozen_of_row w g 2 _ _ h⟩, fun o => (hk o).cells.1, fun o => (hk o).cells.2.1, fun o => (hk o).cells.2.2, fun o => frozen_of_row _ g 0 _ _ (hk o), fun o => frozen_of_row _ g 1 _ _ (hk o), fun o => frozen_of_row _ g 2 _ _ (hk o)⟩

def nils : List Value := List.replicate 256 (.slice none 0 0)
theorem nils_length : nils.length = 256 := List.length_replicate
/-- behind the making of the empty lists -/
def First1 (w : World) (R : Int) (s3 : Value) (wx : World) : Prop := ∃ G G3, s3 = .pointer (some ⟨G3, 0, none⟩) ∧ Mb wx G3 R false (.slice (some ⟨G, 0, none⟩) 256 256) ∧ RowV wx G nils ∧ Mb wx w.heap.size 0 false (.slice none 0 0) ∧ w.heap.size < G ∧ w.heap.size < G3 ∧ Chg (fun _ => False) w wx

section
variable {w W : World} {Z : Array Value} {R : Int}
theorem rowZ (hZ : Z.toList = nils) (W : World) : RowV (W.alloc (.cells Z 34)) W.heap.size nils := by
  have := heap_alloc_new W (.cells Z 34)
  unfold RowV
  rw [← hZ]
  exact this
theorem firstA (hZ : Z.toList = nils) (hm : Mb W w.heap.size 0 false (.slice none 0 0)) (hc : Chg (fun _ => False) w W) :
    First1 w R (.pointer (some ⟨W.heap.size + 1, 0, none⟩)) ((W.alloc (.cells Z 34)).alloc (.cells #[.int .i64 R, .bool false, .slice (some ⟨W.heap.size, 0, none⟩) 256 256] 26)) := by
  have c1 := Chg.alloc (fun _ => False) W (.cells Z 34)
  have c2 := Chg.alloc (fun _ => False) (W.alloc (.cells Z 34)) (.cells #[.int .i64 R, .bool false, .slice (some ⟨W.heap.size, 0, none⟩) 256 256] 26)
  have hlt := hm.lt
  exact ⟨W.heap.size, W.heap.size + 1, rfl, heap_alloc2_new W _ _, (rowZ hZ W).kept c2 (by simp), (hm.kept c1 (by simp)).kept c2 (by simp), hlt, by omega, (hc.trans c1 fun _ _ h => h).trans c2 fun _ _ h => h⟩
theorem firstB (hZ : Z.toList = nils) (hm : Mb W w.heap.size 0 false (.slice none 0 0)) (hc : Chg (fun _ => False) w W) :
    First1 w R (.pointer (some ⟨W.heap.size, 0, none⟩)) ((W.alloc (.cells #[.int .i64 R, .bool false, .slice (some ⟨W.heap.size + 1, 0, none⟩) 256 256] 26)).alloc (.cells Z 34)) := by
  have c1 := Chg.alloc (fun _ => False) W (.cells #[.int .i64 R, .bool false, .slice (some ⟨W.heap.size + 1, 0, none⟩) 256 256] 26)
  have c2 := Chg.alloc (fun _ => False) (W.alloc (.cells #[.int .i64 R, .bool false, .slice (some ⟨W.heap.size + 1, 0, none⟩) 256 256] 26)) (.cells Z 34)
  have hlt := hm.lt
  have hr := rowZ hZ (W.alloc (.cells #[.int .i64 R, .bool false, .slice (some ⟨W.heap.size + 1, 0, none⟩) 256 256] 26))
  rw [show (W.alloc (.cells #[.int .i64 R, .bool false, .slice (some ⟨W.heap.size + 1, 0, none⟩) 256 256] 26)).heap.size = W.heap.size + 1 by simp] at hr
  exact ⟨W.heap.size + 1, W.heap.size, rfl, heap_alloc2_old W _ _, hr, (hm.kept c1 (by simp)).kept c2 (by simp), by omega, hlt, (hc.trans c1 fun _ _ h => h).trans c2 fun _ _ h => h⟩
theorem firstC {G : Nat} (hr : RowV W G nils) (hG : w.heap.size < G) (hm : Mb W w.heap.size 0 false (.slice none 0 0)) (hc : Chg (fun _ => False) w W) :
    First1 w R (.pointer (some ⟨W.heap.size, 0, none⟩)) (W.alloc (.cells #[.int .i64 R, .bool false, .slice (some ⟨G, 0, none⟩) 256 256] 26)) := by
  have c1 := Chg.alloc (fun _ => False) W (.cells #[.int .i64 R, .bool false, .slice (some ⟨G, 0, none⟩) 256 256] 26)
  exact ⟨G, W.heap.size, rfl, heap_alloc_new W _, hr.kept c1 (by simp), hm.kept c1 (by simp), hG, hm.lt, hc.trans c1 fun _ _ h => h⟩
theorem firstE {G G3 : Nat} (hr : RowV W G nils) (hG : w.heap.size < G) (h3 : Mb W G3 0 false (.slice none 0 0)) (hG3 : w.heap.size < G3) (hne : G ≠ G3) (hm : Mb W w.heap.size 0 false (.slice none 0 0)) (hc : Chg (fun _ => False) w W) :
    First1 w R (.pointer (some ⟨G3, 0, none⟩)) (((W.setCell ⟨G3, 0, none⟩ (.int .i64 R)).setCell ⟨G3, 1, none⟩ (.bool false)).setCell ⟨G3, 2, none⟩ (.slice (some ⟨G, 0, none⟩) 256 256)) := by
  have c1 := W3_chg W G3 R false (.slice (some ⟨G, 0, none⟩) 256 256)
  exact ⟨G, G3, rfl, (W3_cells h3 R false (.slice (some ⟨G, 0, none⟩) 256 256)).2.2.2, hr.kept c1 hne, hm.kept c1 (by omega), hG, hG3, hc.trans c1 fun k hk he => by omega⟩
theorem firstD {G3 : Nat} (hZ : Z.toList = nils) (h3 : Mb W G3 0 false (.slice none 0 0)) (hG3 : w.heap.size < G3) (hm : Mb W w.heap.size 0 false (.slice none 0 0)) (hc : Chg (fun _ => False) w W) :
    First1 w R (.pointer (some ⟨G3, 0, none⟩)) ((((W.alloc (.cells Z 34)).setCell ⟨G3, 0, none⟩ (.int .i64 R)).setCell ⟨G3, 1, none⟩ (.bool false)).setCell ⟨G3, 2, none⟩ (.slice (some ⟨W.heap.size, 0, none⟩) 256 256)) := by
  have c1 := Chg.alloc (fun _ => False) W (.cells Z 34)
  have hlt := hm.lt
  have hl3 := h3.lt
  exact firstE (rowZ hZ W) hlt (h3.kept c1 (by simp)) hG3 (by omega) (hm.kept c1 (by simp)) (hc.trans c1 fun _ _ h => h)
end

/-- the lists of the first k contexts -/
def partL (xs : List Nat) (R : Int) (k c : Nat) : List Int := if (c : Int) ∈ (pres xs).take k then normR (cnt (sel xs (c : Int))) R else []
theorem partL_all (xs : List Nat) (R : Int) (c : Nat) (hc : c < 256) : partL xs R (pres xs).length c = ctxL xs R c := by
  unfold partL ctxL
  rw [List.take_length]
  by_cases h : 0 < (sel xs (c : Int)).length
  · rw [if_pos h, if_pos (pres_mem.2 ⟨by omega, by omega, h⟩)]
  · rw [if_neg h, if_neg (fun hh => h (pres_mem.1 hh).2.2)]
theorem partL_next (xs : List Nat) (R : Int) (k c : Nat) (hk : k < (pres xs).length) (hc : (pres xs).getD k 0 = (c : Int)) (d : Nat) : partL xs R (k + 1) d = if d = c then normR (cnt (sel xs (c : Int))) R else partL xs R k d := by
  unfold partL
  have ht : (pres xs).take (k + 1) = (pres xs).take k ++ [(c : Int)] := by rw [take_snoc _ k hk, hc]
  rw [ht]
  by_cases h : d = c
  · subst h
    rw [if_pos (by simp), if_pos rfl]
  · rw [if_neg h]
    have : (d : Int) ∈ (pres xs).take k ++ [(c : Int)] ↔ (d : Int) ∈ (pres xs).take k := by
      rw [List.mem_append, List.mem_singleton]
      constructor
      · rintro (h1 | h1)
        · exact h1
        · omega
      · exact .inl
    simp only [this]
/-- in the midst of First: the lists of the first k contexts are there -/
structure FirstS (xs : List Nat) (w : World) (G G3 : Nat) (R : Int) (al : Option Addr) (np cl k : Nat) (wr : World) : Prop where
  mb : Mb wr G3 R false (.slice (some ⟨G, 0, none⟩) 256 256)
  mn : Mb wr w.heap.size 0 false (.slice none 0 0)
  l : wr.ownsRow 0 3 1 (.slice al np cl) np (iw (pres xs))
  lfar : ∀ q, (Value.slice al np cl).ownBlock = some q → q ≠ G ∧ q ≠ G3 ∧ q ≠ w.heap.size
  chg : Chg (fun _ => False) w wr
  hG : w.heap.size < G
  hG3 : w.heap.size < G3
  hne : G ≠ G3
  row : ∃ vs, RowV wr G vs ∧ vs.length = 256 ∧ ∀ c, c < 256 → RdIr wr (vs.getD c undef) (partL xs R k c) ∧ ∀ q, (vs.getD c undef).ownBlock = some q → q ≠ G ∧ q ≠ G3 ∧ q ≠ w.heap.size

section
variable {xs : List Nat} {w wr : World} {G G3 : Nat} {R : Int} {al : Option Addr} {np cl k : Nat}
theorem FirstS.kept {wr' : World} (h : FirstS xs w G G3 R al np cl k wr) (hc : Chg (fun _ => False) wr wr') : FirstS xs w G G3 R al np cl k wr' := by
  obtain ⟨h1, h2, h3, h4, h5, h6, h7, h8, vs, h9, h10, h11⟩ := h
  exact ⟨h1.kept hc (by simp), h2.kept hc (by simp), hc.own h3 (by simp), h4, h5.trans hc fun _ _ h => h, h6, h7, h8, vs, h9.kept hc (by simp), h10, fun c hcc => ⟨(h11 c hcc).1.kept hc (by simp), (h11 c hcc).2⟩⟩
theorem FirstS.lcell' {g : Nat} {c : Int} (h : FirstS xs w G G3 R (some ⟨g, 0, none⟩) np cl k wr) (j : Nat) (hj : j < np) (hc : (pres xs).getD j 0 = c) : wr.cell? ⟨g, j, none⟩ = some (.int .i64 c) := by
  have hl := h.l.1
  rw [iw_length, Nat.mul_one] at hl
  rw [h.l.cellAt j (by omega), iw_get (pres xs) j (by omega), hc]
theorem FirstS.lcell (h : FirstS xs w G G3 R al np cl k wr) (j : Nat) (hj : j < np) : ∃ g, al = some ⟨g, 0, none⟩ := by
  rcases h.l.2 with ⟨h1, h2⟩ | ⟨g, cap', cur, he, _⟩
  · omega
  · simp only [Value.slice.injEq] at he
    exact ⟨g, he.1⟩
theorem FirstS.lts (h : FirstS xs w G G3 R al np cl k wr) : G < wr.heap.size ∧ G3 < wr.heap.size ∧ w.heap.size < wr.heap.size := by
  obtain ⟨vs, h9, _⟩ := h.row
  exact ⟨h9.lt, h.mb.lt, h.mn.lt⟩
theorem FirstS.store {B c : Nat} {q : Value} (h : FirstS xs w G G3 R al np cl k wr) (hk : k < (pres xs).length) (hc : (pres xs).getD k 0 = (c : Int)) (hc256 : c < 256) (hq : OwnI wr B q (normR (cnt (sel xs (c : Int))) R)) (hqr : RoomOk q) (hB : G < B ∧ G3 < B ∧ w.heap.size < B) :
    FirstS xs w G G3 R al np cl (k + 1) (wr.setCell ⟨G, c, none⟩ q) := by
  have hcs := Chg.setCell wr ⟨G, c, none⟩ q
  have hqf : ∀ b, q.ownBlock = some b → b ≠ G ∧ b ≠ G3 ∧ b ≠ w.heap.size := fun b hb => by
    obtain ⟨g, off, cc, rfl, hg, _⟩ := hq
    simp only [Value.ownBlock, Option.some.injEq] at hb
    omega
  obtain ⟨h1, h2, h3, h4, h5, h6, h7, h8, vs, h9, h10, h11⟩ := h
  refine ⟨h1.kept hcs (fun he => h8 he.symm), h2.kept hcs (by simp; omega), hcs.own h3 (fun b hb he => (h4 b hb).1 he), h4, h5.trans hcs fun b hb he => by simp at he; omega, h6, h7, h8, vs.set c q, h9.set c q, by rw [List.length_set]; exact h10, fun d hd => ?_⟩
  rw [partL_next xs R k c hk hc d]
  by_cases hdc : d = c
  · subst hdc
    rw [if_pos rfl, List.getD_eq_getElem?_getD, List.getElem?_set_self (by omega)]
    exact ⟨⟨hq.rd.kept hcs (fun b hb he => (hqf b hb).1 he), hqr⟩, hqf⟩
  · rw [if_neg hdc, List.getD_eq_getElem?_getD, List.getElem?_set_ne (Ne.symm hdc), ← List.getD_eq_getElem?_getD]
    exact ⟨(h11 d hd).1.kept hcs (fun b hb he => ((h11 d hd).2 b hb).1 he), (h11 d hd).2⟩
theorem cnt_bounds (ys : List Nat) (h : isRight (cnt ys)) : ∀ z ∈ cnt ys, -9223372036854775808 ≤ z ∧ z ≤ 9223372036854775807 := fun z hz => by
  have h1 := cnt_nonneg ys z hz
  have h2 := mem_le_total (cnt ys) h z hz
  omega
end

set_option maxHeartbeats 4000000 in
set_option maxRecDepth 100000 in
theorem r16first_any (v : Value) (xs : List Nat) (w : World) (h : RdB w v xs) (hx : ∀ x ∈ xs, x < 256) (hl : xs.length ≤ 1000000) (h0 : 0 < xs.length) :
    Calls Tryz.prog 11 #[v] w fun e w' => ∃ u, e = .returned u ∧ RdM w' u (firstM xs) ∧ Chg (fun _ => False) w w' := by
  obtain ⟨ao, cap, rfl⟩ := h.form
  have hca := Chg.alloc (fun _ => False) w (.cells #[.int .i64 0, .bool false, .slice none 0 0] 26)
  have hnew : Mb _ _ 0 false (.slice none 0 0) := heap_alloc_new w (.cells #[.int .i64 0, .bool false, .slice none 0 0] 26)
  have hz := zeroModel
  obtain ⟨Z, hZ, hmake⟩ := makeLists
  have HZ := Lib.hid hZ
  clear hZ
  obtain ⟨hz1, hz2⟩ := firstLog_bounds xs hx (by omega) h0
  have HWI := Lib.hid (show ∀ W, Chg (fun _ => False) w W → Calls Tryz.prog 30 #[.slice ao xs.length cap] W fun e w' => e = .returned (.int .i64 ((widest xs : Nat) : Int)) ∧ Chg (fun _ => False) W w' from fun W hW => r6widest_any _ xs W (h.kept hW (by simp)) hx (by omega))
  have HPR := Lib.hid (show ∀ W, Chg (fun _ => False) w W → Calls Tryz.prog 31 #[.slice ao xs.length cap] W fun e w' => ∃ v', e = .returned v' ∧ w'.ownsRow W.heap.size 3 1 v' (pres xs).length (iw (pres xs)) ∧ Chg (fun _ => False) W w' from fun W hW => r6present_own _ xs W (h.kept hW (by simp)) hx (by omega))
  have HFO := Lib.hid (show ∀ W (c : Int), Chg (fun _ => False) w W → Calls Tryz.prog 32 #[.slice ao xs.length cap, .int .i64 c] W fun e w' => ∃ v', e = .returned v' ∧ OwnI w' W.heap.size v' (cnt (sel xs c)) ∧ Chg (fun _ => False) W w' from fun W c hW => r6for_any _ xs c W (h.kept hW (by simp)) hx (by omega))
  obtain ⟨n, hn⟩ : ∃ n, xs.length = n := ⟨_, rfl⟩
  have hwl := wid_le xs 256
  have hzl : firstLog xs = pickI (n : Int) ((widest xs : Nat) : Int) 9 := by rw [← hn]; rfl
  rw [hn] at hl HWI HPR HFO ⊢
  obtain ⟨M, hM⟩ : ∃ M, widest xs = M := ⟨_, rfl⟩
  have hMe : wid xs 256 = M := hM
  rw [hM] at hzl HWI
  rw [hMe] at hwl
  obtain ⟨R, hR⟩ : ∃ R, firstLog xs = R := ⟨_, rfl⟩
  rw [hR] at hzl hz1 hz2
  have HPK := Lib.hid (show ∀ W, Calls Tryz.prog 27 #[.int .i64 (n : Int), .int .i64 (M : Int), .int .i64 9] W fun e w' => e = .returned (.int .i64 R) ∧ w' = W from fun W => by
    have := r7pick_any (n : Int) (M : Int) 9 W (by omega) (by omega) (by omega) (by omega) (by omega) (by omega)
    rw [← hzl] at this
    exact this)
  have HR := Lib.hid hR; have HCA := Lib.hid hca; have HNEW := Lib.hid hnew; have HX := Lib.hid hx; have HN := Lib.hid hn
  have hnI : (n : Int) ≤ 1000000 := by omega
  have hMI : (M : Int) ≤ 256 := by omega
  have HCD := Lib.hid hca.drew
  clear h hca hnew hM hMe hR hzl hn hx hl h0 hwl
  go_enter Tryz.func11, Tryz.ntmps11
  have HCG := Lib.hid (show ∀ o, Chg (fun _ => False) w ((w.alloc (.cells #[.int .i64 0, .bool false, .slice none 0 0] 26)).alloc o).drew from fun o => (HCA.out.trans (Chg.alloc (fun _ => False) _ o) fun _ _ h => h).drew)
  have HCH := Lib.hid (show ∀ o o', Chg (fun _ => False) w (((w.alloc (.cells #[.int .i64 0, .bool false, .slice none 0 0] 26)).alloc o).alloc o').drew from fun o o' => ((HCA.out.trans (Chg.alloc (fun _ => False) _ o) fun _ _ h => h).trans (Chg.alloc (fun _ => False) _ o') fun _ _ h => h).drew)
  have HZN := Lib.hid (show Z.toList = nils from HZ.out)
  have HN0 := Lib.hid (show Mb (w.alloc (.cells #[.int .i64 0, .bool false, .slice none 0 0] 26)).drew w.heap.size 0 false (.slice none 0 0) from HNEW.out)
  have HNG := Lib.hid (show ∀ o, Mb ((w.alloc (.cells #[.int .i64 0, .bool false, .slice none 0 0] 26)).alloc o).drew w.heap.size 0 false (.slice none 0 0) from fun o => HNEW.out.kept ((Chg.alloc (fun _ => False) _ o).drew) (by simp))
  have HNH := Lib.hid (show ∀ o o', Mb (((w.alloc (.cells #[.int .i64 0, .bool false, .slice none 0 0] 26)).alloc o).alloc o').drew w.heap.size 0 false (.slice none 0 0) from fun o o' => (HNEW.out.kept (Chg.alloc (fun _ => False) _ o) (by simp)).kept ((Chg.alloc (fun _ => False) _ o').drew) (by simp))
  have HRZ1 := Lib.hid (show RowV ((w.alloc (.cells #[.int .i64 0, .bool false, .slice none 0 0] 26)).alloc (.cells Z 34)).drew (w.heap.size + 1) nils from by have h := rowZ HZN.out (w.alloc (.cells #[.int .i64 0, .bool false, .slice none 0 0] 26)); rw [show (w.alloc (.cells #[.int .i64 0, .bool false, .slice none 0 0] 26)).heap.size = w.heap.size + 1 by simp] at h; exact h)
  have HRZ1b := Lib.hid (show RowV (((w.alloc (.cells #[.int .i64 0, .bool false, .slice none 0 0] 26)).alloc (.cells Z 34)).alloc (.cells #[.int .i64 0, .bool false, .slice none 0 0] 26)).drew (w.heap.size + 1) nils from RowV.kept (w := (w.alloc (.cells #[.int .i64 0, .bool false, .slice none 0 0] 26)).alloc (.cells Z 34)) HRZ1.out ((Chg.alloc (fun _ => False) ((w.alloc (.cells #[.int .i64 0, .bool false, .slice none 0 0] 26)).alloc (.cells Z 34)) (.cells #[.int .i64 0, .bool false, .slice none 0 0] 26)).drew) (by simp))
  have HRZ2 := Lib.hid (show RowV (((w.alloc (.cells #[.int .i64 0, .bool false, .slice none 0 0] 26)).alloc (.cells #[.int .i64 0, .bool false, .slice none 0 0] 26)).alloc (.cells Z 34)).drew (w.heap.size + 2) nils from by have h := rowZ HZN.out ((w.alloc (.cells #[.int .i64 0, .bool false, .slice none 0 0] 26)).alloc (.cells #[.int .i64 0, .bool false, .slice none 0 0] 26)); rw [show ((w.alloc (.cells #[.int .i64 0, .bool false, .slice none 0 0] 26)).alloc (.cells #[.int .i64 0, .bool false, .slice none 0 0] 26)).heap.size = w.heap.size + 2 by simp] at h; exact h)
  go_upto_region 1 with fail
  go_cut [3] from 8 to 14 (fun s3 wx => First1 w R s3 wx)
  case first =>
    have HM1 := Lib.hid (show Mb ((w.alloc (.cells #[.int .i64 0, .bool false, .slice none 0 0] 26)).alloc (.cells #[.int .i64 0, .bool false, .slice none 0 0] 26)).drew (w.heap.size + 1) 0 false (.slice none 0 0) from heap_alloc2_new w (.cells #[.int .i64 0, .bool false, .slice none 0 0] 26) (.cells #[.int .i64 0, .bool false, .slice none 0 0] 26))
    have HM1b := Lib.hid (show Mb (((w.alloc (.cells #[.int .i64 0, .bool false, .slice none 0 0] 26)).alloc (.cells #[.int .i64 0, .bool false, .slice none 0 0] 26)).alloc (.cells Z 34)).drew (w.heap.size + 1) 0 false (.slice none 0 0) from (Below.heap_alloc _ _ _ (by simp)).trans (heap_alloc2_new w (.cells #[.int .i64 0, .bool false, .slice none 0 0] 26) (.cells #[.int .i64 0, .bool false, .slice none 0 0] 26)))
    have HM2 := Lib.hid (show Mb (((w.alloc (.cells #[.int .i64 0, .bool false, .slice none 0 0] 26)).alloc (.cells Z 34)).alloc (.cells #[.int .i64 0, .bool false, .slice none 0 0] 26)).drew (w.heap.size + 2) 0 false (.slice none 0 0) from by have h := heap_alloc_new ((w.alloc (.cells #[.int .i64 0, .bool false, .slice none 0 0] 26)).alloc (.cells Z 34)) (.cells #[.int .i64 0, .bool false, .slice none 0 0] 26); rw [show ((w.alloc (.cells #[.int .i64 0, .bool false, .slice none 0 0] 26)).alloc (.cells Z 34)).heap.size = w.heap.size + 2 by simp] at h; exact h)
    go_region_held3 (fun _ => True) (trivial) (first
      | (go_at_call 30; refine (HWI.out _ HCD.out).mono ?_; rintro e w3 ⟨rfl, hc3⟩; have HMN := Lib.hid (HN0.out.kept hc3 (by simp));  have HC3 := Lib.hid ((HCD.out).trans hc3 fun _ _ h => h); have HC30 := Lib.hid hc3; clear hc3)
      | (go_at_call 30; refine (HWI.out _ (HCG.out (.cells Z 34))).mono ?_; rintro e w3 ⟨rfl, hc3⟩; have HMN := Lib.hid ((HNG.out _).kept hc3 (by simp)); have HRW := Lib.hid (HRZ1.out.kept hc3 (by simp));  have HC3 := Lib.hid (((HCG.out (.cells Z 34))).trans hc3 fun _ _ h => h); have HC30 := Lib.hid hc3; clear hc3)
      | (go_at_call 30; refine (HWI.out _ (HCG.out (.cells #[.int .i64 0, .bool false, .slice none 0 0] 26))).mono ?_; rintro e w3 ⟨rfl, hc3⟩; have HMN := Lib.hid ((HNG.out _).kept hc3 (by simp)); have HMW := Lib.hid (HM1.out.kept hc3 (by simp)); obtain ⟨⟨x0, x1, x2⟩, ⟨y0, y1, y2⟩, s0, s1, s2, t0, t1, t2⟩ := HMW.out.more; have HC3 := Lib.hid (((HCG.out (.cells #[.int .i64 0, .bool false, .slice none 0 0] 26))).trans hc3 fun _ _ h => h); have HC30 := Lib.hid hc3; clear hc3)
      | (go_at_call 30; refine (HWI.out _ (HCH.out (.cells #[.int .i64 0, .bool false, .slice none 0 0] 26) (.cells Z 34))).mono ?_; rintro e w3 ⟨rfl, hc3⟩; have HMN := Lib.hid ((HNH.out _ _).kept hc3 (by simp)); have HRW := Lib.hid (HRZ2.out.kept hc3 (by simp)); have HMW := Lib.hid (HM1b.out.kept hc3 (by simp)); obtain ⟨⟨x0, x1, x2⟩, ⟨y0, y1, y2⟩, s0, s1, s2, t0, t1, t2⟩ := HMW.out.more; have HC3 := Lib.hid (((HCH.out (.cells #[.int .i64 0, .bool false, .slice none 0 0] 26) (.cells Z 34))).trans hc3 fun _ _ h => h); have HC30 := Lib.hid hc3; clear hc3)
      | (go_at_call 30; refine (HWI.out _ (HCH.out (.cells Z 34) (.cells #[.int .i64 0, .bool false, .slice none 0 0] 26))).mono ?_; rintro e w3 ⟨rfl, hc3⟩; have HMN := Lib.hid ((HNH.out _ _).kept hc3 (by simp)); have HRW := Lib.hid (HRZ1b.out.kept hc3 (by simp)); have HMW := Lib.hid (HM2.out.kept hc3 (by simp)); obtain ⟨⟨x0, x1, x2⟩, ⟨y0, y1, y2⟩, s0, s1, s2, t0, t1, t2⟩ := HMW.out.more; have HC3 := Lib.hid (((HCH.out (.cells Z 34) (.cells #[.int .i64 0, .bool false, .slice none 0 0] 26))).trans hc3 fun _ _ h => h); have HC30 := Lib.hid hc3; clear hc3)
      | (go_at_call 27; refine (HPK.out _).mono ?_; rintro e w4 ⟨rfl, rfl⟩))
    all_goals (go_wp2_with fail; go_meet; first
      | exact firstA HZN.out HMN.out HC3.out
      | exact firstB HZN.out HMN.out HC3.out
      | exact firstC HRW.out (by omega) HMN.out HC3.out
      | exact firstE HRW.out (by omega) HMW.out (by omega) (by omega) HMN.out HC3.out
      | exact firstD HZN.out HMW.out (by omega) HMN.out HC3.out)
  case rest =>
  obtain ⟨G, G3, rfl, hm3, hrow, hmN, hG, hG3, hc⟩ := hcut
  have hGlt := hrow.lt
  have hG3lt := hm3.lt
  have hne3 : G ≠ G3 := fun he => by
    rw [he] at hrow
    have := hrow.symm.trans hm3
    simp at this
  have HS0 := Lib.hid (show Mb wc G3 R false (.slice (some ⟨G, 0, none⟩) 256 256) ∧ RowV wc G nils ∧ Mb wc w.heap.size 0 false (.slice none 0 0) ∧ Chg (fun _ => False) w wc ∧ w.heap.size < G ∧ w.heap.size < G3 ∧ G < wc.heap.size ∧ G3 < wc.heap.size ∧ G ≠ G3 from ⟨hm3, hrow, hmN, hc, hG, hG3, hGlt, hG3lt, hne3⟩)
  clear hm3 hrow hmN hc hG hG3 hGlt hG3lt hne3 HCA HNEW HCD HCG HCH HZN HN0 HNG HNH HRZ1 HRZ1b HRZ2 HZ hmake HWI
  go_wp2_with fail
  refine (HPR.out wc HS0.out.2.2.2.1).mono ?_
  rintro e w5 ⟨l, rfl, hl5, hc5⟩
  obtain ⟨np, hnp⟩ : ∃ np, (pres xs).length = np := ⟨_, rfl⟩
  have hnp256 : np ≤ 256 := by rw [← hnp]; exact presTo_length xs 256
  rw [hnp] at hl5
  obtain ⟨al, cl, rfl⟩ : ∃ al cl, l = .slice al np cl := by
    rcases hl5.2 with ⟨rfl, rfl⟩ | ⟨g, cap, cur, rfl, _⟩
    · exact ⟨_, _, rfl⟩
    · exact ⟨_, _, rfl⟩
  have HNP := Lib.hid hnp
  have hnpI : (np : Int) ≤ 256 := by omega
  have HS := Lib.hid (show FirstS xs w G G3 R al np cl 0 w5 from by
    obtain ⟨a1, a2, a3, a4, a5, a6, a7, a8, a9⟩ := HS0.out
    refine ⟨a1.kept hc5 (by simp), a3.kept hc5 (by simp), ownsRow_mono hl5 (Nat.zero_le _), fun k hk => ⟨by have := (hl5.lt k hk).1; omega, by have := (hl5.lt k hk).1; omega, by have := (hl5.lt k hk).1; omega⟩, a4.trans hc5 fun _ _ h => h, a5, a6, a9, nils, a2.kept hc5 (by simp), nils_length, fun c hc => ?_⟩
    have hn : nils.getD c undef = .slice none 0 0 := by
      unfold nils
      rw [List.getD_eq_getElem?_getD, List.getElem?_replicate, if_pos hc]; rfl
    rw [hn]
    refine ⟨?_, by simp [Value.ownBlock]⟩
    have : partL xs R 0 c = [] := by unfold partL; rw [List.take_zero, if_neg (by simp)]
    rw [this]
    exact .nil _)
  clear hl5 hc5 hnp hnp256 HS0 HPR
  go_wp2
  go_loopw [5] (fun o5 wr => ∃ k : Nat, k ≤ np ∧ o5 = .int .i64 (k : Int) ∧ FirstS xs w G G3 R al np cl k wr) (fun o5 _ => np - (intOf o5).toNat)
  case atStart => exact ⟨0, Nat.zero_le _, rfl, HS.out⟩
  case round =>
    clear HS
    obtain ⟨k, hk, rfl, hs⟩ := hrel
    by_cases hlt : k < np
    · have hcr := pres_range xs k (by rw [HNP.out]; exact hlt)
      have hcm : (pres xs).getD k 0 ∈ pres xs := getD_mem (by rw [HNP.out]; exact hlt)
      obtain ⟨c, hce⟩ : ∃ c : Nat, (pres xs).getD k 0 = (c : Int) := ⟨((pres xs).getD k 0).toNat, by omega⟩
      rw [hce] at hcr hcm
      have hc256 : c < 256 := by omega
      have hsel := (pres_mem.1 hcm).2.2
      have hok := first_ok xs HX.out (by rw [HN.out]; omega) c hc256 hsel
      rw [HR.out] at hok
      obtain ⟨g, rfl⟩ := hs.lcell k hlt
      have hlc := hs.lcell' k hlt hce
      obtain ⟨b0, b1, b2⟩ := hs.mb.cells
      have hsz := hs.chg
      have hfo := HFO.out wr.drew (c : Int) hs.chg.drew
      have HCT := Lib.hid (show ∀ W fv, RdI W fv (cnt (sel xs (c : Int))) → Calls Tryz.prog 29 #[fv, .int .i64 R] W fun e w' => NormSays W (cnt (sel xs (c : Int))) R e w' ∧ RoomE e from fun W fv hW => r8counts_room fv (cnt (sel xs (c : Int))) R W hW (cnt_bounds _ hok.1) (by rw [cnt_length]; omega) (by omega))
      have HFO2 := Lib.hid hfo; have HOK := Lib.hid hok; have HS := Lib.hid hs; have HCE := Lib.hid hce; have HC256 := Lib.hid hc256
      have hkn : (k : Int) < (np : Int) := by omega
      have hcI : (c : Int) < 256 := by omega
      clear hcr hcm hce hsel hok hs hsz hfo hc256
      go_wp2
      go_region_held3 (fun W => W.cell? ⟨g, k, none⟩ = some (.int .i64 (c : Int)) ∧ W.cell? ⟨G3, 0, none⟩ = some (.int .i64 R)) (first | exact ⟨hlc, b0⟩ | exact ⟨m0, m1⟩ | exact ⟨n0, n1⟩) (first
        | (go_at_call 32; refine (HFO2.out).mono ?_; rintro e w6 ⟨fv, rfl, hf6, hc6⟩; have hs6 := HS.out.kept ((Chg.refl (fun _ => False) wr).drew.trans hc6 fun _ _ h => h); have m0 := hs6.lcell' k hlt HCE.out; have m1 := hs6.mb.cells.1; have HS6 := Lib.hid hs6; have HF6 := Lib.hid hf6; clear hs6 hf6 hc6)
        | (go_at_call 29; refine (HCT.out _ _ HF6.out.rd).mono ?_; rintro e w7 ⟨⟨q, rfl, hq7, -, hc7⟩, hrm7⟩; have HRM7 := Lib.hid (hrm7 _ _ rfl); rw [if_pos HOK.out]; have hs7 := HS6.out.kept hc7; have n0 := hs7.lcell' k hlt HCE.out; have n1 := hs7.mb.cells.1; have HQ7 := Lib.hid (hq7 HOK.out); have HG7 := Lib.hid (show G < w6.heap.size ∧ G3 < w6.heap.size ∧ w.heap.size < w6.heap.size from HS6.out.lts); have HS7 := Lib.hid hs7; clear hs7 hq7 hc7))
      have hg7 := HG7.out
      have hs8 := HS7.out.store (by rw [HNP.out]; exact hlt) HCE.out HC256.out HQ7.out HRM7.out hg7
      obtain ⟨aq, lq, hqf⟩ : ∃ aq lq, q = .slice aq 256 lq := by obtain ⟨g', off', cc, he, _⟩ := HQ7.out; exact ⟨_, _, by rw [he, (normR_right HOK.out).1.1]⟩
      subst hqf
      have HS8 := Lib.hid hs8
      obtain ⟨vs, hv1, hv2, -⟩ := HS7.out.row
      have v0 := hv1.cell c (by rw [hv2]; exact HC256.out)
      have v1 := hv1.free c
      obtain ⟨p0, p1, p2⟩ := HS7.out.mb.cells
      obtain ⟨vo, hvo⟩ : ∃ vo, vs.getD c undef = vo := ⟨_, rfl⟩
      rw [hvo] at v0
      clear hs8 hv1 hv2 hvo hg7 hlc b0 b1 b2 m0 m1 n1 HS6 HF6 HS7 HQ7 HG7 HS HCT HFO2 HOK
      go_wp2
      go_region
      go_wp2
      go_roundw
      case rel => exact ⟨k + 1, by omega, by go_num, HS8.out.kept ((Chg.refl _ _).drew)⟩
      case measure => simp [intOf]; omega
    · obtain rfl : k = np := by omega
      have hmb := hs.mn
      obtain ⟨p0, p1, p2⟩ := hs.mb.cells
      obtain ⟨y0, y1, y2, hmb7⟩ := W3_cells hmb R false (.slice (some ⟨G, 0, none⟩) 256 256)
      have hc7 := W3_chg wr w.heap.size R false (.slice (some ⟨G, 0, none⟩) 256 256)
      obtain ⟨vs, hv1, hv2, hv3⟩ := hs.row
      have hv4 := hv1.kept hc7 (by have := hs.hG; omega)
      have hrd7 : RdM (W3 wr w.heap.size R false (.slice (some ⟨G, 0, none⟩) 256 256)) (.agg #[.int .i64 R, .bool false, .slice (some ⟨G, 0, none⟩) 256 256]) (firstM xs) := by
        refine ⟨.slice (some ⟨G, 0, none⟩) 256 256, ?_, .inr ⟨G, 0, 256, by simp [firstM], fun j hj => ?_⟩⟩
        · show _ = Value.agg #[.int .i64 (firstLog xs), .bool false, _]
          rw [HR.out]
        · have hj256 : j < 256 := by simpa [firstM] using hj
          refine ⟨vs.getD j undef, by rw [Nat.zero_add]; exact hv4.cell j (by omega), ?_⟩
          rw [firstM_at xs j hj256, HR.out, ← partL_all xs R j hj256, HNP.out]
          exact (hv3 j hj256).1.kept hc7 (fun b hb he => ((hv3 j hj256).2 b hb).2.2 he)
      have hc8 : Chg (fun _ => False) w (W3 wr w.heap.size R false (.slice (some ⟨G, 0, none⟩) 256 256)) := hs.chg.trans hc7 fun k hk he => by omega
      obtain ⟨z0, z1, z2⟩ := hmb.cells
      have f0 := frozen_of_row wr w.heap.size 0 _ _ hmb
      have f1 := frozen_of_row wr w.heap.size 1 _ _ hmb
      have f2 := frozen_of_row wr w.heap.size 2 _ _ hmb
      have HRD7 := Lib.hid hrd7; have HC8 := Lib.hid hc8
      unfold W3 at y2 HRD7 HC8
      clear hs hmb hmb7 hc7 hv1 hv2 hv3 hv4 hrd7 hc8
      go_wp2
      refine bodyPost_ret (v := .agg #[.int .i64 R, .bool false, .slice (some ⟨G, 0, none⟩) 256 256]) (by simp [results, Tryz.results11, go_sem, y0, y1, y2]; try rfl) rfl ?_
      exact ⟨_, rfl, HRD7.out, HC8.out⟩

end Go.Proofs.YtokeoebhmjefoaaGreat

/- Lists that a small block can't hold. -/
namespace Go.Proofs.YtokeoebhmjefoaaGreat
open Go.RowKit

/-- lists that a small block can't hold stay what they are where it turns -/
theorem rdi_off {w w' : World} {g0 : Nat} {log : Int} {one : Bool} {cv v : Value} {q : List Int} (h : RdI w v q) (hm : Mb w g0 log one cv) (hq : q = [] ∨ q.length = 256) (hc : Chg (fun k => k = g0) w w') : RdI w' v q := by
  rcases h with h | ⟨g, off, cap, rfl, hcell⟩
  · exact .inl h
  · rcases hq with rfl | hq
    · exact .inl ⟨rfl, _, _, rfl⟩
    · refine RdI.kept (.inr ⟨g, off, cap, rfl, hcell⟩) hc fun k hk he => ?_
      simp only [Value.ownBlock, Option.some.injEq] at hk
      subst hk
      subst he
      have := hcell 3 (by omega)
      rw [cell_of_row w g (off + 3) _ _ _ hm] at this
      simp at this

end Go.Proofs.YtokeoebhmjefoaaGreat

/- What the document's own model (puncheonref16) tells: Of, of some bytes. -/
namespace Go.Proofs.YtokeoebhmjefoaaGreat
open Go.RowKit

/-- a model of bytes: of all, or by contexts -/
def ofM (xs : List Nat) (one : Bool) : Md := if one then zeroM xs else firstM xs
theorem ofM_fits (xs : List Nat) (one : Bool) (hx : ∀ x ∈ xs, x < 256) (hl : xs.length ≤ 1073741824) (h0 : 0 < xs.length) : (ofM xs one).fits xs := by
  unfold ofM
  cases one with
  | true => rw [if_pos rfl]; exact zero_fits xs hx hl h0
  | false => rw [if_neg (by simp)]; exact first_fits xs hx hl h0
theorem ofM_log (xs : List Nat) (one : Bool) (hx : ∀ x ∈ xs, x < 256) (hl : xs.length ≤ 1073741824) (h0 : 0 < xs.length) : 5 ≤ (ofM xs one).log ∧ (ofM xs one).log ≤ 11 := by
  unfold ofM
  cases one with
  | true => rw [if_pos rfl]; exact (zero_ok xs hx hl h0).2
  | false => rw [if_neg (by simp)]; have := firstLog_bounds xs hx hl h0; unfold firstM; simp only []; omega

theorem rdll_off {w w' : World} {g0 : Nat} {log : Int} {one : Bool} {v : Value} {L : List (List Int)} (h : RdLL w v L) (hm : Mb w g0 log one (.slice none 0 0)) (hL : (L.length = 256 ∧ ∀ l ∈ L, l = [] ∨ l.length = 256) ∨ ∃ l, L = [l] ∧ l.length = 256) (hc : Chg (fun k => k = g0) w w') : RdLL w' v L := by
  rcases h with h | ⟨g, off, cap, rfl, hcell⟩
  · exact .inl h
  · have hg : g ≠ g0 := fun he => by
      subst he
      rcases hL with ⟨hL, _⟩ | ⟨l, rfl, hl⟩
      · obtain ⟨u, hu, _⟩ := hcell 3 (by omega)
        rw [cell_of_row w g (off + 3) _ _ _ hm] at hu
        simp at hu
      · obtain ⟨u, hu, hr⟩ := hcell 0 (by simp)
        rw [cell_of_row w g (off + 0) _ _ _ hm] at hu
        have hl2 : ([l].getD 0 []).length = 256 := by simpa using hl
        obtain ⟨ao, c, rfl⟩ := hr.1.form
        rw [hl2] at hu
        rcases off with _ | _ | _ | off <;> simp at hu
    refine .inr ⟨g, off, cap, rfl, fun j hj => ?_⟩
    obtain ⟨u, h1, h2⟩ := hcell j hj
    have hb := hc.block g (block_lt_of_cell h1) hg
    refine ⟨u, by rw [World.cell?_of_block (w := w) (a := ⟨g, off + j, none⟩) hb]; exact h1, rdi_off h2.1 hm ?_ hc, h2.2⟩
    rcases hL with ⟨_, hL⟩ | ⟨l, rfl, hl⟩
    · refine hL _ ?_
      rw [List.getD_eq_getElem?_getD, List.getElem?_eq_getElem hj]
      exact List.getElem_mem _
    · have : j = 0 := by simpa using hj
      subst this
      exact .inr (by simpa using hl)
theorem zero_wide (xs : List Nat) (hx : ∀ x ∈ xs, x < 256) (hl : xs.length ≤ 1073741824) (h0 : 0 < xs.length) : ∃ l, (zeroM xs).cs = [l] ∧ l.length = 256 := ⟨_, rfl, (normR_right (zero_ok xs hx hl h0).1).1.1⟩
theorem first_wide (xs : List Nat) (hx : ∀ x ∈ xs, x < 256) (hl : xs.length ≤ 1073741824) : (firstM xs).cs.length = 256 ∧ ∀ l ∈ (firstM xs).cs, l = [] ∨ l.length = 256 := by
  refine ⟨by simp [firstM], fun l hm => ?_⟩
  simp only [firstM, List.mem_map, List.mem_range] at hm
  obtain ⟨c, hc, rfl⟩ := hm
  unfold ctxL
  split
  · rename_i h0
    exact .inr (normR_right (first_ok xs hx hl c hc h0)).1.1
  · exact .inl rfl

set_option maxHeartbeats 2000000 in
theorem r16of_any (v : Value) (xs : List Nat) (one : Bool) (w : World) (h : RdB w v xs) (hx : ∀ x ∈ xs, x < 256) (hl : xs.length ≤ 1000000) (h0 : 0 < xs.length) :
    Calls Tryz.prog 5 #[v, .bool one] w fun e w' => ∃ u, e = .returned u ∧ RdM w' u (ofM xs one) ∧ Chg (fun _ => False) w w' := by
  obtain ⟨ao, cap, rfl⟩ := h.form
  have hca := Chg.alloc (fun _ => False) w (.cells #[.int .i64 0, .bool false, .slice none 0 0] 26)
  have hnew : Mb _ _ 0 false (.slice none 0 0) := heap_alloc_new w (.cells #[.int .i64 0, .bool false, .slice none 0 0] 26)
  have hrd := h.kept hca (by simp)
  have hz := r16zero_any _ xs _ hrd hx hl h0
  have hfi := r16first_any _ xs _ hrd hx hl h0
  have hwz := zero_wide xs hx (by omega) h0
  have hwf := first_wide xs hx (by omega)
  have HZ := Lib.hid hz; have HF := Lib.hid hfi; have HCA := Lib.hid hca; have HNEW := Lib.hid hnew; have HWZ := Lib.hid hwz; have HWF := Lib.hid hwf
  obtain ⟨N, hN⟩ : ∃ N, xs.length = N := ⟨_, rfl⟩
  rw [hN] at HZ HF h0 hl ⊢
  have hN0 : ((N : Int) == 0) = false := by simp; omega
  have hzm := zeroModel
  clear h hca hnew hrd hz hfi hwz hwf hN hx
  have key : ∀ (w2 : World) (m : Md) (u : Value), RdM w2 u m → Chg (fun _ => False) (w.alloc (.cells #[.int .i64 0, .bool false, .slice none 0 0] 26)) w2 → ((m.cs.length = 256 ∧ ∀ l ∈ m.cs, l = [] ∨ l.length = 256) ∨ ∃ l, m.cs = [l] ∧ l.length = 256) →
      ∃ cv, u = .agg #[.int .i64 m.log, .bool m.one, cv] ∧ (∃ a c, cv = .slice a m.cs.length c) ∧ Mb w2 w.heap.size 0 false (.slice none 0 0) ∧ RdM (W3 w2 w.heap.size m.log m.one cv) u m ∧ Chg (fun _ => False) w (W3 w2 w.heap.size m.log m.one cv) := by
    intro w2 m u hm hc hw
    obtain ⟨cv, rfl, hll⟩ := hm
    have hmb := HNEW.out.kept hc (by simp)
    have hc3 := W3_chg w2 w.heap.size m.log m.one cv
    exact ⟨cv, rfl, hll.form, hmb, ⟨cv, rfl, rdll_off hll hmb hw hc3⟩, (HCA.out.trans hc fun _ _ h => h).trans hc3 fun q hq he => by omega⟩
  have KEY := Lib.hid key
  clear key
  cases one with
  | true =>
    go_enter Tryz.func5, Tryz.ntmps5
    go_wp2_with fail
    refine HZ.out.mono ?_
    rintro e w2 ⟨u, rfl, hm, hc2⟩
    obtain ⟨cv, rfl, ⟨a2, c2, rfl⟩, hmb, hrm, hcw⟩ := KEY.out w2 _ u hm hc2 (.inr HWZ.out)
    obtain ⟨z0, z1, z2⟩ := hmb.cells
    have f0 := frozen_of_row w2 w.heap.size 0 _ _ hmb
    have f1 := frozen_of_row w2 w.heap.size 1 _ _ hmb
    have f2 := frozen_of_row w2 w.heap.size 2 _ _ hmb
    obtain ⟨y0, y1, y2, _⟩ := W3_cells hmb (zeroM xs).log (zeroM xs).one (.slice a2 (zeroM xs).cs.length c2)
    have HR := Lib.hid (show RdM _ _ (ofM xs true) ∧ _ from ⟨hrm, hcw⟩)
    obtain ⟨lg, hlg⟩ : ∃ lg, (zeroM xs).log = lg := ⟨_, rfl⟩
    obtain ⟨on, hon⟩ : ∃ on, (zeroM xs).one = on := ⟨_, rfl⟩
    obtain ⟨n2, hn2⟩ : ∃ n2, (zeroM xs).cs.length = n2 := ⟨_, rfl⟩
    rw [hlg, hon, hn2] at HR y2 ⊢
    rw [hlg] at y0
    rw [hlg, hon] at y1
    unfold W3 at y2 HR
    clear hm hc2 hmb hrm hcw hlg hon hn2 HZ HF
    go_wp2
    refine bodyPost_ret (v := .agg #[.int .i64 lg, .bool on, .slice a2 n2 c2]) (by simp [results, Tryz.results5, go_sem, y0, y1, y2]; try rfl) rfl ?_
    exact ⟨_, rfl, HR.out⟩
  | false =>
    go_enter Tryz.func5, Tryz.ntmps5
    go_wp2_with fail
    refine HF.out.mono ?_
    rintro e w2 ⟨u, rfl, hm, hc2⟩
    obtain ⟨cv, rfl, ⟨a2, c2, rfl⟩, hmb, hrm, hcw⟩ := KEY.out w2 _ u hm hc2 (.inl HWF.out)
    obtain ⟨z0, z1, z2⟩ := hmb.cells
    have f0 := frozen_of_row w2 w.heap.size 0 _ _ hmb
    have f1 := frozen_of_row w2 w.heap.size 1 _ _ hmb
    have f2 := frozen_of_row w2 w.heap.size 2 _ _ hmb
    obtain ⟨y0, y1, y2, _⟩ := W3_cells hmb (firstM xs).log (firstM xs).one (.slice a2 (firstM xs).cs.length c2)
    have HR := Lib.hid (show RdM _ _ (ofM xs false) ∧ _ from ⟨hrm, hcw⟩)
    obtain ⟨lg, hlg⟩ : ∃ lg, (firstM xs).log = lg := ⟨_, rfl⟩
    obtain ⟨on, hon⟩ : ∃ on, (firstM xs).one = on := ⟨_, rfl⟩
    obtain ⟨n2, hn2⟩ : ∃ n2, (firstM xs).cs.length = n2 := ⟨_, rfl⟩
    rw [hlg, hon, hn2] at HR y2 ⊢
    rw [hlg] at y0
    rw [hlg, hon] at y1
    unfold W3 at y2 HR
    clear hm hc2 hmb hrm hcw hlg hon hn2 HZ HF
    go_wp2
    refine bodyPost_ret (v := .agg #[.int .i64 lg, .bool on, .slice a2 n2 c2]) (by simp [results, Tryz.results5, go_sem, y0, y1, y2]; try rfl) rfl ?_
    exact ⟨_, rfl, HR.out⟩

end Go.Proofs.YtokeoebhmjefoaaGreat
