/- Texts that other texts of this claim rest on, one behind the other (KqBase KqHeap KqSwap KqOps KqMath HsHist HpA HpAB NqBase NqMath NqHeap NqSwap NqDiv NqOps NqFill NqThin NmProg BwParts BwMany BfRead ApBytes SpProgA SpProgB SpProg DtProg SpEx DtAwake OpInts NmSome OpU16 NmRefC NmSomeQ). -/
import Derived.Test.YtbopamcnlocdbaaBase2
import Derived.Handy
import Derived.StillTailTactics
import Derived.BigRegion
import Derived.Deep.RegionHeld3
import Derived.WalkSmall
import Derived.OneCell
import Derived.Deep.AppendLies
import Derived.Deep.RegionLaw
import Derived.BigQuiet
/- spread's keys in memory, those that are right; spread's queue as container/heap asks for it. THIS SPEAKS OF THE PROGRAM'S OWN TEXT. -/
namespace Go.Proofs.Ytbopamcnlocdbaa
open Go.RowKit

/-- a key that is right -/
abbrev Kr := { k : Ky // k.right }
instance : Inhabited Kr := ⟨⟨⟨1, 1, 0⟩, by decide⟩⟩
def kvl (k : Kr) : List Value := [.int .i64 k.1.I, .int .i64 k.1.Q, .int .i64 k.1.S]
def kvs (l : List Kr) : List Value := l.flatMap kvl
theorem kvs_cons (a : Kr) (l : List Kr) : kvs (a :: l) = kvl a ++ kvs l := by simp [kvs]
theorem kvs_append (a b : List Kr) : kvs (a ++ b) = kvs a ++ kvs b := by simp [kvs]
theorem kvs_length (l : List Kr) : (kvs l).length = l.length * 3 := by
  induction l with
  | nil => rfl
  | cons c r ih => rw [kvs_cons, List.length_append, ih]; simp [kvl]; omega
theorem kvs_get (l : List Kr) (j : Nat) (h : j < l.length) : (kvs l)[j * 3]? = some (.int .i64 (l.getD j default).1.I) ∧ (kvs l)[j * 3 + 1]? = some (.int .i64 (l.getD j default).1.Q) ∧ (kvs l)[j * 3 + 2]? = some (.int .i64 (l.getD j default).1.S) := by
  induction l generalizing j with
  | nil => simp at h
  | cons c r ih =>
    rw [kvs_cons]
    cases j with
    | zero => exact ⟨rfl, rfl, rfl⟩
    | succ j =>
      have ih := ih j (by simpa using h)
      have hl : (kvl c).length = 3 := rfl
      rw [List.getElem?_append_right (by omega), List.getElem?_append_right (by omega), List.getElem?_append_right (by omega), hl,
        show (j + 1) * 3 - 3 = j * 3 by omega, show (j + 1) * 3 + 1 - 3 = j * 3 + 1 by omega, show (j + 1) * 3 + 2 - 3 = j * 3 + 2 by omega]
      exact ih
/-- three cells, one behind the other -/
def set3 (l : List Value) (k : Nat) (s : Kr) : List Value := ((l.set k (.int .i64 s.1.I)).set (k + 1) (.int .i64 s.1.Q)).set (k + 2) (.int .i64 s.1.S)
theorem kvs_set (l : List Kr) (j : Nat) (c : Kr) (h : j < l.length) : set3 (kvs l) (j * 3) c = kvs (l.set j c) := by
  unfold set3
  induction l generalizing j with
  | nil => simp at h
  | cons d r ih =>
    cases j with
    | zero => rw [List.set_cons_zero, kvs_cons, kvs_cons]; rfl
    | succ j =>
      have ih := ih j (by simpa using h)
      have hl : (kvl d).length = 3 := rfl
      rw [List.set_cons_succ, kvs_cons, kvs_cons, ← ih, List.set_append_right _ _ (by omega), List.set_append_right _ _ (by omega), List.set_append_right _ _ (by omega), hl,
        show (j + 1) * 3 - 3 = j * 3 by omega, show (j + 1) * 3 + 1 - 3 = j * 3 + 1 by omega, show (j + 1) * 3 + 2 - 3 = j * 3 + 2 by omega]
theorem kvs_one (xs : List Kr) : ∀ u ∈ kvs xs, u.oneCell' = true := by
  intro u hu
  simp only [kvs, List.mem_flatMap, kvl] at hu
  obtain ⟨x, _, hx⟩ := hu
  simp at hx
  rcases hx with rfl | rfl | rfl <;> rfl

theorem Try.infoKey : (Try.prog.info? 63).map (fun i => (i.zero, i.size, i.bytes)) = some (some (.agg #[.int .i64 0, .int .i64 0, .int .i64 0]), 3, 24) := by kernel_rfl

/-- which of two right keys is less -/
def lessB (a b : Kr) : Bool := decide (cmpR a.1 b.1 < 0)
theorem lessB_ord : TotalOrd (noLess lessB) := by
  constructor
  · intro a b
    unfold noLess lessB
    have := cmpR_turn a.1 b.1
    rw [decide_eq_false_iff_not, decide_eq_false_iff_not]; omega
  · intro a b c h1 h2
    unfold noLess lessB at *
    rw [decide_eq_false_iff_not] at *
    have ha := a.2.1; have hb := b.2.1; have hc := c.2.1
    have := cmpR_trans2 (show 0 < c.1.Q by omega) (show 0 < b.1.Q by omega) (show 0 < a.1.Q by omega) (show 0 ≤ cmpR c.1 b.1 by omega) (show 0 ≤ cmpR b.1 a.1 by omega)
    omega

/-- the queue at block b, whose keys v stand in memory from block B on: the block X is neither of them -/
def FarK (b B X : Nat) (v : Value) (w : World) : Prop := B ≤ b ∧ b ≠ X ∧ v.ownBlock ≠ some X ∧ X < w.heap.size
/-- the queue at block b, whose keys stand in memory from block B on; X is a block that it leaves alone -/
def Kq (b B X : Nat) (w : World) (l : List Kr) : Prop := ∃ v, w.heap[b]? = some (.cells #[v] 75 (0, 0)) ∧ w.ownsRow B 63 3 v l.length (kvs l) ∧ l.length ≤ 100000 ∧ FarK b B X v w
/-- the blocks that it may turn -/
def Sk (B X k : Nat) : Prop := B ≤ k ∧ k ≠ X

end Go.Proofs.Ytbopamcnlocdbaa

/- What the methods of spread's queue do: Len, Less. THIS SPEAKS OF THE PROGRAM'S OWN TEXT. -/
namespace Go.Proofs.Ytbopamcnlocdbaa
open Go.RowKit

section
variable {b B X : Nat} {w : World} {l : List Kr}

theorem kown_form {v : Value} {n : Nat} {xs : List Value} (h : w.ownsRow B 63 3 v n xs) : ∃ ao cap, v = .slice ao n cap := by
  rcases h.2 with ⟨rfl, rfl⟩ | ⟨g, cap, cur, rfl, _⟩
  · exact ⟨_, _, rfl⟩
  · exact ⟨_, _, rfl⟩
theorem kown_ne {v : Value} {n : Nat} {xs : List Value} {cs : Array Value} {fr : Nat × Nat} (h : w.ownsRow B 63 3 v n xs) (hb : w.heap[b]? = some (.cells cs 75 fr)) : v.ownBlock ≠ some b := by
  intro he
  rcases h.2 with ⟨rfl, rfl⟩ | ⟨g, cap, cur, rfl, _, hg, _⟩
  · cases he
  · simp only [Value.ownBlock, Option.some.injEq] at he
    subst he
    rw [hb] at hg
    simp at hg
theorem Kq.cells (h : Kq b B X w l) : ∃ ao cap, w.cell? ⟨b, 0, none⟩ = some (.slice ao l.length cap) ∧ w.frozen? ⟨b, 0, none⟩ = false ∧ w.ownsRow B 63 3 (.slice ao l.length cap) l.length (kvs l) ∧ l.length ≤ 100000 := by
  obtain ⟨v, h1, h2, h3, h4⟩ := h
  obtain ⟨ao, cap, rfl⟩ := kown_form h2
  exact ⟨ao, cap, by rw [cell_of_row w b 0 _ _ _ h1]; rfl, frozen_of_row w b _ _ _ h1, h2, h3⟩
theorem Kq.kept {S : Nat → Prop} {w' : World} (h : Kq b B X w l) (hc : Chg S w w') (hS : ∀ k, Sk B X k → ¬ S k) : Kq b B X w' l := by
  obtain ⟨v, h1, h2, h3, h4, h5, h6, h7⟩ := h
  refine ⟨v, (hc.block b (lt_of_block h1) (hS b ⟨h4, h5⟩)).trans h1, hc.own h2 ?_, h3, h4, h5, h6, Nat.lt_of_lt_of_le h7 hc.size⟩
  intro k hk
  exact hS k ⟨(h2.lt k hk).1, fun he => h6 (by rw [hk, he])⟩
theorem Kq.small (h : Kq b B X w l) : l.length < 1000000000 := by obtain ⟨v, h1, h2, h3, h4⟩ := h; omega

set_option maxHeartbeats 1000000 in
theorem kqlen_any (h : Kq b B X w l) : Calls Try.prog 31 #[.pointer (some ⟨b, 0, none⟩)] w fun e w' => e = .returned (.int .i64 ((l.length : Nat) : Int)) ∧ Kq b B X w' l ∧ Chg (Sk B X) w w' := by
  obtain ⟨ao, cap, h1, -, -⟩ := h.cells
  have H := Lib.hid h
  clear h
  go_enter Try.func31, Try.ntmps31
  go_wp2
  go_ret
  exact ⟨rfl, H.out, Chg.refl _ _⟩

theorem kown_slice {w : World} {ao : Option Addr} {n cap : Nat} {xs : List Value} (h : w.ownsRow B 63 3 (.slice ao n cap) n xs) (hn : 0 < n) : ∃ g, ao = some ⟨g, 0, none⟩ ∧ B ≤ g := by
  rcases h.2 with ⟨h1, h2⟩ | ⟨g, cap', cur, he, hb, hg, _⟩
  · omega
  · simp only [Value.slice.injEq] at he
    exact ⟨g, he.1, hb⟩
theorem kown_at {w : World} {g n cap : Nat} (h : w.ownsRow B 63 3 (.slice (some ⟨g, 0, none⟩) n cap) n (kvs l)) (hl : l.length = n) (i : Nat) (hi : i < n) :
    w.cell? ⟨g, i * 3, none⟩ = some (.int .i64 (l.getD i default).1.I) ∧ w.cell? ⟨g, i * 3 + 1, none⟩ = some (.int .i64 (l.getD i default).1.Q) ∧ w.cell? ⟨g, i * 3 + 2, none⟩ = some (.int .i64 (l.getD i default).1.S) := by
  have hg := kvs_get l i (by omega)
  rw [h.cellAt (i * 3) (by omega), h.cellAt (i * 3 + 1) (by omega), h.cellAt (i * 3 + 2) (by omega)]
  exact hg

set_option maxHeartbeats 1000000 in
theorem kqless_any (h : Kq b B X w l) (i j : Nat) (hi : i < l.length) (hj : j < l.length) :
    Calls Try.prog 70 #[.pointer (some ⟨b, 0, none⟩), .int .i64 (i : Int), .int .i64 (j : Int)] w fun e w' => e = .returned (.bool (lessB (l.getD i default) (l.getD j default))) ∧ Kq b B X w' l ∧ Chg (Sk B X) w w' := by
  obtain ⟨ao, cap, h1, -, h3, h4⟩ := h.cells
  obtain ⟨g, rfl, hg⟩ := kown_slice h3 (by omega)
  obtain ⟨n, hn⟩ : ∃ n, l.length = n := ⟨_, rfl⟩
  rw [hn] at h1 h3 hi hj
  obtain ⟨a0, a1, a2⟩ := kown_at h3 hn i hi
  obtain ⟨c0, c1, c2⟩ := kown_at h3 hn j hj
  have H := Lib.hid h
  obtain ⟨x, hx⟩ : ∃ x, l.getD i default = x := ⟨_, rfl⟩
  obtain ⟨y, hy⟩ : ∃ y, l.getD j default = y := ⟨_, rfl⟩
  rw [hx] at a0 a1 a2 ⊢
  rw [hy] at c0 c1 c2 ⊢
  have hfx := kcmp_any x.1 y.1 w.drew x.2.fits y.2.fits
  have hc0 : cmpK x.1 y.1 = cmpR x.1 y.1 := by unfold cmpK; rw [if_pos ⟨x.2, y.2⟩]
  rw [hc0] at hfx
  unfold lessB
  obtain ⟨c, hcc⟩ : ∃ c, cmpR x.1 y.1 = c := ⟨_, rfl⟩
  rw [hcc] at hfx ⊢
  have hin : (i : Int) < (n : Int) := by omega
  have hjn : (j : Int) < (n : Int) := by omega
  obtain ⟨⟨s1, k1, p1⟩, hx2⟩ := x
  obtain ⟨⟨s2, k2, p2⟩, hy2⟩ := y
  unfold kv at hfx
  simp only [] at hfx a0 a1 a2 c0 c1 c2
  have HF := Lib.hid hfx
  clear h h3 hfx hn hx hy hc0 hcc hx2 hy2
  go_enter Try.func70, Try.ntmps70
  go_wp2
  go_still_tail 14, (by kernel_rfl)
  change wpList _ _ _ _ _ w.drew
  go_wp2_with fail
  refine HF.out.mono ?_
  rintro e w2 ⟨rfl, hc⟩
  have HC := Lib.hid hc
  clear hc
  go_wp2
  go_ret
  have hcw : Chg (fun _ => False) w w2 := (Chg.refl (fun _ => False) w).drew.trans HC.out (fun _ _ h => h)
  exact ⟨rfl, H.out.kept hcw (by simp), hcw.mono fun _ _ h => h.elim⟩

end

end Go.Proofs.Ytbopamcnlocdbaa

/- What Swap, Pop and Push of spread's queue do. THIS SPEAKS OF THE PROGRAM'S OWN TEXT. -/
namespace Go.Proofs.Ytbopamcnlocdbaa
open Go.RowKit

section
variable {b B X : Nat} {w : World} {l : List Kr}

/-- three cells of the block g, one behind the other -/
def W3k (w : World) (g k : Nat) (s : Kr) : World := ((w.setCell ⟨g, k, none⟩ (.int .i64 s.1.I)).setCell ⟨g, k + 1, none⟩ (.int .i64 s.1.Q)).setCell ⟨g, k + 2, none⟩ (.int .i64 s.1.S)
theorem W3k_chg (w : World) (g k : Nat) (s : Kr) : Chg (fun q => q = g) w (W3k w g k s) :=
  ((Chg.setCell w ⟨g, k, none⟩ _).trans (Chg.setCell _ ⟨g, k + 1, none⟩ _) fun _ _ h => h).trans (Chg.setCell _ ⟨g, k + 2, none⟩ _) fun _ _ h => h
theorem kown_W3 {g n cap : Nat} (h : w.ownsRow B 63 3 (.slice (some ⟨g, 0, none⟩) n cap) n (kvs l)) (hl : l.length = n) (i : Nat) (hi : i < n) (s : Kr) :
    (W3k w g (i * 3) s).ownsRow B 63 3 (.slice (some ⟨g, 0, none⟩) n cap) n (kvs (l.set i s)) := by
  rw [← kvs_set l i s (by omega)]
  exact ((((h.stored (i * 3) _).1.stored (i * 3 + 1) _).1.stored (i * 3 + 2) _).1)

set_option maxHeartbeats 4000000 in
theorem kqswap_any (h : Kq b B X w l) (i j : Nat) (hi : i < l.length) (hj : j < l.length) :
    Calls Try.prog 73 #[.pointer (some ⟨b, 0, none⟩), .int .i64 (i : Int), .int .i64 (j : Int)] w fun e w' => e = .returned (.tuple #[]) ∧ Kq b B X w' (swp l i j) ∧ Chg (Sk B X) w w' := by
  obtain ⟨ao, cap, h1, -, h3, h4⟩ := h.cells
  obtain ⟨g, rfl, hg⟩ := kown_slice h3 (by omega)
  have hgX : g ≠ X := by
    obtain ⟨v, q1, q2, q3, q4, q5, q6, q7⟩ := h
    have e1 : w.cell? ⟨b, 0, none⟩ = some v := by rw [cell_of_row w b 0 _ _ _ q1]; rfl
    rw [e1] at h1
    obtain rfl := Option.some.inj h1
    exact fun he => q6 (by rw [he]; rfl)
  obtain ⟨n, hn⟩ : ∃ n, l.length = n := ⟨_, rfl⟩
  rw [hn] at h1 h3 hi hj
  obtain ⟨a0, a1, a2⟩ := kown_at h3 hn i hi
  obtain ⟨c0, c1, c2⟩ := kown_at h3 hn j hj
  have f0 := h3.frozenAt (i * 3)
  have f1 := h3.frozenAt (i * 3 + 1)
  have f2 := h3.frozenAt (i * 3 + 2)
  have g0 := h3.frozenAt (j * 3)
  have g1 := h3.frozenAt (j * 3 + 1)
  have g2 := h3.frozenAt (j * 3 + 2)
  have H := Lib.hid h
  have hsw : swp l i j = (l.set i (l.getD j default)).set j (l.getD i default) := rfl
  rw [hsw]
  obtain ⟨x, hx⟩ : ∃ x, l.getD i default = x := ⟨_, rfl⟩
  obtain ⟨y, hy⟩ : ∃ y, l.getD j default = y := ⟨_, rfl⟩
  rw [hx] at a0 a1 a2 ⊢
  rw [hy] at c0 c1 c2 ⊢
  have hin : (i : Int) < (n : Int) := by omega
  have hjn : (j : Int) < (n : Int) := by omega
  have h5 := kown_W3 h3 hn i hi y
  have h6 := kown_W3 h5 (by simpa using hn) j hj x
  obtain ⟨d0, d1, d2⟩ := kown_at h5 (by simpa using hn) j hj
  obtain ⟨z, hz⟩ : ∃ z, (l.set i y).getD j default = z := ⟨_, rfl⟩
  rw [hz] at d0 d1 d2
  have hc6 : Chg (Sk B X) w (W3k (W3k w g (i * 3) y) g (j * 3) x) := ((W3k_chg w g (i * 3) y).trans (W3k_chg _ g (j * 3) x) fun _ _ h => h).mono fun k _ hk => by rw [hk]; exact ⟨hg, hgX⟩
  have hq6 : Kq b B X (W3k (W3k w g (i * 3) y) g (j * 3) x) ((l.set i y).set j x) := by
    obtain ⟨v, q1, q2, q3, q4⟩ := h
    have e1 : w.cell? ⟨b, 0, none⟩ = some v := by rw [cell_of_row w b 0 _ _ _ q1]; rfl
    rw [e1] at h1
    obtain rfl := Option.some.inj h1
    have hne := kown_ne q2 q1
    have hbg : b ≠ g := fun he => hne (by rw [he]; rfl)
    refine ⟨_, (((W3k_chg w g (i * 3) y).trans (W3k_chg _ g (j * 3) x) fun _ _ h => h).block b (lt_of_block q1) hbg).trans q1, ?_, by simpa using q3, q4.1, q4.2.1, q4.2.2.1, Nat.lt_of_lt_of_le q4.2.2.2 hc6.size⟩
    have : ((l.set i y).set j x).length = n := by simpa using hn
    rw [this]
    exact h6
  have HC6 := Lib.hid hc6; have HQ6 := Lib.hid hq6
  clear h h3 hn hsw h5 h6 hz hc6 hq6 hgX
  unfold W3k at d0 d1 d2 HC6 HQ6
  clear hx hy
  obtain ⟨⟨t1, t2, t3⟩, hz2⟩ := z
  obtain ⟨⟨s1, k1, p1⟩, hx2⟩ := x
  obtain ⟨⟨s2, k2, p2⟩, hy2⟩ := y
  simp only [] at a0 a1 a2 c0 c1 c2 d0 d1 d2 HC6 HQ6
  have HXYZ := Lib.hid (And.intro hz2 (And.intro hx2 hy2))
  go_enter Try.func73, Try.ntmps73
  go_wp2
  go_region
  go_wp2
  go_returns
  exact ⟨rfl, HQ6.out.kept ((Chg.refl (fun _ => False) _).drew) (by simp), HC6.out.drew⟩

/-- a queue whose keys lie elsewhere now -/
theorem Kq.turn {w' : World} {v v' : Value} {l' : List Kr} (h1 : w.heap[b]? = some (.cells #[v] 75 (0, 0))) (hown : w'.ownsRow B 63 3 v' l'.length (kvs l')) (hn : l'.length ≤ 100000) (hb : FarK b B X v' w') (hk : w'.heap[b]? = w.heap[b]?) :
    Kq b B X (w'.setCell ⟨b, 0, none⟩ v') l' := by
  have h2 := hk.trans h1
  refine ⟨v', ?_, ownsRow_setCell_other hown (kown_ne hown h2) v', hn, hb.1, hb.2.1, hb.2.2.1, by simpa [World.setCell] using hb.2.2.2⟩
  rw [heap_setCell_same w' b 0 _ _ v' h2]
  rfl

set_option maxHeartbeats 1000000 in
theorem kqpop_any (x : Kr) (h : Kq b B X w (l ++ [x])) :
    Calls Try.prog 71 #[.pointer (some ⟨b, 0, none⟩)] w fun e w' => e = .returned (.iface 63 (kv x.1)) ∧ Kq b B X w' l ∧ Chg (Sk B X) w w' := by
  obtain ⟨v, q1, q2, q3, q4⟩ := h
  have h1 : w.cell? ⟨b, 0, none⟩ = some v := by rw [cell_of_row w b 0 _ _ _ q1]; rfl
  have hf := frozen_of_row w b 0 _ _ q1
  obtain ⟨n, hn⟩ : ∃ n, l.length = n := ⟨_, rfl⟩
  have hlx : (l ++ [x]).length = n + 1 := by simp [hn]
  rw [hlx] at q2 q3
  have hx : (l ++ [x]).getD n default = x := by rw [List.getD_eq_getElem?_getD, List.getElem?_append_right (by omega)]; simp [hn]
  rcases q2.2 with ⟨_, h0⟩ | ⟨g, cap, cur, rfl, hg, hh, hnc, hcm, hsz, htk⟩
  · omega
  obtain ⟨a0, a1, a2⟩ := kown_at q2 hlx n (by omega)
  rw [hx] at a0 a1 a2
  have hpop : w.ownsRow B 63 3 (.slice (some ⟨g, 0, none⟩) n cap) l.length (kvs l) := by
    rw [hn]
    rw [kvs_append] at q2
    exact ownsRow_pop (by rw [kvs_length, hn]) q2
  obtain ⟨⟨s1, kk1, p1⟩, hxr⟩ := x
  have hca := Chg.alloc (fun _ => False) w (.cells #[.int .i64 s1, .int .i64 kk1, .int .i64 p1] 63)
  have hnew := heap_alloc_new w (.cells #[.int .i64 s1, .int .i64 kk1, .int .i64 p1] 63)
  have hown2 := hpop.alloc (.cells #[.int .i64 s1, .int .i64 kk1, .int .i64 p1] 63)
  obtain ⟨W1, hW1⟩ : ∃ W1, w.alloc (.cells #[.int .i64 s1, .int .i64 kk1, .int .i64 p1] 63) = W1 := ⟨_, rfl⟩
  rw [hW1] at hca hnew hown2
  have hc1 : Chg (Sk B X) w (W1.setCell ⟨b, 0, none⟩ (.slice (some ⟨g, 0, none⟩) n cap)) := (hca.mono (T := Sk B X) fun _ _ h => h.elim).trans (Chg.setCell W1 ⟨b, 0, none⟩ _) fun k _ hk => by rw [hk]; exact ⟨q4.1, q4.2.1⟩
  have hq1 : Kq b B X (W1.setCell ⟨b, 0, none⟩ (.slice (some ⟨g, 0, none⟩) n cap)) l := Kq.turn q1 hown2 (by omega) ⟨q4.1, q4.2.1, q4.2.2.1, Nat.lt_of_lt_of_le q4.2.2.2 hca.size⟩ (hca.block b (lt_of_block q1) (by simp))
  have hnew2 : (W1.setCell ⟨b, 0, none⟩ (.slice (some ⟨g, 0, none⟩) n cap)).heap[w.heap.size]? = _ := (heap_setCell_other W1 ⟨b, 0, none⟩ w.heap.size _ (fun e => by have := lt_of_block q1; simp at e; omega)).trans hnew
  have z0 : (W1.setCell ⟨b, 0, none⟩ (.slice (some ⟨g, 0, none⟩) n cap)).cell? ⟨w.heap.size, 0, none⟩ = some (.int .i64 s1) := by rw [cell_of_row _ _ 0 _ _ _ hnew2]; rfl
  have z1 : (W1.setCell ⟨b, 0, none⟩ (.slice (some ⟨g, 0, none⟩) n cap)).cell? ⟨w.heap.size, 1, none⟩ = some (.int .i64 kk1) := by rw [cell_of_row _ _ 1 _ _ _ hnew2]; rfl
  have z2 : (W1.setCell ⟨b, 0, none⟩ (.slice (some ⟨g, 0, none⟩) n cap)).cell? ⟨w.heap.size, 2, none⟩ = some (.int .i64 p1) := by rw [cell_of_row _ _ 2 _ _ _ hnew2]; rfl
  have HC := Lib.hid hc1; have HQ := Lib.hid hq1
  have k1 : W1.cell? ⟨b, 0, none⟩ = some (.slice (some ⟨g, 0, none⟩) (n + 1) cap) := by
    rw [World.cell?_of_block (w := w) (hca.block b (lt_of_block q1) (by simp))]; exact h1
  have k2 : W1.frozen? ⟨b, 0, none⟩ = false := by
    rw [World.frozen?_of_block (w := w) (hca.block b (lt_of_block q1) (by simp))]; exact hf
  have hb : ((n + 1 : Nat) : Int) ≤ 100000 := by omega
  obtain ⟨n1, hn1⟩ : ∃ n1, n + 1 = n1 := ⟨_, rfl⟩
  have e1 : (n1 : Int) - 1 = (n : Int) := by omega
  have e2 : wrap64 (n : Int) = (n : Int) := by unfold wrap64; omega
  have e3 : (n : Int) < (n1 : Int) := by omega
  have e4 : n ≤ cap := Nat.le_of_lt hnc
  rw [hn1] at h1 hb k1
  clear hc1 hq1 hpop hnew hnew2 hown2 hca q1 q2 q3 q4 hx hlx hn htk hsz hcm hnc hh hg
  unfold kv
  simp only [] at a0 a1 a2 ⊢
  clear hxr
  have e5 : n < n1 := by omega
  clear hn1
  go_enter Try.func71, Try.ntmps71
  go_wp2
  go_returns
  exact ⟨rfl, HQ.out, HC.out⟩

theorem Try.asKey (v : Value) (w : World) : (Instr.typeAssert (.iface 63 v) 20 63 false).run Try.prog w = .ok v w := by kernel_rfl

/-- append of one key, in a region that draws -/
theorem step_append_key {ops : Array Oper} {o : Oper} {a : Act} {W : World} {K : Act → World → Prop} {Q : Exit → Act → World → Prop} {E : Prop} (hgd : o.guard = none) (s x : Operand)
    (ho : o.op = .call { callee := .builtin .append, args := #[s, x], argTypes := #[73, 73] })
    (B : Nat) (v : Value) (l : List Kr) (y : Kr) (hs : a.eval s = v) (hown : W.ownsRow B 63 3 v l.length (kvs l)) (G : Nat) (hx : a.eval x = .slice (some ⟨G, 0, none⟩) 1 1)
    (hblk : W.heap[G]? = some (.cells (kvl y).toArray 63 (0, 0))) (hl : l.length ≤ 100000) (hB : B ≤ W.heap.size)
    (n1 : Nat) (hn1 : n1 = l.length + 1) (h : ∀ g cap w', w'.ownsRow B 63 3 (.slice (some ⟨g, 0, none⟩) n1 cap) (l ++ [y]).length (kvs (l ++ [y])) → Chg (fun k => some k = v.ownBlock) W w' → (v.ownBlock = some g ∨ g = W.heap.size) → K (a.put o.dst (.slice (some ⟨g, 0, none⟩) n1 cap)) w') :
    if Region.wanted o (yielded ops a.tmps) = true then Oper.wp Try.prog o a W K Q else E := by
  subst hn1
  obtain ⟨i, hi, hz0, hz1, hz2⟩ := info_parts Try.infoKey
  refine step_append_lies W hgd s x 73 ho B 63 i (.agg #[.int .i64 0, .int .i64 0, .int .i64 0]) 3 24 Try.underlying73 hi hz0 hz1 hz2 rfl (by decide) v l.length (kvs l) hs hown ⟨G, 0, none⟩ 1 1 (kvl y) hx rfl (World.news_of_block hblk)
    (fun u hu => kvs_one [y] u (by simpa [kvs] using hu)) (by decide) (by unfold maxLen; omega) (by omega) hB _ rfl fun g cap w' h2 h3 h4 _ => ?_
  exact h g cap w' (by rw [List.length_append, kvs_append, List.length_singleton]; simpa [kvs] using h2) (Chg.of_grown h3) h4

set_option maxHeartbeats 2000000 in
theorem kqpush_any (x : Kr) (h : Kq b B X w l) (hl : l.length < 100000) :
    Calls Try.prog 72 #[.pointer (some ⟨b, 0, none⟩), .iface 63 (kv x.1)] w fun e w' => e = .returned (.tuple #[]) ∧ Kq b B X w' (l ++ [x]) ∧ Chg (Sk B X) w w' := by
  obtain ⟨v, q1, q2, q3, q4⟩ := h
  have h1 : w.cell? ⟨b, 0, none⟩ = some v := by rw [cell_of_row w b 0 _ _ _ q1]; rfl
  have hf := frozen_of_row w b 0 _ _ q1
  have hlt := lt_of_block q1
  have hne := kown_ne q2 q1
  have HY := Lib.hid (show ∀ r, x = r → r = x from fun r h => h.symm)
  obtain ⟨y, hy⟩ : ∃ y, x = y := ⟨_, rfl⟩
  obtain ⟨⟨s1, k1, p1⟩, hxr⟩ := x
  have hyl : kvl y = [.int .i64 s1, .int .i64 k1, .int .i64 p1] := by rw [← hy]; rfl
  have ho1 := q2.alloc (.cells #[.int .i64 s1, .int .i64 k1, .int .i64 p1] 63)
  have hblk := heap_alloc_new w (.cells (kvl y).toArray 63)
  rw [hyl] at hblk
  obtain ⟨n1, hn1⟩ : ∃ n1, n1 = l.length + 1 := ⟨_, rfl⟩
  have HN1 := Lib.hid hn1
  clear hn1
  have hstep : ∀ g cap w', w'.ownsRow B 63 3 (.slice (some ⟨g, 0, none⟩) n1 cap) (l ++ [y]).length (kvs (l ++ [y])) → Chg (fun k => some k = v.ownBlock) (w.alloc (.cells #[.int .i64 s1, .int .i64 k1, .int .i64 p1] 63)).drew w' → (v.ownBlock = some g ∨ g = (w.alloc (.cells #[.int .i64 s1, .int .i64 k1, .int .i64 p1] 63)).drew.heap.size) →
      w'.cell? ⟨b, 0, none⟩ = some v ∧ w'.frozen? ⟨b, 0, none⟩ = false ∧ Hid (Kq b B X (w'.setCell ⟨b, 0, none⟩ (.slice (some ⟨g, 0, none⟩) n1 cap)) (l ++ [y]) ∧ Chg (Sk B X) w (w'.setCell ⟨b, 0, none⟩ (.slice (some ⟨g, 0, none⟩) n1 cap))) := by
    intro g cap w' ho hc hlies
    have hca : Chg (fun k => some k = v.ownBlock) w w' := ((Chg.alloc _ w _).drew).trans hc fun _ _ h => h
    have hb2 := hca.block b hlt (fun he => hne he.symm)
    have hfar : FarK b B X (.slice (some ⟨g, 0, none⟩) n1 cap) w' := by
      refine ⟨q4.1, q4.2.1, ?_, Nat.lt_of_lt_of_le q4.2.2.2 hca.size⟩
      have hX := q4.2.2.2
      rcases hlies with h | h
      · intro he
        exact q4.2.2.1 (by rw [h]; exact he)
      · intro he
        simp only [Value.ownBlock, Option.some.injEq] at he
        rw [h] at he
        simp [World.drew] at he
        omega
    refine ⟨?_, ?_, Lib.hid ⟨Kq.turn q1 ho (by simp; omega) hfar hb2, ?_⟩⟩
    · rw [World.cell?_of_block (w := w) hb2]; exact h1
    · rw [World.frozen?_of_block (w := w) hb2]; exact hf
    · refine (hca.mono (T := Sk B X) fun k _ hk => ⟨(q2.lt k hk.symm).1, fun he => q4.2.2.1 (by rw [← hk, he])⟩).trans (Chg.setCell w' ⟨b, 0, none⟩ _) fun k _ hk => by rw [hk]; exact ⟨q4.1, q4.2.1⟩
  have hBw : B ≤ w.heap.size := by have := q4.1; omega
  have hkeep : ∀ o, (w.alloc o).cell? ⟨b, 0, none⟩ = some v := fun o => by
    have : (w.alloc o).heap[b]? = w.heap[b]? := Below.heap_alloc w o b hlt
    rw [World.cell?_of_block (w := w) this]; exact h1
  have hblk2 : (w.alloc (.cells #[.int .i64 s1, .int .i64 k1, .int .i64 p1] 63)).drew.heap[w.heap.size]? = some (.cells (kvl y).toArray 63 (0, 0)) := by rw [hyl]; exact hblk
  have HST := Lib.hid hstep; have HO := Lib.hid ho1; have HB := Lib.hid hblk2; have HBW := Lib.hid (show B ≤ (w.alloc (.cells #[.int .i64 s1, .int .i64 k1, .int .i64 p1] 63)).drew.heap.size by simp [World.drew]; omega); have HL := Lib.hid (Nat.le_of_lt hl); have HYE := Lib.hid hy
  clear hstep ho1 hblk hblk2 hBw q1 q2 q3 q4 hlt hne hl hyl hy HY
  unfold kv
  simp only []
  have has := Try.asKey
  go_enter Try.func72, Try.ntmps72
  go_wp2
  go_region_law ((refine step_append_key rfl (.tmp 8) (.tmp 11) rfl B v l y rfl HO.out.drew w.heap.size rfl HB.out HL.out HBW.out n1 HN1.out ?_; intro g cap w2 ho2 hc2 hl2; obtain ⟨e1, e2, HQQ⟩ := HST.out _ _ w2 ho2 hc2 hl2; clear ho2 hc2 hl2))
  all_goals
    go_wp2
    go_returns
    refine ⟨rfl, ?_, HQQ.out.2⟩
    rw [HYE.out]
    exact HQQ.out.1

end

end Go.Proofs.Ytbopamcnlocdbaa

/- spread's queue is a heap; what its add and least do. THIS SPEAKS OF THE PROGRAM'S OWN TEXT. -/
namespace Go.Proofs.Ytbopamcnlocdbaa
open Go.RowKit

section
variable {b B X : Nat} {w : World} {l : List Kr}

theorem kmethLen (a : Addr) (w : World) : (method 211 59 (.pointer (some a)) "Len").run Try.prog w = .ok (31, .pointer (some a)) w := by kernel_rfl
theorem kmethLess (a : Addr) (w : World) : (method 211 59 (.pointer (some a)) "Less").run Try.prog w = .ok (70, .pointer (some a)) w := by kernel_rfl
theorem kmethSwap (a : Addr) (w : World) : (method 211 59 (.pointer (some a)) "Swap").run Try.prog w = .ok (73, .pointer (some a)) w := by kernel_rfl
theorem kmethPush (a : Addr) (w : World) : (method 211 59 (.pointer (some a)) "Push").run Try.prog w = .ok (72, .pointer (some a)) w := by kernel_rfl
theorem kmethPop (a : Addr) (w : World) : (method 211 59 (.pointer (some a)) "Pop").run Try.prog w = .ok (71, .pointer (some a)) w := by kernel_rfl

theorem kqueue_hp : HpB (.pointer (some ⟨b, 0, none⟩)) (Kq b B X) lessB (Sk B X) where
  len := fun w l h => ⟨_, kmethLen _ w, kqlen_any h⟩
  less := fun w l h => ⟨_, kmethLess _ w, fun i j hi hj => kqless_any h i j hi hj⟩
  swap := fun w l h => ⟨_, kmethSwap _ w, fun i j hi hj => kqswap_any h i j hi hj⟩
  small := fun w l h => h.small
theorem kqueue_pushes (x : Kr) : HpBPushes (.pointer (some ⟨b, 0, none⟩)) (Kq b B X) (Sk B X) (fun s => .iface 63 (kv s.1)) x := fun w l h hl => ⟨_, kmethPush _ w, kqpush_any x h hl⟩
theorem kqueue_pops : HpBPops (.pointer (some ⟨b, 0, none⟩)) (Kq b B X) (Sk B X) (fun s => .iface 63 (kv s.1)) := fun w l x h => ⟨_, kmethPop _ w, kqpop_any x h⟩

/-- the queue that holds the keys l, in a heap's order -/
def Kh (b B : Nat) (w : World) (l : List Kr) : Prop := (∃ v, w.heap[b]? = some (.cells #[v] 75 (0, 0)) ∧ w.ownsRow B 63 3 v l.length (kvs l) ∧ l.length ≤ 100000 ∧ B ≤ b) ∧ Heap (noLess lessB) l l.length
theorem Kh.of (h : Kq b B X w l) (hh : Heap (noLess lessB) l l.length) : Kh b B w l := by
  obtain ⟨v, h1, h2, h3, h4⟩ := h
  exact ⟨⟨v, h1, h2, h3, h4.1⟩, hh⟩
theorem Kh.far (h : Kh b B w l) (o : Obj) : Kq b B w.heap.size (w.alloc o) l := by
  obtain ⟨⟨v, h1, h2, h3, h4⟩, _⟩ := h
  refine ⟨v, (Below.heap_alloc w o b (lt_of_block h1)).trans h1, h2.alloc o, h3, h4, ?_, ?_, by simp⟩
  · have := lt_of_block h1; omega
  · intro he; have := (h2.lt _ he).2; omega
theorem Kh.kept {S : Nat → Prop} {w' : World} (h : Kh b B w l) (hc : Chg S w w') (hS : ∀ k, B ≤ k → k < w.heap.size → ¬ S k) : Kh b B w' l := by
  obtain ⟨⟨v, h1, h2, h3, h4⟩, hh⟩ := h
  refine ⟨⟨v, (hc.block b (lt_of_block h1) (hS b h4 (lt_of_block h1))).trans h1, hc.own h2 ?_, h3, h4⟩, hh⟩
  intro k hk
  exact hS k (h2.lt k hk).1 (h2.lt k hk).2
theorem Kh.le (h : Kh b B w l) : B ≤ b ∧ b < w.heap.size := by obtain ⟨⟨v, h1, h2, h3, h4⟩, hh⟩ := h; exact ⟨h4, lt_of_block h1⟩

set_option maxHeartbeats 1000000 in
/-- Len, of a queue, which leaves all as it is -/
theorem kh_len (h : Kh b B w l) : Calls Try.prog 31 #[.pointer (some ⟨b, 0, none⟩)] w fun e w' => e = .returned (.int .i64 ((l.length : Nat) : Int)) ∧ w' = w := by
  obtain ⟨⟨v, h1, h2, h3, h4⟩, _⟩ := h
  obtain ⟨ao, cap, rfl⟩ := kown_form h2
  have hc : w.cell? ⟨b, 0, none⟩ = some (.slice ao l.length cap) := by rw [cell_of_row w b 0 _ _ _ h1]; rfl
  clear h1 h2 h3 h4
  go_enter Try.func31, Try.ntmps31
  go_wp2
  go_ret
  exact ⟨rfl, rfl⟩

set_option maxHeartbeats 1000000 in
theorem kqadd_any (x : Kr) (h : Kh b B w l) (hl : l.length < 100000) :
    Calls Try.prog 34 #[.pointer (some ⟨b, 0, none⟩), kv x.1] w fun e w' => e = .returned (.tuple #[]) ∧ ∃ l', Kh b B w' l' ∧ l'.Perm (x :: l) ∧ Chg (fun k => B ≤ k) w w' := by
  have hp : ∀ o, Calls Try.prog 45 #[.iface 59 (.pointer (some ⟨b, 0, none⟩)), .iface 63 (kv x.1)] (w.alloc o) fun e w' => e = .returned (.tuple #[]) ∧ ∃ l', Kh b B w' l' ∧ l'.Perm (x :: l) ∧ Chg (fun k => B ≤ k) w w' := by
    intro o
    refine (hpB_push lessB_ord kqueue_hp x (kqueue_pushes x) (w.alloc o) l (h.far o) hl h.2).mono ?_
    rintro e w' ⟨rfl, l', h1, h2, h3, h4⟩
    exact ⟨rfl, l', Kh.of h1 h3, h2, (Chg.alloc (fun k => B ≤ k) w o).trans h4 fun _ _ hk => hk.1⟩
  obtain ⟨y, hy⟩ : ∃ y : Kr → List Kr, (fun a => a :: l) = y := ⟨_, rfl⟩
  have hp2 : ∀ o, Calls Try.prog 45 #[.iface 59 (.pointer (some ⟨b, 0, none⟩)), .iface 63 (kv x.1)] (w.alloc o) fun e w' => e = .returned (.tuple #[]) ∧ ∃ l', Kh b B w' l' ∧ l'.Perm (y x) ∧ Chg (fun k => B ≤ k) w w' := by rw [← hy]; exact hp
  have hgoal : (x :: l) = y x := by rw [← hy]
  rw [hgoal]
  obtain ⟨r, hr⟩ : ∃ r, y x = r := ⟨_, rfl⟩
  rw [hr] at hp2 ⊢
  have HP := Lib.hid hp2
  clear hp hp2 h hl hy hgoal hr
  obtain ⟨⟨s1, k1, p1⟩, hxr⟩ := x
  unfold kv at HP ⊢
  simp only [] at HP ⊢
  clear hxr
  go_enter Try.func34, Try.ntmps34
  go_wp2_with fail
  refine (HP.out _).mono ?_
  rintro e w2 ⟨rfl, hh⟩
  have HH := Lib.hid hh
  clear hh HP
  go_wp2
  go_returns
  exact ⟨rfl, HH.out⟩

set_option maxHeartbeats 1000000 in
theorem kqleast_any (h : Kh b B w l) (hl : 0 < l.length) :
    Calls Try.prog 32 #[.pointer (some ⟨b, 0, none⟩)] w fun e w' => ∃ (x : Kr) (l' : List Kr), e = .returned (kv x.1) ∧ Kh b B w' l' ∧ l.Perm (x :: l') ∧ (∀ y ∈ l', noLess lessB x y) ∧ Chg (fun k => B ≤ k) w w' := by
  have hp : Calls Try.prog 43 #[.iface 59 (.pointer (some ⟨b, 0, none⟩))] (w.alloc (.cells #[.int .i64 0, .int .i64 0, .int .i64 0] 63)) fun e w' => ∃ (x : Kr) (l' : List Kr), e = .returned (.iface 63 (kv x.1)) ∧ (Kq b B w.heap.size w' l' ∧ Heap (noLess lessB) l' l'.length) ∧ l.Perm (x :: l') ∧ (∀ y ∈ l', noLess lessB x y) ∧ Chg (fun k => B ≤ k) w w' ∧
      w'.heap[w.heap.size]? = some (.cells #[.int .i64 0, .int .i64 0, .int .i64 0] 63 (0, 0)) ∧ B ≤ w.heap.size := by
    refine (hpB_pop lessB_ord kqueue_hp kqueue_pops _ l (h.far _) hl h.2).mono ?_
    rintro e w' ⟨x, l', rfl, h1, h2, h3, h4, h5⟩
    refine ⟨x, l', rfl, ⟨h1, h4⟩, h2, h3, (Chg.alloc (fun k => B ≤ k) w _).trans h5 fun _ _ hk => hk.1, ?_, ?_⟩
    · exact (h5.block w.heap.size (by simp) (fun hk => hk.2 rfl)).trans (heap_alloc_new w _)
    · have := h.le; omega
  have HP := Lib.hid hp
  have has := Try.asKey
  have hz := zeroKey
  clear hp h hl
  go_enter Try.func32, Try.ntmps32
  go_wp2_with fail
  refine (HP.out).mono ?_
  rintro e w2 ⟨x, l', rfl, h1, h2, h3, h4, h5, h6⟩
  obtain ⟨N, hN⟩ : ∃ N, w.heap.size = N := ⟨_, rfl⟩
  rw [hN] at h1 h5 h6 ⊢
  have hc3 := W3k_chg w2 N 0 x
  have hq3 := h1.1.kept hc3 (fun k hk he => hk.2 he)
  have HF := Lib.hid (show ∃ y, y = x.1 ∧ Kh b B (W3k w2 N 0 x) l' ∧ l.Perm (x :: l') ∧ (∀ y ∈ l', noLess lessB x y) ∧ Chg (fun k => B ≤ k) w (W3k w2 N 0 x) from
    ⟨_, rfl, Kh.of hq3 h1.2, h2, h3, h4.trans hc3 fun k _ hk => by rw [hk]; exact h6⟩)
  have z0 : w2.cell? ⟨N, 0, none⟩ = some (.int .i64 0) := by rw [cell_of_row _ _ 0 _ _ _ h5]; rfl
  have z1 : w2.cell? ⟨N, 1, none⟩ = some (.int .i64 0) := by rw [cell_of_row _ _ 1 _ _ _ h5]; rfl
  have z2 : w2.cell? ⟨N, 2, none⟩ = some (.int .i64 0) := by rw [cell_of_row _ _ 2 _ _ _ h5]; rfl
  have f0 := frozen_of_row w2 N 0 _ _ h5
  have f1 := frozen_of_row w2 N 1 _ _ h5
  have f2 := frozen_of_row w2 N 2 _ _ h5
  clear h1 h2 h3 h4 hc3 hq3 hN HP
  obtain ⟨⟨s1, k1, p1⟩, hxr⟩ := x
  have y0 : (w2.setCell ⟨N, 0, none⟩ (.int .i64 s1)).cell? ⟨N, 0, none⟩ = some (.int .i64 s1) := by rw [cell_of_row _ _ 0 _ _ _ (heap_setCell_same w2 N 0 _ _ _ h5)]; rfl
  have y1 : ((w2.setCell ⟨N, 0, none⟩ (.int .i64 s1)).setCell ⟨N, 1, none⟩ (.int .i64 k1)).cell? ⟨N, 1, none⟩ = some (.int .i64 k1) := by rw [cell_of_row _ _ 1 _ _ _ (heap_setCell_same _ N 1 _ _ _ (heap_setCell_same w2 N 0 _ _ _ h5))]; rfl
  have y2 : (((w2.setCell ⟨N, 0, none⟩ (.int .i64 s1)).setCell ⟨N, 1, none⟩ (.int .i64 k1)).setCell ⟨N, 2, none⟩ (.int .i64 p1)).cell? ⟨N, 2, none⟩ = some (.int .i64 p1) := by rw [cell_of_row _ _ 2 _ _ _ (heap_setCell_same _ N 2 _ _ _ (heap_setCell_same _ N 1 _ _ _ (heap_setCell_same w2 N 0 _ _ _ h5)))]; rfl
  clear h5 h6
  unfold W3k at HF
  simp only [Nat.zero_add] at HF
  unfold kv
  simp only []
  go_wp2
  refine bodyPost_ret (v := kv ⟨s1, k1, p1⟩) (by simp [results, Try.results32, go_sem, y0, y1, y2]; try rfl) rfl ?_
  obtain ⟨y, hy, g1, g2, g3, g4⟩ := HF.out
  exact ⟨⟨⟨s1, k1, p1⟩, hxr⟩, l', rfl, g1, g2, g3, g4⟩

end

end Go.Proofs.Ytbopamcnlocdbaa

/- Plain mathematics of spread's queue: what waits in it, and what comes off it next. -/
namespace Go.Proofs.Ytbopamcnlocdbaa
open Go

/-- the key of a symbol and a number, above its count -/
def keyK (f : Nat → Nat) (s d : Nat) : Ky := ⟨((f s + d : Nat) : Int), ((f s : Nat) : Int), (s : Int)⟩
theorem keyK_right {f : Nat → Nat} (hf : ∀ s, f s ≤ 4096) {s d : Nat} (hs : s < 256) (hd : d < f s) : (keyK f s d).right := by
  have := hf s
  unfold Ky.right keyK; simp only []; omega
theorem keyK_inj {f : Nat → Nat} {s d t e : Nat} (h : keyK f s d = keyK f t e) : s = t ∧ d = e := by
  unfold keyK at h
  simp only [Ky.mk.injEq] at h
  have h1 : s = t := by omega
  subst h1
  exact ⟨rfl, by omega⟩
theorem keyK_less {f : Nat → Nat} {s d t e : Nat} : cmpR (keyK f s d) (keyK f t e) < 0 ↔ kless f s (f s + d) t (f t + e) := by
  have e1 : (keyK f s d).I * (keyK f t e).Q = (((f s + d) * f t : Nat) : Int) := by unfold keyK; simp only []; rw [Int.natCast_mul]
  have e2 : (keyK f t e).I * (keyK f s d).Q = (((f t + e) * f s : Nat) : Int) := by unfold keyK; simp only []; rw [Int.natCast_mul]
  have e3 : (keyK f s d).S = (s : Int) := rfl
  have e4 : (keyK f t e).S = (t : Int) := rfl
  unfold kless
  rcases cmpR_cases (keyK f s d) (keyK f t e) with ⟨h, h'⟩ | ⟨h, h'⟩ | ⟨h, h', h''⟩ <;> omega

/-- what waits once p keys have come off: of each symbol the first one that stands at p or behind it -/
def WaitF (f : Nat → Nat) (p : Nat) (l : List Kr) : Prop :=
  l.Nodup ∧ ∀ k : Kr, k ∈ l ↔ ∃ s d, s < 256 ∧ d < f s ∧ k.1 = keyK f s d ∧ p ≤ placeF f 256 s (f s + d) ∧ ∀ d', d' < d → placeF f 256 s (f s + d') < p

theorem WaitF.some {f : Nat → Nat} (hf : ∀ s, f s ≤ 4096) {p : Nat} {l : List Kr} (h : WaitF f p l) (hp : p < sumTo f 256) : ∃ s d, s < 256 ∧ d < f s ∧ placeF f 256 s (f s + d) = p ∧ ∃ k : Kr, k ∈ l ∧ k.1 = keyK f s d := by
  obtain ⟨s, d, hs, hd, he⟩ := place_onto hp
  refine ⟨s, d, hs, hd, he, ⟨keyK f s d, keyK_right hf hs hd⟩, (h.2 _).2 ⟨s, d, hs, hd, rfl, by omega, fun d' hd' => ?_⟩, rfl⟩
  rw [← he]
  exact place_rise hs hd hd'
theorem WaitF.none {f : Nat → Nat} {p : Nat} {l : List Kr} (h : WaitF f p l) (hp : sumTo f 256 ≤ p) : l = [] := by
  cases l with
  | nil => rfl
  | cons a r =>
    obtain ⟨s, d, hs, hd, _, hle, _⟩ := (h.2 a).1 (by simp)
    have := place_room (f := f) (N := 256) hs hd
    omega
theorem WaitF.next {f : Nat → Nat} (hf : ∀ s, f s ≤ 4096) {p : Nat} {l l' : List Kr} {x : Kr} (h : WaitF f p l) (hp : p < sumTo f 256) (hpp : l.Perm (x :: l')) (hle : ∀ y ∈ l', noLess lessB x y) :
    ∃ s d, s < 256 ∧ d < f s ∧ x.1 = keyK f s d ∧ placeF f 256 s (f s + d) = p := by
  obtain ⟨s0, d0, hs0, hd0, he0, k, hk, hk0⟩ := h.some hf hp
  obtain ⟨s, d, hs, hd, he, hxp, hxd⟩ := (h.2 x).1 (hpp.symm.subset (by simp))
  by_cases hx : k = x
  · rw [hx, he] at hk0
    obtain ⟨rfl, rfl⟩ := keyK_inj hk0
    exact ⟨s, d, hs, hd, he, he0⟩
  · have hkl : k ∈ l' := by
      have := hpp.subset hk
      rcases List.mem_cons.1 this with h1 | h1
      · exact absurd h1 hx
      · exact h1
    have hn := hle k hkl
    unfold noLess lessB at hn
    rw [decide_eq_false_iff_not, hk0, he, keyK_less] at hn
    have hne : ¬ (s0 = s ∧ f s0 + d0 = f s + d) := fun hh => by
      obtain ⟨rfl, h2⟩ := hh
      have : d0 = d := by omega
      subst this
      exact hx (Subtype.ext (by rw [hk0, he]))
    rcases kless_total (f := f) (by omega) hne with h1 | h1
    · exact absurd h1 hn
    · have := place_lt (f := f) (N := 256) hs hd hd0 h1
      omega

theorem WaitF.step {f : Nat → Nat} {p : Nat} {l l' m : List Kr} {x : Kr} {s d : Nat} (h : WaitF f p l) (hpp : l.Perm (x :: l')) (hs : s < 256) (hd : d < f s) (hx : x.1 = keyK f s d) (he : placeF f 256 s (f s + d) = p)
    (hm : m.Nodup) (hmem : ∀ k : Kr, k ∈ m ↔ k ∈ l' ∨ (d + 1 < f s ∧ k.1 = keyK f s (d + 1))) : WaitF f (p + 1) m := by
  have hxl : ∀ k, k ∈ l' ↔ k ∈ l ∧ k ≠ x := fun k => by
    have hnd := hpp.nodup_iff.1 h.1
    rw [List.nodup_cons] at hnd
    constructor
    · exact fun hk => ⟨hpp.symm.subset (List.mem_cons_of_mem _ hk), fun e => hnd.1 (e ▸ hk)⟩
    · rintro ⟨hk, hne⟩
      rcases List.mem_cons.1 (hpp.subset hk) with h1 | h1
      · exact absurd h1 hne
      · exact h1
  refine ⟨hm, fun k => ?_⟩
  rw [hmem, hxl, h.2]
  constructor
  · rintro (⟨⟨t, e, ht, he', hk, hle, hlt⟩, hne⟩ | ⟨hd1, hk⟩)
    · refine ⟨t, e, ht, he', hk, ?_, fun d' hd' => by have := hlt d' hd'; omega⟩
      by_cases heq : placeF f 256 t (f t + e) = p
      · obtain ⟨rfl, rfl⟩ := place_inj (f := f) (N := 256) ht hs he' hd (by rw [heq, he])
        exact absurd (Subtype.ext (by rw [hk, hx])) hne
      · omega
    · refine ⟨s, d + 1, hs, hd1, hk, ?_, fun d' hd' => ?_⟩
      · have := place_rise (f := f) (N := 256) (d := d) hs hd1 (by omega)
        omega
      · by_cases hdd : d' = d
        · subst hdd; omega
        · have := place_rise (f := f) (N := 256) (s := s) (d := d') (e := d) hs hd (by omega)
          omega
  · rintro ⟨t, e, ht, he', hk, hle, hlt⟩
    by_cases hts : t = s
    · subst hts
      right
      have : e = d + 1 := by
        have h1 : d < e := by
          rcases Nat.lt_trichotomy d e with h1 | h1 | h1
          · exact h1
          · subst h1; omega
          · have := place_rise (f := f) (N := 256) (d := e) hs hd h1; omega
        rcases Nat.lt_or_ge (d + 1) e with h2 | h2
        · have h3 := hlt (d + 1) h2
          have := place_rise (f := f) (N := 256) (d := d) hs (show d + 1 < f t by omega) (by omega)
          omega
        · omega
      subst this
      exact ⟨he', hk⟩
    · left
      refine ⟨⟨t, e, ht, he', hk, by omega, fun d' hd' => ?_⟩, fun hh => ?_⟩
      · have h1 := hlt d' hd'
        rcases Nat.lt_or_ge (placeF f 256 t (f t + d')) p with h2 | h2
        · exact h2
        · have : placeF f 256 t (f t + d') = p := by omega
          have := (place_inj (f := f) (N := 256) ht hs (show d' < f t by omega) hd (by rw [this, he])).1
          exact absurd this hts
      · rw [hh] at hk
        exact hts (keyK_inj (hk.symm.trans hx)).1
theorem WaitF.last {f : Nat → Nat} {p : Nat} {l l' : List Kr} {x : Kr} {s d : Nat} (h : WaitF f p l) (hpp : l.Perm (x :: l')) (hs : s < 256) (hd : d < f s) (hx : x.1 = keyK f s d) (he : placeF f 256 s (f s + d) = p)
    (hd1 : ¬ d + 1 < f s) : WaitF f (p + 1) l' :=
  h.step hpp hs hd hx he (List.nodup_cons.1 (hpp.nodup_iff.1 h.1)).2 fun k => ⟨.inl, fun hh => hh.elim id fun hk => absurd hk.1 hd1⟩
theorem WaitF.more {f : Nat → Nat} {p : Nat} {l l' m : List Kr} {x y : Kr} {s d : Nat} (h : WaitF f p l) (hpp : l.Perm (x :: l')) (hs : s < 256) (hd : d < f s) (hx : x.1 = keyK f s d) (he : placeF f 256 s (f s + d) = p)
    (hd1 : d + 1 < f s) (hy : y.1 = keyK f s (d + 1)) (hm : m.Perm (y :: l')) : WaitF f (p + 1) m := by
  have hnd := List.nodup_cons.1 (hpp.nodup_iff.1 h.1)
  refine h.step hpp hs hd hx he (hm.nodup_iff.2 (List.nodup_cons.2 ⟨fun hyl => ?_, hnd.2⟩)) fun k => ?_
  · obtain ⟨t, e, ht, he', hk, hle, hlt⟩ := (h.2 y).1 (hpp.symm.subset (List.mem_cons_of_mem _ hyl))
    rw [hy] at hk
    obtain ⟨rfl, rfl⟩ := keyK_inj hk
    have := hlt d (by omega)
    omega
  · rw [hm.mem_iff, List.mem_cons]
    constructor
    · rintro (rfl | h1)
      · exact .inr ⟨hd1, hy⟩
      · exact .inl h1
    · rintro (h1 | ⟨_, h1⟩)
      · exact .inr h1
      · exact .inl (Subtype.ext (by rw [h1, hy]))

/-- the first keys of the symbols below n -/
def FirstK (f : Nat → Nat) (n : Nat) (l : List Kr) : Prop := l.Nodup ∧ l.length ≤ n ∧ ∀ k : Kr, k ∈ l ↔ ∃ s, s < n ∧ 0 < f s ∧ k.1 = keyK f s 0
theorem FirstK.zero (f : Nat → Nat) : FirstK f 0 [] := ⟨by simp, by simp, fun k => by simp⟩
theorem FirstK.skip {f : Nat → Nat} {n : Nat} {l : List Kr} (h : FirstK f n l) (h0 : f n = 0) : FirstK f (n + 1) l := by
  refine ⟨h.1, by have := h.2.1; omega, fun k => ?_⟩
  rw [h.2.2]
  constructor
  · rintro ⟨s, hs, h1, h2⟩; exact ⟨s, by omega, h1, h2⟩
  · rintro ⟨s, hs, h1, h2⟩
    refine ⟨s, ?_, h1, h2⟩
    by_cases e : s = n
    · subst e; omega
    · omega
theorem FirstK.more {f : Nat → Nat} {n : Nat} {l m : List Kr} {y : Kr} (h : FirstK f n l) (h0 : 0 < f n) (hy : y.1 = keyK f n 0) (hm : m.Perm (y :: l)) : FirstK f (n + 1) m := by
  refine ⟨hm.nodup_iff.2 (List.nodup_cons.2 ⟨fun hyl => ?_, h.1⟩), ?_, fun k => ?_⟩
  · obtain ⟨s, hs, h1, h2⟩ := (h.2.2 y).1 hyl
    rw [hy] at h2
    have := (keyK_inj h2).1
    omega
  · rw [hm.length_eq, List.length_cons]; have := h.2.1; omega
  · rw [hm.mem_iff, List.mem_cons, h.2.2]
    constructor
    · rintro (rfl | ⟨s, hs, h1, h2⟩)
      · exact ⟨n, by omega, h0, hy⟩
      · exact ⟨s, by omega, h1, h2⟩
    · rintro ⟨s, hs, h1, h2⟩
      by_cases e : s = n
      · subst e; exact .inl (Subtype.ext (by rw [h2, hy]))
      · exact .inr ⟨s, by omega, h1, h2⟩
theorem FirstK.wait {f : Nat → Nat} {l : List Kr} (h : FirstK f 256 l) : WaitF f 0 l := by
  refine ⟨h.1, fun k => ?_⟩
  rw [h.2.2]
  constructor
  · rintro ⟨s, hs, h1, h2⟩; exact ⟨s, 0, hs, h1, h2, by omega, fun d' hd' => by omega⟩
  · rintro ⟨s, d, hs, hd, h2, _, h3⟩
    by_cases e : d = 0
    · subst e; exact ⟨s, hs, hd, h2⟩
    · exact absurd (h3 0 (by omega)) (by omega)

/-- the first p symbols -/
def OutF (f : Nat → Nat) (p : Nat) (out : List Nat) : Prop := out.length = p ∧ ∀ s d, s < 256 → d < f s → placeF f 256 s (f s + d) < p → out.getD (placeF f 256 s (f s + d)) 0 = s
theorem OutF.zero (f : Nat → Nat) : OutF f 0 [] := ⟨rfl, fun s d _ _ h => by omega⟩
theorem OutF.step {f : Nat → Nat} {p s d : Nat} {out : List Nat} (h : OutF f p out) (hs : s < 256) (hd : d < f s) (he : placeF f 256 s (f s + d) = p) : OutF f (p + 1) (out ++ [s]) := by
  refine ⟨by simp [h.1], fun t e ht he' hlt => ?_⟩
  rw [List.getD_eq_getElem?_getD]
  by_cases hp : placeF f 256 t (f t + e) = p
  · rw [hp, List.getElem?_append_right (by rw [h.1]; exact Nat.le_refl _), h.1, Nat.sub_self]
    exact (place_inj (f := f) (N := 256) hs ht hd he' (by rw [he, hp])).1
  · rw [List.getElem?_append_left (by rw [h.1]; omega), ← List.getD_eq_getElem?_getD]
    exact h.2 t e ht he' (by omega)
theorem OutF.all {f : Nat → Nat} {out : List Nat} (h : OutF f (sumTo f 256) out) : IsSpread f 256 out := ⟨h.1, fun s d hs hd => h.2 s d hs hd (place_room hs hd)⟩

/-- how many keys of a symbol stand ahead of another one's key, by its fraction -/
def aheadN (f : Nat → Nat) (t s i : Nat) : Int := if t < s then loK ⟨(i : Int), ((f s : Nat) : Int), (s : Int)⟩ (f t) + 1 - f t else hiK ⟨(i : Int), ((f s : Nat) : Int), (s : Int)⟩ (f t) - f t
theorem aheadN_eq {f : Nat → Nat} {t s i : Nat} (h1 : f s ≤ i) (h2 : i < 2 * f s) (_h0 : 0 < f t) : aheadN f t s i = ((lessF f t s i : Nat) : Int) := by
  have hq : 0 < f s := by omega
  obtain ⟨s1, s2, s3, s4⟩ := scaled_spec ⟨(i : Int), ((f s : Nat) : Int), (s : Int)⟩ (f t) (by simp only []; omega)
  simp only [] at s1 s2 s3 s4
  have m1 : (f t : Int) * (f s : Int) ≤ (f t : Int) * (i : Int) := Int.mul_le_mul_of_nonneg_left (by omega) (by omega)
  have m2 : (f t : Int) * (i : Int) ≤ (f t : Int) * (2 * (f s : Int) - 1) := Int.mul_le_mul_of_nonneg_left (by omega) (by omega)
  have m2' : (f t : Int) * (2 * (f s : Int) - 1) = 2 * ((f t : Int) * (f s : Int)) - (f t : Int) := by rw [Int.mul_sub, Int.mul_one, ← Int.mul_assoc, Int.mul_comm (f t : Int) 2, Int.mul_assoc]
  have hqI : (0 : Int) < (f s : Int) := by omega
  unfold aheadN lessF
  by_cases hts : t < s
  · rw [if_pos hts]
    obtain ⟨x, hx⟩ : ∃ x, loK ⟨(i : Int), ((f s : Nat) : Int), (s : Int)⟩ (f t) = x := ⟨_, rfl⟩
    rw [hx] at s1 s2 ⊢
    have b1 : (f t : Int) ≤ x := by
      have : (f t : Int) * (f s : Int) < (x + 1) * (f s : Int) := by rw [Int.add_mul, Int.one_mul]; omega
      have := Int.lt_of_mul_lt_mul_right this (by omega)
      omega
    have b2 : x < 2 * (f t : Int) := by
      have : x * (f s : Int) < 2 * (f t : Int) * (f s : Int) := by rw [Int.mul_assoc]; omega
      exact Int.lt_of_mul_lt_mul_right this (by omega)
    obtain ⟨c, hc⟩ : ∃ c : Nat, x + 1 - (f t : Int) = (c : Int) := ⟨(x + 1 - (f t : Int)).toNat, by omega⟩
    rw [hc]
    congr 1
    symm
    refine countTo_first (by omega) fun d hd => ?_
    rw [decide_eq_true_eq]
    unfold kless
    have k1 : ((f t + d) * f s < i * f t ∨ (f t + d) * f s = i * f t ∧ t < s) ↔ (((f t + d : Nat) : Int)) * (f s : Int) ≤ (f t : Int) * (i : Int) := by
      rw [Int.mul_comm (f t : Int) (i : Int), ← Int.natCast_mul, ← Int.natCast_mul]
      omega
    rw [k1]
    constructor
    · intro hle
      have : ((f t + d : Nat) : Int) * (f s : Int) < (x + 1) * (f s : Int) := by rw [Int.add_mul, Int.one_mul]; omega
      have := Int.lt_of_mul_lt_mul_right this (by omega)
      omega
    · intro hlt
      have : ((f t + d : Nat) : Int) * (f s : Int) ≤ x * (f s : Int) := Int.mul_le_mul_of_nonneg_right (by omega) (by omega)
      omega
  · rw [if_neg hts]
    obtain ⟨x, hx⟩ : ∃ x, hiK ⟨(i : Int), ((f s : Nat) : Int), (s : Int)⟩ (f t) = x := ⟨_, rfl⟩
    rw [hx] at s3 s4 ⊢
    have b1 : (f t : Int) ≤ x := by
      have : (f t : Int) * (f s : Int) < (x + 1) * (f s : Int) := by rw [Int.add_mul, Int.one_mul]; omega
      have := Int.lt_of_mul_lt_mul_right this (by omega)
      omega
    have b2 : x ≤ 2 * (f t : Int) := by
      have : x * (f s : Int) < (2 * (f t : Int) + 1) * (f s : Int) := by rw [Int.add_mul, Int.one_mul, Int.mul_assoc]; omega
      have := Int.lt_of_mul_lt_mul_right this (by omega)
      omega
    obtain ⟨c, hc⟩ : ∃ c : Nat, x - (f t : Int) = (c : Int) := ⟨(x - (f t : Int)).toNat, by omega⟩
    rw [hc]
    congr 1
    symm
    refine countTo_first (by omega) fun d hd => ?_
    rw [decide_eq_true_eq]
    unfold kless
    have k1 : ((f t + d) * f s < i * f t ∨ (f t + d) * f s = i * f t ∧ t < s) ↔ (((f t + d : Nat) : Int)) * (f s : Int) < (f t : Int) * (i : Int) := by
      rw [Int.mul_comm (f t : Int) (i : Int), ← Int.natCast_mul, ← Int.natCast_mul]
      omega
    rw [k1]
    constructor
    · intro hle
      have : ((f t + d : Nat) : Int) * (f s : Int) < x * (f s : Int) := by omega
      have := Int.lt_of_mul_lt_mul_right this (by omega)
      omega
    · intro hlt
      have : ((f t + d + 1 : Nat) : Int) * (f s : Int) ≤ x * (f s : Int) := Int.mul_le_mul_of_nonneg_right (by omega) (by omega)
      have e : ((f t + d + 1 : Nat) : Int) * (f s : Int) = ((f t + d : Nat) : Int) * (f s : Int) + (f s : Int) := by rw [Int.natCast_add, Int.add_mul]; simp
      omega

end Go.Proofs.Ytbopamcnlocdbaa

/- What hist's Right, Many, Total, Of and Add tell. THIS ALONE SPEAKS OF THE PROGRAM'S OWN TEXT. -/
namespace Go.Proofs.Ytbopamcnlocdbaa
open Go.RowKit

set_option maxHeartbeats 1000000 in
set_option maxRecDepth 100000 in
theorem hright_any (v : Value) (cs : List Int) (w : World) (h : RdI w v cs) (hb : ∀ z ∈ cs, -9223372036854775808 ≤ z ∧ z ≤ 9223372036854775807) (hl : cs.length < 100000000000) :
    Calls Try.prog 47 #[v] w fun e w' => e = .returned (.bool (decide (isRight cs))) ∧ ∃ m, w' = w.drewN m := by
  obtain ⟨ao, cap, rfl⟩ := h.form
  have H := Lib.hid h; have HB := Lib.hid hb
  clear h hb
  by_cases hlen : cs.length = 256
  · have hq : ((cs.length : Int) != 256) = false := by rw [hlen]; rfl
    have HLEN := Lib.hid hlen
    have hle256 : cs.length ≤ 256 := by omega
    clear hlen
    go_enter Try.func47, Try.ntmps47
    go_wp2
    go_loopw [3, 11] (fun o3 o11 wr => ∃ k : Nat, k ≤ cs.length ∧ o11 = .int .i64 (k : Int) ∧ o3 = .int .i64 (1073741824 - tot (cs.take k)) ∧ upTo cs k ∧ tot (cs.take k) ≤ 1073741824 ∧ wr = w) (fun _ o11 _ => cs.length - (intOf o11).toNat)
    case atStart => exact ⟨0, Nat.zero_le _, rfl, by simp [tot], upTo_zero _, by simp [tot], rfl⟩
    case round =>
      obtain ⟨k, hk, rfl, rfl, hup, hle, rfl⟩ := hrel
      have h0 := upTo_take hup
      have HUP := Lib.hid hup
      clear hup
      by_cases hlt : k < cs.length
      · obtain ⟨g, off, rfl, hc⟩ := H.out.at k hlt
        have hsu := tot_take_succ cs k hlt
        have hat : isRight cs → _ := fun h => h.at k hlt
        have hbk := HB.out _ (getD_mem hlt)
        obtain ⟨x, hx⟩ : ∃ x, cs.getD k 0 = x := ⟨_, rfl⟩
        obtain ⟨t, ht⟩ : ∃ t, tot (cs.take k) = t := ⟨_, rfl⟩
        rw [hx] at hc hsu hat hbk
        rw [ht] at hsu hle h0 hat ⊢
        have HXX := Lib.hid hx; have HSU := Lib.hid hsu; have HAT := Lib.hid hat
        clear hx ht hsu hat
        by_cases hneg : x < 0
        · have d1 : decide (x < 0) = true := decide_eq_true hneg
          go_wp2
          go_ret
          have hd : decide (isRight cs) = false := decide_eq_false fun h => by have := HAT.out h; omega
          rw [hd]
          exact ⟨rfl, 0, rfl⟩
        · have d1 : decide (x < 0) = false := decide_eq_false hneg
          by_cases hbig : 1073741824 - t < x
          · have d2 : decide (1073741824 - t < x) = true := decide_eq_true hbig
            go_wp2
            go_ret
            have hd : decide (isRight cs) = false := decide_eq_false fun h => by have := HAT.out h; omega
            rw [hd]
            exact ⟨rfl, 0, rfl⟩
          · have d2 : decide (1073741824 - t < x) = false := decide_eq_false hbig
            go_wp2
            go_roundw
            case rel => exact ⟨k + 1, by omega, by go_num, by rw [HSU.out]; go_num, upTo_succ HUP.out (by rw [HXX.out]; omega), by rw [HSU.out]; omega, trivial⟩
            case measure => simp [intOf]; omega
      · obtain rfl : k = cs.length := by omega
        rw [List.take_length] at h0 hle ⊢
        have hd : decide (isRight cs) = true := decide_eq_true ⟨HLEN.out, upTo_all rfl HUP.out, hle⟩
        have HD := Lib.hid hd
        clear hd
        go_wp2
        go_ret
        rw [HD.out]
        exact ⟨rfl, 0, rfl⟩
  · have hq : ((cs.length : Int) != 256) = true := by simp; omega
    go_enter Try.func47, Try.ntmps47
    go_wp2
    go_ret
    have hd : decide (isRight cs) = false := decide_eq_false fun h => hlen h.1
    rw [hd]
    exact ⟨rfl, 0, rfl⟩

set_option maxHeartbeats 1000000 in
theorem htotal_any (v : Value) (cs : List Int) (w : World) (h : RdI w v cs) (hb : ∀ z ∈ cs, -9223372036854775808 ≤ z ∧ z ≤ 9223372036854775807) (hl : cs.length < 100000000000) :
    Calls Try.prog 42 #[v] w fun e w' => e = .returned (.int .i64 (totalI cs)) ∧ ∃ m, w' = w.drewN m := by
  have HR := Lib.hid (hright_any v cs w h hb hl)
  obtain ⟨ao, cap, rfl⟩ := h.form
  have H := Lib.hid h; have HB := Lib.hid hb
  clear h hb
  go_enter Try.func42, Try.ntmps42
  go_wp2_with fail
  refine HR.out.mono ?_
  rintro e w' ⟨rfl, m0, rfl⟩
  clear HR
  by_cases hr : isRight cs
  · rw [decide_eq_true hr]
    have hlen : cs.length ≤ 256 := by rw [hr.1]; exact Nat.le_refl _
    have HRR := Lib.hid hr
    clear hr
    go_wp2
    go_loopw [3, 11] (fun o3 o11 wr => ∃ k : Nat, k ≤ cs.length ∧ o11 = .int .i64 (k : Int) ∧ o3 = .int .i64 (tot (cs.take k)) ∧ wr = w.drewN m0) (fun _ o11 _ => cs.length - (intOf o11).toNat)
    case atStart => exact ⟨0, Nat.zero_le _, rfl, rfl, rfl⟩
    case round =>
      obtain ⟨k, hk, rfl, rfl, rfl⟩ := hrel
      by_cases hlt : k < cs.length
      · obtain ⟨g, off, rfl, hc⟩ := H.out.at k hlt
        have hsu := tot_take_succ cs k hlt
        have hat := HRR.out.at k hlt
        have h0 : 0 ≤ tot (cs.take k) := tot_nonneg _ fun c hc => HRR.out.2.1 c (List.mem_of_mem_take hc)
        obtain ⟨x, hx⟩ : ∃ x, cs.getD k 0 = x := ⟨_, rfl⟩
        obtain ⟨t, ht⟩ : ∃ t, tot (cs.take k) = t := ⟨_, rfl⟩
        rw [hx] at hc hsu hat
        rw [ht] at hsu hat h0 ⊢
        have HSU := Lib.hid hsu
        clear hx ht hsu
        go_wp2
        go_roundw
        case rel => exact ⟨k + 1, by omega, by go_num, by rw [HSU.out], trivial⟩
        case measure => simp [intOf]; omega
      · obtain rfl : k = cs.length := by omega
        rw [List.take_length]
        have hm : totalI cs = tot cs := by unfold totalI; rw [if_pos HRR.out]
        have HM := Lib.hid hm
        clear hm
        go_wp2
        go_ret
        rw [HM.out]
        exact ⟨rfl, m0, rfl⟩
  · rw [decide_eq_false hr]
    have hm : totalI cs = 0 := by unfold totalI; rw [if_neg hr]
    have HM := Lib.hid hm
    clear hm hr
    go_wp2
    go_ret
    rw [HM.out]
    exact ⟨rfl, m0, rfl⟩

theorem zeroCounts : ∃ Z : List Value, Z = iw (List.replicate 256 0) ∧ ∀ W : World, (zeroValue 48).run Try.prog W = .ok (.agg Z.toArray) W := ⟨_, rfl, fun W => by kernel_rfl⟩

theorem cnt_take_succ (xs : List Nat) (k : Nat) (hk : k < xs.length) (hx : xs.getD k 0 < 256) : cnt (xs.take (k + 1)) = (cnt (xs.take k)).set (xs.getD k 0) ((cnt (xs.take k)).getD (xs.getD k 0) 0 + 1) := by
  rw [← cnt_snoc _ _ hx]
  congr 1
  rw [List.take_succ_eq_append_getElem hk, List.getD_eq_getElem?_getD, List.getElem?_eq_getElem hk]; rfl

theorem cnt_bound (xs : List Nat) (u : Nat) (hu : u < 256) : 0 ≤ (cnt xs).getD u 0 ∧ (cnt xs).getD u 0 ≤ xs.length := by
  rw [cnt_getD _ _ hu]
  have h1 := List.count_le_length (l := xs) (a := u)
  omega

end Go.Proofs.Ytbopamcnlocdbaa

/- What container/heap's up, down, Init, Push, Pop and Fix do with one type's heap (hpA), whatever it holds. -/
namespace Go.Proofs.Ytbopamcnlocdbaa
open Go.RowKit

section
variable {α : Type} [Inhabited α] {p : Value} {R : World → List α → Prop} {lt : α → α → Bool} {S : Nat → Prop}

end

end Go.Proofs.Ytbopamcnlocdbaa

/- What container/heap's Init, Push, Pop and Fix do with one type's heap (hpA), whatever it holds. -/
namespace Go.Proofs.Ytbopamcnlocdbaa
open Go.RowKit

section
variable {α : Type} [Inhabited α] {p : Value} {R : World → List α → Prop} {lt : α → α → Bool} {S : Nat → Prop} {it : α → Value}

end

end Go.Proofs.Ytbopamcnlocdbaa

/- norm's shares in memory; who is ahead of whom; norm's queue as container/heap asks for it. THIS SPEAKS OF THE PROGRAM'S OWN TEXT. -/
namespace Go.Proofs.Ytbopamcnlocdbaa
open Go.RowKit

/-- a share -/
structure Sh where
  sym : Int
  cnt : Int
  plc : Int
  lft : Int
  rai : Bool
instance : Inhabited Sh := ⟨⟨0, 0, 0, 0, false⟩⟩
def sv (s : Sh) : Value := .agg #[.int .i64 s.sym, .int .i64 s.cnt, .int .i64 s.plc, .int .i64 s.lft, .bool s.rai]
def svl (s : Sh) : List Value := [.int .i64 s.sym, .int .i64 s.cnt, .int .i64 s.plc, .int .i64 s.lft, .bool s.rai]
def svs (l : List Sh) : List Value := l.flatMap svl
theorem svs_cons (a : Sh) (l : List Sh) : svs (a :: l) = svl a ++ svs l := by simp [svs]
theorem svs_append (a b : List Sh) : svs (a ++ b) = svs a ++ svs b := by simp [svs]
theorem svs_length (l : List Sh) : (svs l).length = l.length * 5 := by
  induction l with
  | nil => rfl
  | cons c r ih => rw [svs_cons, List.length_append, ih]; simp [svl]; omega
theorem svs_get (l : List Sh) (j : Nat) (h : j < l.length) : (svs l)[j * 5]? = some (.int .i64 (l.getD j default).sym) ∧ (svs l)[j * 5 + 1]? = some (.int .i64 (l.getD j default).cnt) ∧ (svs l)[j * 5 + 2]? = some (.int .i64 (l.getD j default).plc) ∧
    (svs l)[j * 5 + 3]? = some (.int .i64 (l.getD j default).lft) ∧ (svs l)[j * 5 + 4]? = some (.bool (l.getD j default).rai) := by
  induction l generalizing j with
  | nil => simp at h
  | cons c r ih =>
    rw [svs_cons]
    cases j with
    | zero => exact ⟨rfl, rfl, rfl, rfl, rfl⟩
    | succ j =>
      have ih := ih j (by simpa using h)
      have hl : (svl c).length = 5 := rfl
      rw [List.getElem?_append_right (by omega), List.getElem?_append_right (by omega), List.getElem?_append_right (by omega), List.getElem?_append_right (by omega), List.getElem?_append_right (by omega), hl,
        show (j + 1) * 5 - 5 = j * 5 by omega, show (j + 1) * 5 + 1 - 5 = j * 5 + 1 by omega, show (j + 1) * 5 + 2 - 5 = j * 5 + 2 by omega, show (j + 1) * 5 + 3 - 5 = j * 5 + 3 by omega, show (j + 1) * 5 + 4 - 5 = j * 5 + 4 by omega]
      exact ih
/-- five cells, one behind the other -/
def set5 (l : List Value) (k : Nat) (s : Sh) : List Value := ((((l.set k (.int .i64 s.sym)).set (k + 1) (.int .i64 s.cnt)).set (k + 2) (.int .i64 s.plc)).set (k + 3) (.int .i64 s.lft)).set (k + 4) (.bool s.rai)
theorem svs_set (l : List Sh) (j : Nat) (c : Sh) (h : j < l.length) : set5 (svs l) (j * 5) c = svs (l.set j c) := by
  unfold set5
  induction l generalizing j with
  | nil => simp at h
  | cons d r ih =>
    cases j with
    | zero => rw [List.set_cons_zero, svs_cons, svs_cons]; rfl
    | succ j =>
      have ih := ih j (by simpa using h)
      have hl : (svl d).length = 5 := rfl
      rw [List.set_cons_succ, svs_cons, svs_cons, ← ih, List.set_append_right _ _ (by omega), List.set_append_right _ _ (by omega), List.set_append_right _ _ (by omega), List.set_append_right _ _ (by omega), List.set_append_right _ _ (by omega), hl,
        show (j + 1) * 5 - 5 = j * 5 by omega, show (j + 1) * 5 + 1 - 5 = j * 5 + 1 by omega, show (j + 1) * 5 + 2 - 5 = j * 5 + 2 by omega, show (j + 1) * 5 + 3 - 5 = j * 5 + 3 by omega, show (j + 1) * 5 + 4 - 5 = j * 5 + 4 by omega]
theorem svs_one (xs : List Sh) : ∀ u ∈ svs xs, u.oneCell' = true := by
  intro u hu
  simp only [svs, List.mem_flatMap, svl] at hu
  obtain ⟨x, _, hx⟩ := hu
  simp at hx
  rcases hx with rfl | rfl | rfl | rfl | rfl <;> rfl

/-- of whom more is left, or whose value is less -/
def moreB (a b : Sh) : Bool := if a.lft = b.lft then decide (a.sym < b.sym) else decide (b.lft < a.lft)
/-- who has more, or whose count is less, or whose value is greater -/
def greatB (a b : Sh) : Bool := if a.plc = b.plc then (if a.cnt = b.cnt then decide (b.sym < a.sym) else decide (a.cnt < b.cnt)) else decide (b.plc < a.plc)
theorem moreB_ord : TotalOrd (noLess moreB) := by
  constructor
  · intro a b
    unfold noLess moreB
    by_cases h1 : a.lft = b.lft
    · rw [if_pos h1.symm, if_pos h1, decide_eq_false_iff_not, decide_eq_false_iff_not]; omega
    · rw [if_neg (Ne.symm h1), if_neg h1, decide_eq_false_iff_not, decide_eq_false_iff_not]; omega
  · intro a b c h1 h2
    unfold noLess moreB at *
    split at h1 <;> split at h2 <;> split <;> rw [decide_eq_false_iff_not] at * <;> omega
theorem greatB_ord : TotalOrd (noLess greatB) := by
  constructor
  · intro a b
    unfold noLess greatB
    by_cases h1 : a.plc = b.plc
    · rw [if_pos h1.symm, if_pos h1]
      by_cases h2 : a.cnt = b.cnt
      · rw [if_pos h2.symm, if_pos h2, decide_eq_false_iff_not, decide_eq_false_iff_not]; omega
      · rw [if_neg (Ne.symm h2), if_neg h2, decide_eq_false_iff_not, decide_eq_false_iff_not]; omega
    · rw [if_neg (Ne.symm h1), if_neg h1, decide_eq_false_iff_not, decide_eq_false_iff_not]; omega
  · intro a b c h1 h2
    unfold noLess greatB at *
    split at h1 <;> split at h2 <;> split <;> (try split at h1) <;> (try split at h2) <;> (try split) <;> rw [decide_eq_false_iff_not] at * <;> omega

/-- the queue at block b, whose shares v stand in memory from block B on: the block X is neither of them -/
def Far (b B X : Nat) (v : Value) (w : World) : Prop := B ≤ b ∧ b ≠ X ∧ v.ownBlock ≠ some X ∧ X < w.heap.size
/-- the blocks that it may turn -/
def Sq (B X k : Nat) : Prop := B ≤ k ∧ k ≠ X

end Go.Proofs.Ytbopamcnlocdbaa

/- Plain: shares of counts, and what a heap of them gives out. -/
namespace Go.Proofs.Ytbopamcnlocdbaa
open Go

/-- the share of the value i, whose count is x -/
def mkSh (size n : Int) (i : Nat) (x : Int) : Sh := if x * size / n = 0 then ⟨(i : Int), x, 1, x * size % n, true⟩ else ⟨(i : Int), x, x * size / n, x * size % n, false⟩
/-- the shares of the values below k -/
def shTo (c : List Int) (size n : Int) : Nat → List Sh
  | 0 => []
  | k + 1 => if c.getD k 0 = 0 then shTo c size n k else shTo c size n k ++ [mkSh size n k (c.getD k 0)]
theorem shTo_skip {c : List Int} {size n : Int} {k : Nat} (h : c.getD k 0 = 0) : shTo c size n (k + 1) = shTo c size n k := by simp only [shTo, if_pos h]
theorem shTo_more {c : List Int} {size n : Int} {k : Nat} (h : ¬ c.getD k 0 = 0) : shTo c size n (k + 1) = shTo c size n k ++ [mkSh size n k (c.getD k 0)] := by simp only [shTo, if_neg h]
theorem mkSh_sym (size n : Int) (i : Nat) (x : Int) : (mkSh size n i x).sym = (i : Int) := by unfold mkSh; split <;> rfl
theorem mkSh_cnt (size n : Int) (i : Nat) (x : Int) : (mkSh size n i x).cnt = x := by unfold mkSh; split <;> rfl
theorem mkSh_lft (size n : Int) (i : Nat) (x : Int) : (mkSh size n i x).lft = x * size % n := by unfold mkSh; split <;> rfl
theorem mkSh_rai (size n : Int) (i : Nat) (x : Int) : (mkSh size n i x).rai = decide (x * size / n = 0) := by
  unfold mkSh; split
  · next h => simp [h]
  · next h => simp [h]
theorem mkSh_plc (size n : Int) (i : Nat) (x : Int) : (mkSh size n i x).plc = if x * size / n = 0 then 1 else x * size / n := by unfold mkSh; split <;> rfl

theorem shTo_length (c : List Int) (size n : Int) (k : Nat) : (shTo c size n k).length ≤ k := by
  induction k with
  | zero => simp [shTo]
  | succ k ih =>
    by_cases h : c.getD k 0 = 0
    · rw [shTo_skip h]; omega
    · rw [shTo_more h]; simp; omega
theorem mem_shTo (c : List Int) (size n : Int) (k : Nat) (y : Sh) : y ∈ shTo c size n k ↔ ∃ i, i < k ∧ c.getD i 0 ≠ 0 ∧ y = mkSh size n i (c.getD i 0) := by
  induction k with
  | zero => simp [shTo]
  | succ k ih =>
    by_cases h : c.getD k 0 = 0
    · rw [shTo_skip h, ih]
      constructor
      · rintro ⟨i, h1, h2, h3⟩; exact ⟨i, by omega, h2, h3⟩
      · rintro ⟨i, h1, h2, h3⟩
        by_cases hik : i = k
        · subst hik; exact absurd h h2
        · exact ⟨i, by omega, h2, h3⟩
    · rw [shTo_more h, List.mem_append, ih, List.mem_singleton]
      constructor
      · rintro (⟨i, h1, h2, h3⟩ | rfl)
        · exact ⟨i, by omega, h2, h3⟩
        · exact ⟨k, by omega, h, rfl⟩
      · rintro ⟨i, h1, h2, h3⟩
        by_cases hik : i = k
        · subst hik; exact .inr h3
        · exact .inl ⟨i, by omega, h2, h3⟩
theorem shTo_nodup (c : List Int) (size n : Int) (k : Nat) : (shTo c size n k).Nodup := by
  induction k with
  | zero => simp [shTo]
  | succ k ih =>
    by_cases h : c.getD k 0 = 0
    · rw [shTo_skip h]; exact ih
    · rw [shTo_more h, List.nodup_append]
      refine ⟨ih, by simp, ?_⟩
      intro a ha b hb he
      rw [List.mem_singleton] at hb
      obtain ⟨i, h1, h2, h3⟩ := (mem_shTo c size n k a).1 ha
      have := congrArg Sh.sym (h3.symm.trans (he.trans hb))
      rw [mkSh_sym, mkSh_sym] at this
      omega

/-- the places of shares, laid into counts -/
def layL (q : List Int) : List Sh → List Int
  | [] => q
  | s :: r => layL (q.set s.sym.toNat s.plc) r
theorem layL_append (q : List Int) (a b : List Sh) : layL q (a ++ b) = layL (layL q a) b := by
  induction a generalizing q with
  | nil => rfl
  | cons x r ih => exact ih _
theorem lay_to (c : List Int) (size n : Int) (hl : c.length = 256) (h0 : ∀ x ∈ c, 0 ≤ x) (Z : List Int) (hZ : Z.length = 256) (hz : ∀ j, Z.getD j 0 = 0) (k : Nat) (hk : k ≤ 256) :
    (layL Z (shTo c size n k)).length = 256 ∧ ∀ j, j < 256 → (layL Z (shTo c size n k)).getD j 0 = if j < k then (qBase c size n).getD j 0 else 0 := by
  induction k with
  | zero => exact ⟨hZ, fun j _ => by rw [if_neg (by omega)]; exact hz j⟩
  | succ k ih =>
    obtain ⟨i1, i2⟩ := ih (by omega)
    have hbase := base_at (c := c) (size := size) (n := n) k (by omega)
    have hx := h0 _ (getD_mem (cs := c) (k := k) (by omega))
    by_cases h : c.getD k 0 = 0
    · rw [shTo_skip h]
      refine ⟨i1, fun j hj => ?_⟩
      rw [i2 j hj]
      by_cases hjk : j = k
      · subst hjk
        rw [if_neg (by omega), if_pos (by omega), hbase, h]
        simp
        try rfl
      · by_cases h1 : j < k
        · rw [if_pos h1, if_pos (by omega)]
        · rw [if_neg h1, if_neg (by omega)]
    · rw [shTo_more h, layL_append]
      simp only [layL, mkSh_sym, mkSh_plc, Int.toNat_natCast]
      refine ⟨by rw [List.length_set]; exact i1, fun j hj => ?_⟩
      rw [iset_getD _ _ _ _ (by omega)]
      by_cases hjk : k = j
      · subst hjk
        rw [if_pos rfl, if_pos (show k < k + 1 by omega), hbase]
        by_cases hz0 : c.getD k 0 * size / n = 0
        · rw [if_pos hz0, if_pos hz0]; omega
        · rw [if_neg hz0, if_neg hz0]
      · rw [if_neg hjk, i2 j hj]
        by_cases h1 : j < k
        · rw [if_pos h1, if_pos (by omega)]
        · rw [if_neg h1, if_neg (by omega)]
theorem lay_all (c : List Int) (size n : Int) (hl : c.length = 256) (h0 : ∀ x ∈ c, 0 ≤ x) (Z : List Int) (hZ : Z.length = 256) (hz : ∀ j, Z.getD j 0 = 0) : layL Z (shTo c size n 256) = qBase c size n := by
  obtain ⟨h1, h2⟩ := lay_to c size n hl h0 Z hZ hz 256 (Nat.le_refl _)
  apply ext_getD (by rw [h1]; simp [qBase, hl])
  intro j hj
  rw [h1] at hj
  rw [h2 j hj, if_pos hj]

/-- who wait: those that have had none -/
structure Waits (c : List Int) (size n : Int) (had : List Bool) (l : List Sh) : Prop where
  nd : l.Nodup
  mem : ∀ y, y ∈ l ↔ ∃ i, i < 256 ∧ c.getD i 0 ≠ 0 ∧ had.getD i false = false ∧ y = mkSh size n i (c.getD i 0)
theorem Waits.perm {c : List Int} {size n : Int} {had : List Bool} {l l' : List Sh} (h : Waits c size n had l) (hp : l'.Perm l) : Waits c size n had l' :=
  ⟨hp.nodup_iff.2 h.nd, fun y => by rw [hp.mem_iff]; exact h.mem y⟩
/-- what comes off is who is neediest -/
theorem Waits.next {c : List Int} {size n : Int} {had : List Bool} {l l' : List Sh} {x : Sh} (hlc : c.length = 256) (hlh : had.length = 256) (h : Waits c size n had l) (hp : l.Perm (x :: l')) (hle : ∀ y ∈ l', noLess moreB x y)
    {s : Nat} (hs : s < 256) (hc : c.getD s 0 ≠ 0) (hd : had.getD s false = false) (hn : needyTo (rest0 c size n) had 256 = some s) : x.sym = (s : Int) ∧ Waits c size n (had.set s true) l' := by
  obtain ⟨_, _, hspec⟩ := needy_some _ _ _ _ hn
  have hxm : x ∈ l := hp.symm.subset (List.mem_cons_self ..)
  obtain ⟨i, hi1, hi2, hi3, hi4⟩ := (h.mem x).1 hxm
  have hsm : mkSh size n s (c.getD s 0) ∈ x :: l' := hp.subset ((h.mem _).2 ⟨s, hs, hc, hd, rfl⟩)
  have hnl : moreB (mkSh size n s (c.getD s 0)) x = false := by
    rcases List.mem_cons.1 hsm with he | he
    · rw [he]; unfold moreB; simp
    · exact hle _ he
  have hsp := hspec i hi1 hi3
  rw [rest_at i (by omega), rest_at s (by omega)] at hsp
  have his : i = s := by
    unfold moreB at hnl
    rw [hi4, mkSh_lft, mkSh_lft, mkSh_sym, mkSh_sym] at hnl
    split at hnl
    · rw [decide_eq_false_iff_not] at hnl; omega
    · rw [decide_eq_false_iff_not] at hnl; omega
  subst his
  refine ⟨by rw [hi4, mkSh_sym], ?_, ?_⟩
  · exact (List.nodup_cons.1 (hp.nodup_iff.1 h.nd)).2
  · intro y
    have hnx : x ∉ l' := (List.nodup_cons.1 (hp.nodup_iff.1 h.nd)).1
    constructor
    · intro hy
      obtain ⟨j, hj1, hj2, hj3, hj4⟩ := (h.mem y).1 (hp.symm.subset (List.mem_cons_of_mem _ hy))
      refine ⟨j, hj1, hj2, ?_, hj4⟩
      rw [bset_getD _ _ _ _ (by omega), if_neg]
      · exact hj3
      · intro he
        subst he
        exact hnx (by rw [hi4, ← hj4]; exact hy)
    · rintro ⟨j, hj1, hj2, hj3, hj4⟩
      rw [bset_getD _ _ _ _ (by omega)] at hj3
      by_cases he : i = j
      · subst he; rw [if_pos rfl] at hj3; cases hj3
      · rw [if_neg he] at hj3
        have hyl := hp.subset ((h.mem y).2 ⟨j, hj1, hj2, hj3, hj4⟩)
        rcases List.mem_cons.1 hyl with h1 | h1
        · exfalso
          have := congrArg Sh.sym (hj4.symm.trans (h1.trans hi4))
          rw [mkSh_sym, mkSh_sym] at this
          omega
        · exact h1

/-- a share that has so many places now -/
def upSh (size n : Int) (q c : List Int) (i : Nat) : Sh := { mkSh size n i (c.getD i 0) with plc := q.getD i 0 }
/-- all shares, with their places -/
structure Gives (c : List Int) (size n : Int) (q : List Int) (l : List Sh) : Prop where
  nd : l.Nodup
  mem : ∀ y, y ∈ l ↔ ∃ i, i < 256 ∧ c.getD i 0 ≠ 0 ∧ y = upSh size n q c i
theorem upSh_sym (size n : Int) (q c : List Int) (i : Nat) : (upSh size n q c i).sym = (i : Int) := by unfold upSh; simp only []; exact mkSh_sym ..
theorem upSh_cnt (size n : Int) (q c : List Int) (i : Nat) : (upSh size n q c i).cnt = c.getD i 0 := by unfold upSh; simp only []; exact mkSh_cnt ..
theorem upSh_plc (size n : Int) (q c : List Int) (i : Nat) : (upSh size n q c i).plc = q.getD i 0 := rfl
theorem upSh_inj {size n : Int} {q q' c c' : List Int} {i j : Nat} (h : upSh size n q c i = upSh size n q' c' j) : i = j := by
  have := congrArg Sh.sym h
  rw [upSh_sym, upSh_sym] at this
  omega
theorem gives_base {c : List Int} {size n : Int} (hl : c.length = 256) (h0 : ∀ x ∈ c, 0 ≤ x) (i : Nat) (hi : i < 256) (hc : c.getD i 0 ≠ 0) : upSh size n (qBase c size n) c i = mkSh size n i (c.getD i 0) := by
  have hx := h0 _ (getD_mem (cs := c) (k := i) (by omega))
  unfold upSh
  rw [base_at i (by omega)]
  unfold mkSh
  have hm : min (c.getD i 0) 1 = 1 := by omega
  by_cases hz0 : c.getD i 0 * size / n = 0
  · rw [if_pos hz0, if_pos hz0, hm]
  · rw [if_neg hz0, if_neg hz0]
/-- what comes off is who is richest; what is laid back has one less -/
theorem Gives.next {c q : List Int} {size n : Int} {l l' : List Sh} {x : Sh} (hlq : q.length = 256) (h : Gives c size n q l) (hp : l.Perm (x :: l')) (hle : ∀ y ∈ l', noLess greatB x y)
    (hc : c.getD (richTo q c 255) 0 ≠ 0) : x = upSh size n q c (richTo q c 255) ∧ Gives c size n (takeStep c q) ({ x with plc := x.plc - 1 } :: l') := by
  obtain ⟨hR, hspec⟩ := rich_spec q c 255
  obtain ⟨R, hRR⟩ : ∃ R, richTo q c 255 = R := ⟨_, rfl⟩
  have hts : takeStep c q = q.set R (q.getD R 0 - 1) := by unfold takeStep; rw [hRR]
  rw [hRR] at hR hspec hc ⊢
  have hxm : x ∈ l := hp.symm.subset (List.mem_cons_self ..)
  obtain ⟨i, hi1, hi2, hi4⟩ := (h.mem x).1 hxm
  have hsm : upSh size n q c R ∈ x :: l' := hp.subset ((h.mem _).2 ⟨R, by omega, hc, rfl⟩)
  have hnl : greatB (upSh size n q c R) x = false := by
    rcases List.mem_cons.1 hsm with he | he
    · rw [he]; unfold greatB; simp
    · exact hle _ he
  have hsp := hspec i (by omega)
  have his : i = R := by
    unfold greatB at hnl
    rw [hi4, upSh_plc, upSh_plc, upSh_sym, upSh_sym, upSh_cnt, upSh_cnt] at hnl
    split at hnl
    · split at hnl <;> rw [decide_eq_false_iff_not] at hnl <;> omega
    · rw [decide_eq_false_iff_not] at hnl; omega
  subst his
  have hnx : x ∉ l' := (List.nodup_cons.1 (hp.nodup_iff.1 h.nd)).1
  have hup : ({ x with plc := x.plc - 1 } : Sh) = upSh size n (takeStep c q) c i := by
    rw [hts, hi4]
    unfold upSh
    simp only [Sh.mk.injEq, true_and, and_true]
    rw [iset_getD _ _ _ _ (by omega), if_pos rfl]
  have hoth : ∀ j, i ≠ j → upSh size n (takeStep c q) c j = upSh size n q c j := fun j hj => by
    rw [hts]
    unfold upSh
    rw [iset_getD _ _ _ _ (by omega), if_neg hj]
  refine ⟨hi4, ?_, ?_⟩
  · rw [hup, List.nodup_cons]
    refine ⟨fun hm => ?_, (List.nodup_cons.1 (hp.nodup_iff.1 h.nd)).2⟩
    obtain ⟨j, hj1, hj2, hj4⟩ := (h.mem _).1 (hp.symm.subset (List.mem_cons_of_mem _ hm))
    have hij := upSh_inj hj4
    subst hij
    exact hnx (by rw [hi4, ← hj4]; exact hm)
  · intro y
    rw [hup, List.mem_cons]
    constructor
    · rintro (rfl | hy)
      · exact ⟨i, hi1, hi2, rfl⟩
      · obtain ⟨j, hj1, hj2, hj4⟩ := (h.mem y).1 (hp.symm.subset (List.mem_cons_of_mem _ hy))
        refine ⟨j, hj1, hj2, ?_⟩
        rw [hoth j (fun he => by subst he; exact hnx (by rw [hi4, ← hj4]; exact hy))]
        exact hj4
    · rintro ⟨j, hj1, hj2, hj4⟩
      by_cases he : i = j
      · subst he; exact .inl hj4
      · right
        rw [hoth j he] at hj4
        have hyl := hp.subset ((h.mem y).2 ⟨j, hj1, hj2, hj4⟩)
        rcases List.mem_cons.1 hyl with h1 | h1
        · exfalso
          exact he (upSh_inj (hi4.symm.trans (h1.symm.trans hj4)))
        · exact h1

end Go.Proofs.Ytbopamcnlocdbaa

/- What the methods of norm's queue do. THIS SPEAKS OF THE PROGRAM'S OWN TEXT. -/
namespace Go.Proofs.Ytbopamcnlocdbaa
open Go.RowKit

section
variable {b B f X : Nat} {w : World} {l : List Sh}

end

end Go.Proofs.Ytbopamcnlocdbaa

/- What Swap of norm's queue does. THIS SPEAKS OF THE PROGRAM'S OWN TEXT. -/
namespace Go.Proofs.Ytbopamcnlocdbaa
open Go.RowKit

section
variable {b B f X : Nat} {w : World} {l : List Sh}

/-- five cells of the block g, one behind the other -/
def W5 (w : World) (g k : Nat) (s : Sh) : World := ((((w.setCell ⟨g, k, none⟩ (.int .i64 s.sym)).setCell ⟨g, k + 1, none⟩ (.int .i64 s.cnt)).setCell ⟨g, k + 2, none⟩ (.int .i64 s.plc)).setCell ⟨g, k + 3, none⟩ (.int .i64 s.lft)).setCell ⟨g, k + 4, none⟩ (.bool s.rai)
theorem W5_chg (w : World) (g k : Nat) (s : Sh) : Chg (fun q => q = g) w (W5 w g k s) :=
  ((((Chg.setCell w ⟨g, k, none⟩ _).trans (Chg.setCell _ ⟨g, k + 1, none⟩ _) fun _ _ h => h).trans (Chg.setCell _ ⟨g, k + 2, none⟩ _) fun _ _ h => h).trans (Chg.setCell _ ⟨g, k + 3, none⟩ _) fun _ _ h => h).trans (Chg.setCell _ ⟨g, k + 4, none⟩ _) fun _ _ h => h
end

end Go.Proofs.Ytbopamcnlocdbaa

/- What norm's divide and told do. THIS SPEAKS OF THE PROGRAM'S OWN TEXT. -/
namespace Go.Proofs.Ytbopamcnlocdbaa
open Go.RowKit

theorem layL_length (q : List Int) (l : List Sh) : (layL q l).length = q.length := by
  induction l generalizing q with
  | nil => rfl
  | cons x r ih => rw [layL, ih, List.length_set]
theorem layL_take (q : List Int) (l : List Sh) (k : Nat) (hk : k < l.length) : layL q (l.take (k + 1)) = (layL q (l.take k)).set (l.getD k default).sym.toNat (l.getD k default).plc := by
  rw [List.take_succ_eq_append_getElem hk, layL_append, List.getD_eq_getElem?_getD, List.getElem?_eq_getElem hk]; rfl

end Go.Proofs.Ytbopamcnlocdbaa

/- norm's queue is a heap; what its add and next do. THIS SPEAKS OF THE PROGRAM'S OWN TEXT. -/
namespace Go.Proofs.Ytbopamcnlocdbaa
open Go.RowKit

section
variable {b B f X : Nat} {w : World} {l : List Sh}

end

end Go.Proofs.Ytbopamcnlocdbaa

/- What norm's fill and thin do. THIS SPEAKS OF THE PROGRAM'S OWN TEXT. -/
namespace Go.Proofs.Ytbopamcnlocdbaa
open Go.RowKit

/-- the first ones that were not raised -/
def calm (l : List Sh) : List Sh := l.filter fun s => !s.rai
theorem calm_take (l : List Sh) (k : Nat) (hk : k < l.length) : calm (l.take (k + 1)) = calm (l.take k) ++ (if (l.getD k default).rai = true then [] else [l.getD k default]) := by
  unfold calm
  rw [List.take_succ_eq_append_getElem hk, List.filter_append, List.getD_eq_getElem?_getD, List.getElem?_eq_getElem hk]
  simp only [Option.getD_some]
  congr 1
  cases h : l[k].rai <;> simp [h]
theorem calm_length (l : List Sh) : (calm l).length ≤ l.length := List.length_filter_le ..
theorem calm_waits (c : List Int) (size n : Int) (hl : c.length = 256) : Waits c size n (had0 c size n) (calm (shTo c size n 256)) := by
  refine ⟨(shTo_nodup c size n 256).filter _, fun y => ?_⟩
  unfold calm
  rw [List.mem_filter, mem_shTo]
  constructor
  · rintro ⟨⟨i, h1, h2, h3⟩, h4⟩
    refine ⟨i, h1, h2, ?_, h3⟩
    rw [had_at i (by omega)]
    rw [h3, mkSh_rai] at h4
    simpa using h4
  · rintro ⟨i, h1, h2, h3, h4⟩
    refine ⟨⟨i, h1, h2, h4⟩, ?_⟩
    rw [had_at i (by omega)] at h3
    rw [h4, mkSh_rai, h3]; rfl
/-- a gift: who is neediest has a count, and comes next -/
theorem gave_needy {c : List Int} {size n : Int} (hl : c.length = 256) (k : Nat) (hk : k < cntN (rest0 c size n) (had0 c size n)) {p : List Int × List Bool} (hp : p = giveN (rest0 c size n) k (qBase c size n) (had0 c size n)) :
    ∃ s, s < 256 ∧ c.getD s 0 ≠ 0 ∧ p.2.getD s false = false ∧ needyTo (rest0 c size n) p.2 256 = some s ∧ p.1.length = 256 ∧ p.2.length = 256 := by
  have g := gave (rest := rest0 c size n) (q := qBase c size n) (had := had0 c size n) (by simp [rest0, hl]) (by simp [qBase, hl]) (by simp [had0, hl]) k (by omega)
  rw [← hp] at g
  obtain ⟨s, h1, h2, h3, g2⟩ := gave_step (by simp [rest0, hl]) g hk
  refine ⟨s, h2, fun h0 => ?_, h3, h1, g.len1, g.len2⟩
  have hso := g2.some s h2 ?_ ?_
  · rw [rest_at s (by omega), h0] at hso; simp at hso
  · cases hh : (had0 c size n).getD s false with
    | false => rfl
    | true => have := g.keep s hh; rw [this] at h3; cases h3
  · simp only; rw [bset_getD _ _ _ _ (by rw [g.len2]; exact h2), if_pos rfl]

end Go.Proofs.Ytbopamcnlocdbaa

/- What norm's thin does. THIS SPEAKS OF THE PROGRAM'S OWN TEXT. -/
namespace Go.Proofs.Ytbopamcnlocdbaa
open Go.RowKit

theorem all_gives (c : List Int) (size n : Int) (hl : c.length = 256) (h0 : ∀ x ∈ c, 0 ≤ x) : Gives c size n (qBase c size n) (shTo c size n 256) := by
  refine ⟨shTo_nodup c size n 256, fun y => ?_⟩
  rw [mem_shTo]
  constructor
  · rintro ⟨i, h1, h2, h3⟩; exact ⟨i, h1, h2, by rw [gives_base hl h0 i h1 h2]; exact h3⟩
  · rintro ⟨i, h1, h2, h3⟩; exact ⟨i, h1, h2, by rw [← gives_base hl h0 i h1 h2]; exact h3⟩
theorem Gives.perm {c : List Int} {size n : Int} {q : List Int} {l l' : List Sh} (h : Gives c size n q l) (hp : l'.Perm l) : Gives c size n q l' :=
  ⟨hp.nodup_iff.2 h.nd, fun y => by rw [hp.mem_iff]; exact h.mem y⟩

end Go.Proofs.Ytbopamcnlocdbaa

/- What norm's Counts, Right and Log tell. THIS SPEAKS OF THE PROGRAM'S OWN TEXT. -/
namespace Go.Proofs.Ytbopamcnlocdbaa
open Go.RowKit

set_option maxHeartbeats 1000000 in
theorem nlog_any (v : Value) (q : List Int) (w : World) (h : RdI w v q) (hb : ∀ z ∈ q, -9223372036854775808 ≤ z ∧ z ≤ 9223372036854775807) (hl : q.length < 100000000000) :
    Calls Try.prog 29 #[v] w fun e w' => e = .returned (.tuple #[.int .i64 ((logI (totalI q) : Nat) : Int), .bool (decide (0 < logI (totalI q)))]) ∧ Chg (fun _ => False) w w' := by
  have HT := Lib.hid (htotal_any v q w h hb hl)
  obtain ⟨ao, cap, rfl⟩ := h.form
  clear h hb
  have htl := totalI_le q
  obtain ⟨t, ht⟩ : ∃ t, totalI q = t := ⟨_, rfl⟩
  rw [ht] at HT htl ⊢
  obtain ⟨ht0, ht1⟩ := htl
  obtain ⟨L, hL⟩ : ∃ L, logI t = L := ⟨_, rfl⟩
  rw [hL]
  obtain ⟨D, hD⟩ : ∃ D, decide (0 < L) = D := ⟨_, rfl⟩
  rw [hD]
  have HL := Lib.hid hL; have HD := Lib.hid hD
  clear ht hL hD
  go_enter Try.func29, Try.ntmps29
  go_wp2_with fail
  refine HT.out.mono ?_
  rintro e w1 ⟨rfl, m0, rfl⟩
  have hc0 : Chg (fun _ => False) w (w.drewN m0) := (Chg.refl _ _).drewN m0
  obtain ⟨w0, hw0⟩ : ∃ w0, w.drewN m0 = w0 := ⟨_, rfl⟩
  rw [hw0] at hc0 ⊢
  have HC0 := Lib.hid hc0
  clear HT hw0 hc0
  go_wp2
  go_loopw [5] (fun o5 wr => ∃ r : Nat, 1 ≤ r ∧ r ≤ 13 ∧ o5 = .int .i64 (r : Int) ∧ (∀ j, 1 ≤ j → j < r → ¬ t = ((2 ^ j : Nat) : Int)) ∧ wr = w0) (fun o5 _ => 13 - (intOf o5).toNat)
  case atStart => exact ⟨1, Nat.le_refl _, by omega, rfl, fun j h1 h2 => by omega, rfl⟩
  case round =>
    obtain ⟨r, hr1, hr2, rfl, hno, rfl⟩ := hrel
    have HNO := Lib.hid hno
    clear hno
    by_cases hlt : r ≤ 12
    · have d1 : decide ((r : Int) ≤ 12) = true := by simp; omega
      have hlI : (r : Int) ≤ 12 := by omega
      have hpw := pow12 hlt
      obtain ⟨P, hP⟩ : ∃ P, 2 ^ r = P := ⟨_, rfl⟩
      have hPI : (2 : Int) ^ r = (P : Int) := by rw [← hP]; simp
      rw [hP] at hpw
      have hpI : (P : Int) ≤ 4096 := by omega
      have HPP := Lib.hid hP
      clear hP
      by_cases heq : t = (P : Int)
      · have hLr : L = r := by
          rw [← HL.out, heq, ← HPP.out]
          exact logI_pow hr1 hlt
        subst hLr
        subst heq
        have hD1 : D = true := by rw [← HD.out]; exact decide_eq_true (by omega)
        subst hD1
        go_wp2
        go_ret2
        exact ⟨rfl, HC0.out⟩
      · have hne : (t == (P : Int)) = false := by simp [heq]
        go_wp2
        go_roundw
        case rel =>
          refine ⟨r + 1, by omega, by omega, by go_num, fun j h1 h2 => ?_, trivial⟩
          by_cases hjr : j = r
          · subst hjr; rw [HPP.out]; exact heq
          · exact HNO.out j h1 (by omega)
        case measure => simp [intOf]; omega
    · have hr13 : r = 13 := by omega
      have hrI : (r : Int) = 13 := by omega
      rw [hrI]
      have hL0 : L = 0 := by
        rw [← HL.out]
        exact logI_none fun j h1 h2 => HNO.out j h1 (by omega)
      subst hL0
      have hD1 : D = false := by rw [← HD.out]; rfl
      subst hD1
      clear hr13 hrI hlt hr1 hr2
      go_wp2
      go_ret2
      exact ⟨rfl, HC0.out⟩

theorem log_of_total {t r : Int} (h1 : 1 ≤ r) (h2 : r ≤ 12) : (t = ((2 ^ r.toNat : Nat) : Int)) ↔ (0 < logI t ∧ ((logI t : Nat) : Int) = r) := by
  constructor
  · intro h
    rw [h, logI_pow (by omega) (by omega)]; omega
  · rintro ⟨h3, h4⟩
    rcases logI_spec t with h5 | ⟨_, h5⟩
    · omega
    · have : r.toNat = logI t := by omega
      rw [this]; exact h5

theorem zc_le (size n : Int) (c : List Int) : zc size n c ≤ c.length := by
  induction c with
  | nil => simp [zc]
  | cons x r ih => simp only [zc, List.length_cons]; split <;> omega
theorem mem_le_tot (l : List Int) (h0 : ∀ x ∈ l, 0 ≤ x) : ∀ x ∈ l, x ≤ tot l := by
  induction l with
  | nil => simp
  | cons y r ih =>
    intro x hx
    have hn := tot_nonneg r fun z hz => h0 z (by simp [hz])
    have hy := h0 y (by simp)
    rcases List.mem_cons.1 hx with rfl | hx
    · simp only [tot]; omega
    · have := ih (fun z hz => h0 z (by simp [hz])) x hx
      simp only [tot]; omega
theorem base_right {c : List Int} {size : Int} (h : Fit c size) (hs : size ≤ 4096) : isRight (qBase c size (tot c)) ∧ tot (qBase c size (tot c)) ≤ 4352 ∧ ∀ x ∈ qBase c size (tot c), 0 ≤ x ∧ x ≤ 1000000 := by
  have hn := h.some
  have hb := base_sum size (tot c) c h.low
  have hp := sum_parts size (tot c) c
  have hr := tot_rest_nonneg size (tot c) hn c
  have hz := zc_le size (tot c) c
  rw [h.len] at hz
  have h1 : tot c * tot (q0L c size (tot c)) ≤ tot c * size := by omega
  have h2 := Int.le_of_mul_le_mul_left h1 hn
  have h0 : ∀ x ∈ qBase c size (tot c), 0 ≤ x := by
    intro x hx
    simp only [qBase, List.mem_map] at hx
    obtain ⟨y, hy, rfl⟩ := hx
    have hy0 := h.low y hy
    have := (div_parts y size (tot c) hn hy0 h.sz).1
    split <;> omega
  have ht : tot (qBase c size (tot c)) ≤ 4352 := by omega
  exact ⟨⟨by simp [qBase, h.len], h0, by omega⟩, ht, fun x hx => ⟨h0 x hx, by have := mem_le_tot _ h0 x hx; omega⟩⟩
theorem OwnI.rebase {w : World} {B B' : Nat} {v : Value} {l : List Int} (h : OwnI w B v l) (hb : ∀ k, v.ownBlock = some k → B' ≤ k) : OwnI w B' v l := by
  obtain ⟨g, off, cap, rfl, _, h2⟩ := h
  exact ⟨g, off, cap, rfl, hb g rfl, h2⟩
theorem OwnI.block {w : World} {B : Nat} {v : Value} {l : List Int} (h : OwnI w B v l) : ∀ k, v.ownBlock = some k → B ≤ k := by
  obtain ⟨g, off, cap, rfl, h1, _⟩ := h
  intro k hk
  simp only [Value.ownBlock, Option.some.injEq] at hk
  omega
theorem tot_pos_iff (c : List Int) (h0 : ∀ x ∈ c, 0 ≤ x) : 0 < tot c ↔ 0 < pos c := by
  induction c with
  | nil => simp [tot, pos]
  | cons x r ih =>
    have ih := ih fun z hz => h0 z (by simp [hz])
    have hx := h0 x (by simp)
    have hn := tot_nonneg r fun z hz => h0 z (by simp [hz])
    simp only [tot, pos]
    split <;> omega
theorem many_norm {c : List Int} {r : Int} (h1 : 1 ≤ r) (h2 : r ≤ 12) : normOk c r ↔ manyI c ≠ 0 ∧ (manyI c : Int) ≤ ((2 ^ r.toNat : Nat) : Int) := by
  unfold normOk manyI
  by_cases h : isRight c
  · rw [if_pos h]
    have hp := tot_pos_iff c h.2.1
    constructor
    · rintro ⟨_, h3, _, _, h4⟩; exact ⟨by omega, h4⟩
    · rintro ⟨h3, h4⟩; exact ⟨h, by omega, h1, h2, h4⟩
  · rw [if_neg h]
    exact ⟨fun hh => absurd hh.1 h, fun hh => absurd rfl hh.1⟩

end Go.Proofs.Ytbopamcnlocdbaa

/- A slice of parts that is read; all parts put; a Writer of the call's own. -/
namespace Go.Proofs.Ytbopamcnlocdbaa
open Go.RowKit

/-- The value is a slice of the parts ps (a number and how many bits), none of them beyond its kind. -/
structure RdP (w : World) (v : Value) (ps : List (Nat × Int)) : Prop where
  form : ∃ ao cap, v = .slice ao ps.length cap ∧ (0 < ps.length → ∃ g off, ao = some ⟨g, off, none⟩)
  cells : ∀ g off n cap, v = .slice (some ⟨g, off, none⟩) n cap → ∀ i (h : i < ps.length), w.cell? ⟨g, off + i * 2, none⟩ = some (.int .u32 (ps[i].1 : Int)) ∧ w.cell? ⟨g, off + i * 2 + 1, none⟩ = some (.int .i64 ps[i].2)
  wf : ∀ p ∈ ps, p.1 < 4294967296

theorem RdP.kept {S : Nat → Prop} {w w' : World} {v : Value} {ps : List (Nat × Int)} (h : RdP w v ps) (hc : Chg S w w') (hS : ∀ k, v.ownBlock = some k → ¬ S k) : RdP w' v ps := by
  refine ⟨h.form, fun g off n cap hv i hi => ?_, h.wf⟩
  have hh := h.cells g off n cap hv i hi
  have hlt : g < w.heap.size := block_lt_of_cell hh.1
  have hb := hc.block g hlt (hS g (by rw [hv]; rfl))
  rw [World.cell?_of_block (w := w) (a := ⟨g, off + i * 2, none⟩) hb, World.cell?_of_block (w := w) (a := ⟨g, off + i * 2 + 1, none⟩) hb]
  exact hh

/-- all parts put, one behind the other -/
def putAll (bs : List Bool) : List (Nat × Int) → List Bool
  | [] => bs
  | p :: r => putAll (putB bs p.1 p.2) r

theorem putAll_append (bs : List Bool) (a b : List (Nat × Int)) : putAll bs (a ++ b) = putAll (putAll bs a) b := by
  induction a generalizing bs with
  | nil => rfl
  | cons p r ih => exact ih _

theorem putAll_succ (bs : List Bool) (ps : List (Nat × Int)) (k : Nat) (h : k < ps.length) : putAll bs (ps.take (k + 1)) = putB (putAll bs (ps.take k)) ps[k].1 ps[k].2 := by
  rw [List.take_succ_eq_append_getElem h, putAll_append]; rfl

theorem putAll_length (bs : List Bool) (ps : List (Nat × Int)) : bs.length ≤ (putAll bs ps).length ∧ (putAll bs ps).length ≤ bs.length + 24 * ps.length := by
  induction ps generalizing bs with
  | nil => simp [putAll]
  | cons p r ih =>
    have h1 := putB_length bs p.1 p.2
    have h2 := ih (putB bs p.1 p.2)
    simp only [putAll, List.length_cons]; omega

end Go.Proofs.Ytbopamcnlocdbaa

/- Several Writers side by side: those that aren't put into stay as they were. -/
namespace Go.Proofs.Ytbopamcnlocdbaa
open Go.RowKit

/-- two Writers that share no block -/
def Dj (b : Nat) (o : Option Nat) (b' : Nat) (o' : Option Nat) : Prop := b ≠ b' ∧ o ≠ some b' ∧ o' ≠ some b ∧ (o = none ∨ o ≠ o')

theorem Dj.symm {b b' : Nat} {o o' : Option Nat} (h : Dj b o b' o') : Dj b' o' b o := by
  obtain ⟨h1, h2, h3, h4⟩ := h
  refine ⟨fun h => h1 h.symm, h3, h2, ?_⟩
  rcases h4 with h | h
  · cases o' with
    | none => exact .inl rfl
    | some k => exact .inr (by rw [h]; simp)
  · exact .inr fun e => h e.symm

/-- all of it lies from B on -/
def Above (B b : Nat) (o : Option Nat) : Prop := B ≤ b ∧ ∀ k, o = some k → B ≤ k

theorem Above.mono {B B' b : Nat} {o : Option Nat} (h : Above B b o) (hB : B' ≤ B) : Above B' b o := ⟨Nat.le_trans hB h.1, fun k hk => Nat.le_trans hB (h.2 k hk)⟩

theorem Above.step {w : World} {B b : Nat} {o o1 : Option Nat} (h : Above B b o) (hs : B ≤ w.heap.size) (h1 : o1 = o ∨ ∃ k, o1 = some k ∧ w.heap.size ≤ k) : Above B b o1 := by
  rcases h1 with rfl | ⟨k, rfl, hk⟩
  · exact h
  · exact ⟨h.1, fun j hj => by simp only [Option.some.injEq] at hj; omega⟩

theorem Chg.up {w w1 w2 : World} {b : Nat} {o : Option Nat} (h : Chg (fun _ => False) w w1) (h2 : Chg (fun k => k = b ∨ some k = o) w1 w2) (ha : Above w.heap.size b o) : Chg (fun _ => False) w w2 :=
  h.trans h2 fun k hk hx => by
    rcases hx with hx | hx
    · have := ha.1; omega
    · have := ha.2 k hx.symm; omega

theorem Chg.next {w w1 w2 : World} (h : Chg (fun _ => False) w w1) (h2 : Chg (fun _ => False) w1 w2) : Chg (fun _ => False) w w2 := h.trans h2 fun _ _ h => h

/-- append at an operation that stands under a guard which says yes -/
theorem wpList_append_want {P : Program} {ops : Array Oper} {rest : List Oper} {o : Oper} {a : Act} {w : World} {Q : Exit → Act → World → Prop} (s x : Operand) (t : TypeId)
    (ho : o.op = .call { callee := .builtin .append, args := #[s, x], argTypes := #[t, t] })
    (base : Nat) (e : TypeId) (i : TypeInfo) (z : Value) (size bytes : Nat) (ht : P.underlying t = some (.slice e)) (hi : P.info? e = some i) (hz : i.zero = some z)
    (hsize : i.size = size) (hby : i.bytes = bytes) (hzs : z.cells.size = size) (hsz : 0 < size)
    (v : Value) (n : Nat) (xs : List Value) (hs : a.eval s = v) (hown : w.ownsRow base e size v n xs)
    (ad : Addr) (m c : Nat) (news : List Value) (hx : a.eval x = .slice (some ad) m c) (hl : news.length = m * size) (hnews : ∀ j u, news[j]? = some u → w.cell? (ad.add j) = some u) (h1 : ∀ u ∈ news, u.oneCell' = true)
    (hm : 0 < m) (h63 : n + m ≤ maxLen) (hbytes : (n + m) * bytes ≤ 140737488355328) (hbase : base ≤ w.heap.size)
    (hw : Region.wanted o (yielded ops a.tmps) = true)
    (h : ∀ g cap w', w'.ownsRow base e size (.slice (some ⟨g, 0, none⟩) (n + m) cap) (n + m) (xs ++ news) → w.grownBy w' v.ownBlock → (v.ownBlock = some g ∨ g = w.heap.size) → wpList P ops Q rest (a.put o.dst (.slice (some ⟨g, 0, none⟩) (n + m) cap)) w') :
    wpList P ops Q (o :: rest) a w :=
  BigFrame.wpList_want hw fun _ hK => wp_append_lies w s x t ho base e i z size bytes ht hi hz hsize hby hzs hsz v n xs hs hown ad m c news hx hl hnews h1 hm h63 hbytes hbase _ rfl fun g cap w' h2 h3 h4 _ => hK _ _ (h g cap w' h2 h3 h4)

end Go.Proofs.Ytbopamcnlocdbaa

/- slices.Clone of bytes; a bitf.Reader in memory; what bitf's begun, bitAt, Left, New do. -/
namespace Go.Proofs.Ytbopamcnlocdbaa
open Go.RowKit

theorem RdB.news {w : World} {a : Addr} {n cap : Nat} {xs : List Nat} (h : RdB w (.slice (some a) n cap) xs) : ∀ j u, (bv xs)[j]? = some u → w.cell? (a.add j) = some u := by
  intro j u hu
  rcases h with ⟨rfl, _⟩ | ⟨g, off, cap', he, hc⟩
  · simp [bv] at hu
  · simp only [Value.slice.injEq, Option.some.injEq] at he
    obtain ⟨rfl, rfl, rfl⟩ := he
    have hj : j < xs.length := by rw [← bv_length]; exact (List.getElem?_eq_some_iff.1 hu).1
    rw [bv_get xs j hj] at hu
    rw [← Option.some.inj hu, show (⟨g, off, none⟩ : Addr).add j = ⟨g, off + j, none⟩ from by unfold Addr.add; split <;> simp_all]
    exact hc j hj

theorem eqlNil (W : World) (a : Addr) (n c : Nat) : (binOp .eql 45 (.slice (some a) n c) (.slice none 0 0)).run Try.prog W = .ok (.bool false) W := by kernel_rfl
theorem eqlNil0 (W : World) (n c : Nat) : (binOp .eql 45 (.slice none n c) (.slice none 0 0)).run Try.prog W = .ok (.bool true) W := by kernel_rfl

end Go.Proofs.Ytbopamcnlocdbaa

/- append(s, x...): bytes x that are read, nil or not, onto a row of bytes of the call's own. -/
namespace Go.Proofs.Ytbopamcnlocdbaa
open Go.RowKit

theorem run_append_nil (w : World) (ty : TypeId) (base n c : Nat) (v : Value) (ys : List Value) (hown : w.ownsRow base 5 1 v n ys) :
    (Builtin.append_ #[45, 45] ty #[v, .slice none 0 c]).run Try.prog w = .ok v w := by
  obtain ⟨i, hi, hz0, hz1, hz2⟩ := info_parts Try.infoU8
  rcases hown.2 with ⟨rfl, _⟩ | ⟨g, cap, cur, rfl, _, hg, hn, _⟩
  · simp [Builtin.append_, run_underlying Try.underlying45, sizeOf, typeInfo, hi, Builtin.lenOf, Builtin.firstCells]
  · simp [Builtin.append_, run_underlying Try.underlying45, sizeOf, typeInfo, hi, Builtin.lenOf, Builtin.firstCells, hn, storeCells]

theorem wp_append_bytes {o : Oper} {a : Act} {w : World} {K : Act → World → Prop} {Q : Exit → Act → World → Prop} (s x : Operand)
    (ho : o.op = .call { callee := .builtin .append, args := #[s, x], argTypes := #[45, 45] })
    (base : Nat) (v : Value) (ys : List Nat) (hs : a.eval s = v) (hown : w.ownsRow base 5 1 v ys.length (bv ys))
    (u : Value) (xs : List Nat) (hx : a.eval x = u) (hr : RdB w u xs) (hb : base ≤ w.heap.size) (hl : ys.length + xs.length < 100000000000)
    (h : ∀ v' w', w'.ownsRow base 5 1 v' (ys ++ xs).length (bv (ys ++ xs)) → Chg (fun k => some k = v.ownBlock) w w' → K (a.put o.dst v') w') : o.wp Try.prog a w K Q := by
  obtain ⟨i, hi, hz0, hz1, hz2⟩ := info_parts Try.infoU8
  obtain ⟨ao, cap, hu⟩ := hr.form
  subst hu
  cases ao with
  | none =>
    have h0 : xs = [] := by
      rcases hr with ⟨h0, _⟩ | ⟨g, off, cap', he, _⟩
      · exact h0
      · simp at he
    subst h0
    have hrun := run_append_nil w o.type base ys.length cap v (bv ys) hown
    rw [List.length_nil] at hx
    unfold Oper.wp execOp
    simp only [ho, resolve, invoke, builtin, Sem.run_bind, Sem.run_pure, Result.andThen_ok, List.map_toArray, List.map_cons, List.map_nil, hs, hx, hrun]
    exact h v w (by rw [List.append_nil]; exact hown) (Chg.refl _ _)
  | some ad =>
    refine wp_append_own w s x 45 ho base 5 i (.int .u8 0) 1 1 Try.underlying45 hi hz0 hz1 hz2 rfl (by decide) v ys.length (bv ys) hs hown ad xs.length cap (bv xs) hx (by rw [bv_length, Nat.mul_one]) (RdB.news hr) (bv_one xs) (by unfold maxLen; omega) (by omega) hb fun v' w' h2 h3 _ => ?_
    exact h v' w' (by rw [List.length_append, show bv (ys ++ xs) = bv ys ++ bv xs from by simp [bv]]; exact h2) (Chg.of_grown h3)

theorem wpList_append_bytes {ops : Array Oper} {rest : List Oper} {o : Oper} {a : Act} {w : World} {Q : Exit → Act → World → Prop} (hgd : o.guard = none) (s x : Operand)
    (ho : o.op = .call { callee := .builtin .append, args := #[s, x], argTypes := #[45, 45] })
    (base : Nat) (v : Value) (ys : List Nat) (hs : a.eval s = v) (hown : w.ownsRow base 5 1 v ys.length (bv ys))
    (u : Value) (xs : List Nat) (hx : a.eval x = u) (hr : RdB w u xs) (hb : base ≤ w.heap.size) (hl : ys.length + xs.length < 100000000000)
    (h : ∀ v' w', w'.ownsRow base 5 1 v' (ys ++ xs).length (bv (ys ++ xs)) → Chg (fun k => some k = v.ownBlock) w w' → wpList Try.prog ops Q rest (a.put o.dst v') w') :
    wpList Try.prog ops Q (o :: rest) a w :=
  wpList_plain hgd fun _ hK => wp_append_bytes s x ho base v ys hs hown u xs hx hr hb hl fun v' w' h2 h3 => hK _ _ (h v' w' h2 h3)

/-- a row of no bytes that was just laid -/
theorem own_empty (w : World) : (w.alloc (.cells #[] 5)).ownsRow w.heap.size 5 1 (.slice (some ⟨w.heap.size, 0, none⟩) 0 0) ([] : List Nat).length (bv []) :=
  World.ownsRow_made w #[] 0 (Nat.le_refl _) (by unfold maxLen; omega) rfl

end Go.Proofs.Ytbopamcnlocdbaa

/- What spread's Log, ahead and firstKeys tell. THIS SPEAKS OF THE PROGRAM'S OWN TEXT. -/
namespace Go.Proofs.Ytbopamcnlocdbaa
open Go.RowKit

set_option maxHeartbeats 600000 in
theorem slog_any (v : Value) (q : List Int) (w : World) (h : RdI w v q) (hb : ∀ z ∈ q, -9223372036854775808 ≤ z ∧ z ≤ 9223372036854775807) (hl : q.length < 100000000000) :
    Calls Try.prog 17 #[v] w fun e w' => e = .returned (.int .i64 ((logI (totalI q) : Nat) : Int)) ∧ Chg (fun _ => False) w w' := by
  have HT := Lib.hid (nlog_any v q w h hb hl)
  obtain ⟨ao, cap, rfl⟩ := h.form
  clear h hb hl
  obtain ⟨t, ht⟩ : ∃ t, logI (totalI q) = t := ⟨_, rfl⟩
  rw [ht] at HT ⊢
  obtain ⟨D, hD⟩ : ∃ D, decide (0 < t) = D := ⟨_, rfl⟩
  rw [hD] at HT
  clear ht hD
  go_enter Try.func17, Try.ntmps17
  go_wp2_with fail
  refine HT.out.mono ?_
  rintro e w1 ⟨rfl, hc⟩
  have HC := Lib.hid hc
  clear hc
  go_wp2
  go_ret
  exact ⟨rfl, HC.out⟩

theorem kh_new (w : World) : Kh w.heap.size w.heap.size (w.alloc (.cells #[.slice none 0 0] 75)) [] :=
  ⟨⟨_, heap_alloc_new w _, World.ownsRow_nil _ _ _ _, Nat.zero_le _, Nat.le_refl _⟩, fun k h0 hk => absurd hk (by simp)⟩

/-- the cells of normalized counts, wherever they stand -/
theorem NormQ.cells {q : List Int} {k : Nat} (hq : NormQ q k) {w : World} {ao : Option Addr} {cap : Nat} (h : RdI w (.slice ao q.length cap) q) :
    ∃ g off, ao = some ⟨g, off, none⟩ ∧ ∀ W, Chg (fun _ => False) w W → ∀ s, s < 256 → W.cell? ⟨g, off + s, none⟩ = some (.int .i64 ((fq q s : Nat) : Int)) := by
  have hcells : ∀ W, Chg (fun _ => False) w W → ∀ s, s < 256 → ∃ g off, ao = some ⟨g, off, none⟩ ∧ W.cell? ⟨g, off + s, none⟩ = some (.int .i64 ((fq q s : Nat) : Int)) := fun W hc s hs => by
    obtain ⟨g, off, h1, h2⟩ := (h.kept hc (by simp)).at s (by rw [hq.1]; omega)
    rw [hq.at s] at h2
    exact ⟨g, off, h1, h2⟩
  obtain ⟨g, off, rfl, -⟩ := hcells w (Chg.refl _ _) 0 (by omega)
  refine ⟨g, off, rfl, fun W hc s hs => ?_⟩
  obtain ⟨g', off', h1, h2⟩ := hcells W hc s hs
  simp only [Option.some.injEq, Addr.mk.injEq] at h1
  obtain ⟨rfl, rfl, -⟩ := h1
  exact h2

set_option maxHeartbeats 600000 in
theorem sfirst_any (v : Value) (q : List Int) (k : Nat) (w : World) (h : RdI w v q) (hq : NormQ q k) :
    Calls Try.prog 30 #[v] w fun e w' => ∃ l, e = .returned (.pointer (some ⟨w.heap.size, 0, none⟩)) ∧ Kh w.heap.size w.heap.size w' l ∧ FirstK (fq q) 256 l ∧ Chg (fun _ => False) w w' := by
  obtain ⟨ao, cap, rfl⟩ := h.form
  obtain ⟨g, off, rfl, hcell⟩ := hq.cells h
  have HCELL := Lib.hid hcell
  have HLE := Lib.hid hq.le
  have hlen : (q.length : Int) = 256 := by have := hq.1; omega
  obtain ⟨n, hn⟩ : ∃ n, q.length = n := ⟨_, rfl⟩
  rw [hn] at hlen ⊢
  obtain ⟨f, hf⟩ : ∃ f, fq q = f := ⟨_, rfl⟩
  rw [hf] at HCELL HLE ⊢
  have HLN := Lib.hid hlen
  have hcq := Chg.alloc (fun _ => False) w (.cells #[.slice none 0 0] 75)
  have hq0 := kh_new w
  obtain ⟨G, hG⟩ : ∃ G, w.heap.size = G := ⟨_, rfl⟩
  rw [hG] at hq0
  have HCQ := Lib.hid hcq; have HQ0 := Lib.hid hq0; have HG := Lib.hid hG
  clear hcell hq hlen hn hf h hcq hq0
  rw [hG]
  go_enter Try.func30, Try.ntmps30
  go_wp2
  clear hG
  go_loopw [10] (fun o10 wr => ∃ (s : Nat) (l : List Kr), s ≤ 256 ∧ o10 = .int .i64 (s : Int) ∧ Kh G G wr l ∧ FirstK f s l ∧ Chg (fun _ => False) w wr) (fun o10 _ => 256 - (intOf o10).toNat)
  case atStart => exact ⟨0, [], Nat.zero_le _, rfl, HQ0.out, FirstK.zero _, HCQ.out⟩
  case round =>
    clear HQ0 HCQ
    obtain ⟨s, l, hs, rfl, hk, hfk, hc⟩ := hrel
    by_cases hlt : s < 256
    · have hcell := HCELL.out wr hc s hlt
      have hsn : (s : Int) < (n : Int) := by have := HLN.out; omega
      have h4 := HLE.out s
      obtain ⟨x, hx⟩ : ∃ x, f s = x := ⟨_, rfl⟩
      rw [hx] at hcell h4
      by_cases h0 : x = 0
      · subst h0
        have HF := Lib.hid (show Kh G G wr l ∧ FirstK f (s + 1) l ∧ Chg (fun _ => False) w wr from ⟨hk, hfk.skip hx, hc⟩)
        have hd : decide ((0 : Int) < 0) = false := rfl
        simp only [Int.natCast_zero] at hcell
        clear hk hfk hc hx h4
        go_wp2
        go_roundw
        case rel => exact ⟨s + 1, l, by omega, by go_num, HF.out⟩
        case measure => simp [intOf]; omega
      · have hll := hfk.2.1
        have hky : (keyK f s 0).right := keyK_right HLE.out hlt (by omega)
        have hadd := kqadd_any (⟨keyK f s 0, hky⟩ : Kr) hk (by omega)
        have hkv : kv (keyK f s 0) = .agg #[.int .i64 (x : Int), .int .i64 (x : Int), .int .i64 (s : Int)] := by unfold kv keyK; simp only [hx, Nat.add_zero]
        simp only [hkv] at hadd
        have hx0 : decide ((0 : Int) < (x : Int)) = true := decide_eq_true (by omega)
        have hx1 : 0 < x := by omega
        have HADD := Lib.hid hadd; have HF := Lib.hid (And.intro hfk (And.intro hc (show 0 < f s by omega)))
        clear hk hfk hc hx h4 hll hadd hkv h0
        go_wp2_with fail
        refine (HADD.out).mono ?_
        rintro e w2 ⟨rfl, l2, hq2, hp2, hc2⟩
        have HE := Lib.hid (show Kh G G w2 l2 ∧ FirstK f (s + 1) l2 ∧ Chg (fun _ => False) w w2 from ⟨hq2, HF.out.1.more HF.out.2.2 rfl hp2, HF.out.2.1.trans hc2 fun q hq he => by have := HG.out; omega⟩)
        clear hq2 hp2 hc2 HADD HF
        go_wp2
        go_roundw
        case rel => exact ⟨s + 1, l2, by omega, by go_num, HE.out⟩
        case measure => simp [intOf]; omega
    · have hs6 : s = 256 := by omega
      subst hs6
      have hsn : (n : Int) = 256 := HLN.out
      have HF := Lib.hid (show Kh G G wr l ∧ FirstK f 256 l ∧ Chg (fun _ => False) w wr from ⟨hk, hfk, hc⟩)
      clear hk hfk hc
      go_wp2
      go_ret
      exact ⟨l, rfl, HF.out⟩

end Go.Proofs.Ytbopamcnlocdbaa

/- What spread's Of tells. THIS SPEAKS OF THE PROGRAM'S OWN TEXT. -/
namespace Go.Proofs.Ytbopamcnlocdbaa
open Go.RowKit

/-- how many elements a slice has -/
def lenV : Value → Nat
  | .slice _ n _ => n
  | _ => 0

theorem nextK_more {f : Nat → Nat} {s d : Nat} (hf : ∀ s, f s ≤ 4096) (hs : s < 256) (h : d + 1 < f s) : Ky.right ⟨(keyK f s d).I + 1, (keyK f s d).Q, (keyK f s d).S⟩ ∧ nextK (keyK f s d) = keyK f s (d + 1) := by
  have hr := keyK_right hf hs h
  have he : (⟨(keyK f s d).I + 1, (keyK f s d).Q, (keyK f s d).S⟩ : Ky) = keyK f s (d + 1) := by
    unfold keyK; rw [Ky.mk.injEq]; exact ⟨by simp only []; omega, rfl, rfl⟩
  unfold nextK
  rw [he, if_pos hr]
  exact ⟨hr, rfl⟩
theorem nextK_last {f : Nat → Nat} {s d : Nat} (h : ¬ d + 1 < f s) : ¬ Ky.right ⟨(keyK f s d).I + 1, (keyK f s d).Q, (keyK f s d).S⟩ ∧ nextK (keyK f s d) = ⟨0, 0, 0⟩ := by
  have hr : ¬ Ky.right ⟨(keyK f s d).I + 1, (keyK f s d).Q, (keyK f s d).S⟩ := by unfold keyK Ky.right; simp only []; omega
  unfold nextK
  exact ⟨hr, if_neg hr⟩

set_option maxHeartbeats 600000 in
theorem sof_any (v : Value) (q : List Int) (w : World) (h : RdI w v q) (hb : ∀ z ∈ q, -9223372036854775808 ≤ z ∧ z ≤ 9223372036854775807) (hl : q.length < 100000000000) :
    Calls Try.prog 16 #[v] w fun e w' => SpreadSays w q e w' := by
  have hlg := nlog_any v q w h hb hl
  by_cases hk : logI (totalI q) = 0
  · obtain ⟨ao, cap, rfl⟩ := h.form
    rw [hk] at hlg
    rw [show decide (0 < 0) = false from rfl] at hlg
    have HLG := Lib.hid hlg
    have HK := Lib.hid hk
    clear hb hl hk h hlg
    go_enter Try.func16, Try.ntmps16
    go_wp2_with fail
    refine HLG.out.mono ?_
    rintro e w1 ⟨rfl, hc⟩
    have HC := Lib.hid hc
    clear hc HLG
    go_wp2
    go_ret2
    exact ⟨_, by rw [if_pos HK.out]; rfl, fun h => absurd HK.out h, fun _ => .inl ⟨rfl, none, 0, rfl⟩, HC.out⟩
  · have hq := normQ_of hk
    have hd : decide (0 < logI (totalI q)) = true := decide_eq_true (by omega)
    rw [hd] at hlg
    obtain ⟨ao, cap, rfl⟩ := h.form
    have HK := Lib.hid hk
    obtain ⟨k, hke⟩ : ∃ k, logI (totalI q) = k := ⟨_, rfl⟩
    rw [hke] at hq hlg
    have HLE := Lib.hid hq.le
    have hfirst := fun W (hc : Chg (fun _ => False) w W) => sfirst_any (.slice ao q.length cap) q k W (h.kept hc (by simp)) hq
    have hsum := hq.sum
    have hsz := hq.size
    have hk12 : (k : Int) ≤ 12 := by have := hq.2.2.2.2; omega
    obtain ⟨L, hL⟩ : ∃ L, 2 ^ k = L := ⟨_, rfl⟩
    have hLI : (2 : Int) ^ k = (L : Int) := by rw [← hL]; simp
    rw [hL] at hsum hsz
    have hLI4 : (L : Int) ≤ 4096 := by omega
    obtain ⟨n, hn⟩ : ∃ n, q.length = n := ⟨_, rfl⟩
    rw [hn] at hlg hfirst ⊢
    have HFI := Lib.hid hfirst; have HSUM := Lib.hid hsum
    have HLG := Lib.hid hlg
    have hfx : ∃ f, fq q = f := ⟨_, rfl⟩
    obtain ⟨f, hf⟩ := hfx
    rw [hf] at HFI HSUM HLE
    have HF := Lib.hid hf
    clear hq hb hl hk h hlg hd hke hfirst hsum hL hsz hn hf
    go_enter Try.func16, Try.ntmps16
    go_wp2_with fail
    refine HLG.out.mono ?_
    rintro e w1 ⟨rfl, hc⟩
    have HC := Lib.hid hc
    clear hc HLG
    obtain ⟨i, hi, hz0, hz1, hz2⟩ := info_parts Try.infoU8
    go_wp2_with (at_make; refine wpList_make_own w1 rfl _ _ 45 rfl w.heap.size 5 i (.int .u8 0) 1 Try.underlying45 hi hz0 hz1 .i64 .i64 (L : Int) L rfl rfl rfl (by rw [hz2]; omega) (by unfold maxLen; omega) HC.out.size ?_)
    intro w2 ho hg2
    have hc2 : Chg (fun _ => False) w1 w2 := (Chg.of_grown hg2).mono fun k _ hk => by simp at hk
    have HC2 := Lib.hid (HC.out.trans hc2 fun _ _ h => h)
    have hfi := HFI.out w2 HC2.out
    obtain ⟨G, hG⟩ : ∃ G, w1.heap.size = G := ⟨_, rfl⟩
    have hGw := HC.out.size
    rw [hG] at ho hGw ⊢
    obtain ⟨Q2, hQ2⟩ : ∃ Q2, w2.heap.size = Q2 := ⟨_, rfl⟩
    have hlt0 := (ho.lt G rfl).2
    rw [hQ2] at hfi hlt0
    have HG := Lib.hid (show w.heap.size ≤ G ∧ G < Q2 ∧ w2.heap.size = Q2 from ⟨hGw, hlt0, hQ2⟩)
    have HFI2 := Lib.hid hfi
    have HO := Lib.hid ho
    clear hG hc2 hg2 hfi ho HFI HC hGw hlt0 hQ2
    go_wp2_with fail
    refine HFI2.out.mono ?_
    rintro e w3 ⟨l, rfl, hkh, hfk, hc3⟩
    have HC3 := Lib.hid (HC2.out.trans hc3 fun _ _ h => h)
    have HO3 := Lib.hid (hc3.own HO.out (by simp))
    have hw := hfk.wait
    have HKH := Lib.hid hkh; have HW := Lib.hid (And.intro hw hfk.2.1)
    clear HFI2 HC2 HO hc3 hfk hkh hw
    go_wp2
    go_loopw [6] (fun o6 wr => ∃ (p : Nat) (l : List Kr) (out : List Nat), o6 = .slice (some ⟨G, 0, none⟩) p L ∧ p ≤ L ∧ OutF f p out ∧ wr.ownsRow w.heap.size 5 1 (.slice (some ⟨G, 0, none⟩) p L) p (bv out) ∧ Kh Q2 Q2 wr l ∧ WaitF f p l ∧ l.length ≤ 256 ∧ (∀ x ∈ out, x < 256) ∧ Chg (fun _ => False) w wr) (fun o6 _ => L - lenV o6)
    case atStart => exact ⟨0, l, [], rfl, Nat.zero_le _, OutF.zero _, HO3.out, HKH.out, HW.out.1, HW.out.2, by simp, HC3.out⟩
    case round =>
      clear HO3 HKH HW HC3
      obtain ⟨p, l, out, rfl, hp, hout, ho, hkh, hw, hl6, ho6, hc⟩ := hrel
      have hlen := kh_len hkh
      by_cases hlt : p < L
      · have hpos : 0 < l.length := by
          obtain ⟨s, d, hs, hd, he, kk, hkk, _⟩ := hw.some HLE.out (by rw [HSUM.out]; exact hlt)
          exact List.length_pos_of_mem hkk
        obtain ⟨m, hm⟩ : ∃ m, l.length = m := ⟨_, rfl⟩
        have hleast := kqleast_any hkh hpos
        rw [hm] at hlen hpos
        have hmI : decide ((0 : Int) < (m : Int)) = true := decide_eq_true (by omega)
        have HLEN := Lib.hid hlen; have HLST := Lib.hid hleast; have HM := Lib.hid hm
        have HOUT := Lib.hid (And.intro hout (And.intro ho (And.intro hw (And.intro hl6 (And.intro ho6 (And.intro hc hlt))))))
        clear hlen hleast hm hout ho hw hl6 ho6 hc hkh hp
        go_wp2_with fail
        refine HLEN.out.mono ?_
        rintro e w4 ⟨rfl, hw4⟩
        obtain rfl := hw4.symm
        clear HLEN
        go_wp2_with fail
        refine HLST.out.mono ?_
        rintro e w5 ⟨x, l2, rfl, hkh2, hpp, hle2, hc5⟩
        obtain ⟨hout, ho, hw, hl6, ho6, hc, hlt⟩ := HOUT.out
        obtain ⟨s, d, hs, hd, hx, he⟩ := hw.next HLE.out (by rw [HSUM.out]; exact hlt) hpp hle2
        have hF4 := HLE.out s
        have hr := keyK_right HLE.out hs hd
        have hwlast := fun h1 => hw.last hpp hs hd hx he h1
        have hwmore := fun (y : Kr) (mm : List Kr) h1 hy hm2 => hw.more (m := mm) (y := y) hpp hs hd hx he h1 hy hm2
        have hl2 : l2.length + 1 = m := by have := hpp.length_eq; rw [HM.out, List.length_cons] at this; omega
        have hm6 : m ≤ 256 := by rw [← HM.out]; exact hl6
        have hout2 := hout.step hs hd he
        have ho5 := hc5.own ho (fun k hk => by simp only [Value.ownBlock, Option.some.injEq] at hk; have := HG.out; omega)
        have hcw5 : Chg (fun _ => False) w w5 := hc.trans hc5 fun q hq he => by have := HG.out; omega
        rw [hx]
        have hkv : kv (keyK f s d) = .agg #[.int .i64 ((f s + d : Nat) : Int), .int .i64 ((f s : Nat) : Int), .int .i64 (s : Int)] := rfl
        rw [hkv]
        have hnx := fun W => knext_any (keyK f s d) W hr
        rw [hkv] at hnx
        obtain ⟨J, hJ⟩ : ∃ J, f s + d = J := ⟨_, rfl⟩
        obtain ⟨F, hF⟩ : ∃ F, f s = F := ⟨_, rfl⟩
        rw [hJ, hF] at hnx ⊢
        have hkb6 : Kb (w5.alloc (.cells #[.int .i64 (J : Int), .int .i64 (F : Int), .int .i64 (s : Int)] 63)) w5.heap.size 63 ⟨(J : Int), (F : Int), (s : Int)⟩ := heap_alloc_new w5 _
        have hc6 := Chg.alloc (fun _ => False) w5 (.cells #[.int .i64 (J : Int), .int .i64 (F : Int), .int .i64 (s : Int)] 63)
        have ho6' := ho5.alloc (.cells #[.int .i64 (J : Int), .int .i64 (F : Int), .int .i64 (s : Int)] 63)
        obtain ⟨w6, hw6⟩ : ∃ w6, w5.alloc (.cells #[.int .i64 (J : Int), .int .i64 (F : Int), .int .i64 (s : Int)] 63) = w6 := ⟨_, rfl⟩
        rw [hw6] at hkb6 hc6 ho6'
        have hc7 := Chg.alloc (fun _ => False) w6 (.cells #[.int .u8 (s : Int)] 5)
        have ho7 := ho6'.alloc (.cells #[.int .u8 (s : Int)] 5)
        have hkb7 := hkb6.kept hc7 (by simp)
        have hblk := heap_alloc_new w6 (.cells #[.int .u8 (s : Int)] 5)
        have hnews := World.news_of_block hblk
        obtain ⟨w7, hw7⟩ : ∃ w7, w6.alloc (.cells #[.int .u8 (s : Int)] 5) = w7 := ⟨_, rfl⟩
        rw [hw7] at hc7 ho7 hkb7 hblk hnews
        obtain ⟨a0, a1, a2⟩ := hkb6.cells
        simp only [] at a0 a1 a2
        have h256 : (s : Int) % 256 = (s : Int) := by omega
        have hcw7 : Chg (fun _ => False) w5 w7 := hc6.trans hc7 fun _ _ h => h
        have hkh7 := hkh2.kept hcw7 (by simp)
        have hcw : Chg (fun _ => False) w w7 := hcw5.trans hcw7 fun _ _ h => h
        have hKG : w5.heap.size ≠ G := by have h1 := hkh2.le; have := HG.out; omega
        obtain ⟨K, hK⟩ : ∃ K, w5.heap.size = K := ⟨_, rfl⟩
        rw [hK] at hkb7 hKG a0 a1 a2
        have ho62 : ∀ x ∈ out ++ [s], x < 256 := fun x hx => by
          rcases List.mem_append.1 hx with h | h
          · exact ho6 x h
          · simp only [List.mem_singleton] at h; omega
        have HO7 := Lib.hid ho7; have HNEWS := Lib.hid hnews; have HKB7 := Lib.hid hkb7; have HNX := Lib.hid hnx
        have HREST := Lib.hid (And.intro hwlast (And.intro hwmore (And.intro hout2 (And.intro hkh7 (And.intro hcw (And.intro hl2 (And.intro hm6 (And.intro ho62 (And.intro hlt (And.intro hs (And.intro hd (And.intro hF hKG))))))))))))
        clear ho7 hnews hkb7 hnx hwlast hwmore hout2 hkh7 hcw hl2 hm6 ho62 hlt hs hd hF hKG hkv hblk hc7 hkb6 hc6 ho6' hc5 hpp hle2 hkh2 hx he hout ho hw hl6 ho6 hc HOUT HLST ho5 hcw5 hr hcw7 HM hJ
        go_wp2_with (at_builtin; refine wpList_append_fits _ rfl (.tmp 28) (.tmp 32) 45 rfl w.heap.size 5 i 1 Try.underlying45 hi hz1 G p L (bv out) rfl HO7.out ⟨w6.heap.size, 0, none⟩ 1 1 [.int .u8 (s : Int)] rfl rfl HNEWS.out (by simp [Value.oneCell']) (by have := HREST.out.2.2.2.2.2.2.2.2.1; omega) ?_)
        intro w8 ho8 hg8
        have hc8 : Chg (fun k => k = G) w7 w8 := (Chg.of_grown hg8).mono fun k _ hk => by simpa using hk
        obtain ⟨hwlast, hwmore, hout2, hkh7, hcw, hl2, hm6, ho62, hlt, hs, hd, hF, hKG⟩ := HREST.out
        have hkb8 := HKB7.out.kept hc8 hKG
        have hkh8 := hkh7.kept hc8 fun k hk _ he => by have := HG.out; omega
        have hcw8 : Chg (fun _ => False) w w8 := hcw.trans hc8 fun q hq he => by have := HG.out; omega
        have ho8' : w8.ownsRow w.heap.size 5 1 (.slice (some ⟨G, 0, none⟩) (p + 1) L) (p + 1) (bv (out ++ [s])) := by
          have : bv (out ++ [s]) = bv out ++ [.int .u8 (s : Int)] := by simp [bv]
          rw [this]; exact ho8
        have hld := hkb8.loadF
        unfold kv at hld
        simp only [] at hld
        obtain ⟨e0, e1, e2⟩ := hkb8.cells
        simp only [] at e0 e1 e2
        have HO8 := Lib.hid ho8'; have HKH8 := Lib.hid hkh8; have HCW8 := Lib.hid hcw8
        have HR2 := Lib.hid (And.intro hwlast (And.intro hwmore (And.intro hout2 (And.intro hl2 (And.intro hm6 (And.intro ho62 (And.intro hlt (And.intro hs (And.intro hd hF)))))))))
        clear ho8 hg8 hc8 hwlast hwmore hout2 hkh7 hcw hl2 hm6 ho62 hlt hs hd hF hKG hkb8 hkh8 hcw8 ho8' HREST HKB7 HO7 HNEWS hw6 hw7 a0 a1 a2 hK
        go_wp2_with fail
        refine (HNX.out _).mono ?_
        rintro e w9 ⟨rfl, hc9⟩
        obtain ⟨hwlast, hwmore, hout2, hl2, hm6, ho62, hlt, hs, hd, hF⟩ := HR2.out
        have ho9 := hc9.own HO8.out (by simp)
        have hkh9 := HKH8.out.kept hc9 (by simp)
        have hcw9 : Chg (fun _ => False) w w9 := HCW8.out.trans hc9 fun _ _ h => h
        by_cases hd1 : d + 1 < f s
        · obtain ⟨hrr, hnk⟩ := nextK_more HLE.out hs hd1
          rw [decide_eq_true hrr, hnk]
          have hkv : kv (keyK f s (d + 1)) = .agg #[.int .i64 ((f s + (d + 1) : Nat) : Int), .int .i64 ((f s : Nat) : Int), .int .i64 (s : Int)] := rfl
          rw [hkv, hF]
          obtain ⟨J2, hJ2⟩ : ∃ J2, F + (d + 1) = J2 := ⟨_, rfl⟩
          rw [hJ2]
          have hc10 := Chg.alloc (fun _ => False) w9 (.cells #[.int .i64 (J2 : Int), .int .i64 (F : Int), .int .i64 (s : Int)] 63)
          have hkh10 := hkh9.kept hc10 (by simp)
          have ho10 := hc10.own ho9 (by simp)
          obtain ⟨y, hy⟩ : ∃ y : Kr, y.1 = keyK f s (d + 1) := ⟨⟨keyK f s (d + 1), keyK_right HLE.out hs hd1⟩, rfl⟩
          have hadd := kqadd_any y hkh10 (by omega)
          rw [hy] at hadd
          simp only [hkv, hF, hJ2] at hadd
          have hwm := fun mm hm2 => hwmore y mm hd1 hy hm2
          have HADD := Lib.hid hadd
          have HE := Lib.hid (And.intro hwm (And.intro ho10 (And.intro hout2 (And.intro (hcw9.trans hc10 fun _ _ h => h) (And.intro hl2 (And.intro hm6 (And.intro ho62 hlt)))))))
          clear hrr hnk hkv hJ2 hc10 hkh10 ho10 hadd hwm hwlast hwmore hout2 hl2 hm6 ho62 hlt hs hd hF ho9 hkh9 hcw9 hc9 HR2 HCW8 HKH8 HO8 HNX hld e0 e1 e2 hd1 hy
          go_wp2_with fail
          refine HADD.out.mono ?_
          rintro e w11 ⟨rfl, l3, hkh11, hp11, hc11⟩
          obtain ⟨hwm, ho10, hout2, hcw10, hl2, hm6, ho62, hlt⟩ := HE.out
          have HFIN := Lib.hid (show p + 1 ≤ L ∧ OutF f (p + 1) (out ++ [s]) ∧ w11.ownsRow w.heap.size 5 1 (.slice (some ⟨G, 0, none⟩) (p + 1) L) (p + 1) (bv (out ++ [s])) ∧ Kh Q2 Q2 w11 l3 ∧ WaitF f (p + 1) l3 ∧ l3.length ≤ 256 ∧ (∀ x ∈ out ++ [s], x < 256) ∧ Chg (fun _ => False) w w11 from
            ⟨by omega, hout2, hc11.own ho10 (fun k hk => by simp only [Value.ownBlock, Option.some.injEq] at hk; have := HG.out; omega), hkh11, hwm _ hp11, by have := hp11.length_eq; rw [List.length_cons] at this; omega, ho62, hcw10.trans hc11 fun q hq he => by have := HG.out; omega⟩)
          have HLT := Lib.hid hlt
          clear hwm ho10 hout2 hcw10 hl2 hm6 ho62 hlt hkh11 hp11 hc11 HADD HE
          go_wp2
          go_roundw
          case rel => exact ⟨p + 1, l3, out ++ [s], rfl, HFIN.out⟩
          case measure => have := HLT.out; simp [lenV]; omega
        · obtain ⟨hrr, hnk⟩ := nextK_last hd1
          rw [decide_eq_false hrr, hnk]
          have hkv : kv ⟨0, 0, 0⟩ = .agg #[.int .i64 0, .int .i64 0, .int .i64 0] := rfl
          rw [hkv]
          have hc10 := Chg.alloc (fun _ => False) w9 (.cells #[.int .i64 0, .int .i64 0, .int .i64 0] 63)
          have hkh10 := hkh9.kept hc10 (by simp)
          have ho10 := hc10.own ho9 (by simp)
          have HFIN := Lib.hid (show p + 1 ≤ L ∧ OutF f (p + 1) (out ++ [s]) ∧ (w9.alloc (.cells #[.int .i64 0, .int .i64 0, .int .i64 0] 63)).ownsRow w.heap.size 5 1 (.slice (some ⟨G, 0, none⟩) (p + 1) L) (p + 1) (bv (out ++ [s])) ∧ Kh Q2 Q2 (w9.alloc (.cells #[.int .i64 0, .int .i64 0, .int .i64 0] 63)) l2 ∧ WaitF f (p + 1) l2 ∧ l2.length ≤ 256 ∧ (∀ x ∈ out ++ [s], x < 256) ∧ Chg (fun _ => False) w (w9.alloc (.cells #[.int .i64 0, .int .i64 0, .int .i64 0] 63)) from
            ⟨by omega, hout2, ho10, hkh10, hwlast hd1, by omega, ho62, hcw9.trans hc10 fun _ _ h => h⟩)
          have HLT := Lib.hid hlt
          clear hrr hnk hkv hc10 hkh10 ho10 hwlast hwmore hout2 hl2 hm6 ho62 hlt hs hd hF ho9 hkh9 hcw9 hc9 HR2 HCW8 HKH8 HO8 HNX hld e0 e1 e2 hd1
          go_wp2
          go_roundw
          case rel => exact ⟨p + 1, l2, out ++ [s], rfl, HFIN.out⟩
          case measure => have := HLT.out; simp [lenV]; omega
      · obtain rfl : p = L := by omega
        have hnil := hw.none (by rw [HSUM.out]; exact Nat.le_refl _)
        rw [hnil] at hlen
        have hout2 : OutF f (sumTo f 256) out := by rw [HSUM.out]; exact hout
        have hsp := hout2.all
        have hown : OwnB wr w.heap.size (.slice (some ⟨G, 0, none⟩) out.length p) out := by
          refine ⟨G, 0, p, rfl, HG.out.1, (ho.lt G rfl).2, fun j hj => ?_, fun j => by rw [Nat.zero_add]; exact ho.frozenAt j⟩
          rw [Nat.zero_add, ho.cellAt j (by have := hout.1; omega)]
          simp [bv, List.getD_eq_getElem?_getD, List.getElem?_eq_getElem hj]
        have HLEN := Lib.hid hlen; have HE := Lib.hid (And.intro hout.1 (And.intro hsp (And.intro hown hc)))
        clear hlen hnil hout2 hsp hown hout ho hkh hw hl6 ho6 hc hlt hp
        go_wp2_with fail
        refine HLEN.out.mono ?_
        rintro e w4 ⟨rfl, hw4⟩
        obtain rfl := hw4.symm
        clear HLEN
        go_wp2
        go_ret2
        obtain ⟨h1, h2, h3, h4⟩ := HE.out
        refine ⟨_, by rw [if_neg HK.out]; rfl, fun _ => ⟨out, ?_, by rw [HF.out]; exact h2⟩, fun h => absurd h HK.out, h4⟩
        rw [h1] at h3
        exact h3

end Go.Proofs.Ytbopamcnlocdbaa

/- What spread's Of, Place and Log tell. THIS ALONE SPEAKS OF THE PROGRAM'S OWN TEXT (with SpProgA, and KqBase, KqHeap, KqSwap, KqOps: its queue). -/
namespace Go.Proofs.Ytbopamcnlocdbaa
open Go.RowKit

/-- is there such a key? -/
def isKey (q : List Int) (s i : Int) : Prop := logI (totalI q) ≠ 0 ∧ 0 ≤ s ∧ s ≤ 255 ∧ q.getD s.toNat 0 ≤ i ∧ i < 2 * q.getD s.toNat 0
instance isKey_dec (q : List Int) (s i : Int) : Decidable (isKey q s i) := by unfold isKey; infer_instance
def placeI (q : List Int) (s i : Int) : Nat := if isKey q s i then placeF (fq q) 256 s.toNat i.toNat else 0

end Go.Proofs.Ytbopamcnlocdbaa

/- What dtab's Of, Step and Whole tell. THIS SPEAKS OF THE PROGRAM'S OWN TEXT. -/
namespace Go.Proofs.Ytbopamcnlocdbaa
open Go.RowKit

theorem cown_ne {w : World} {B b : Nat} {v : Value} {n : Nat} {xs : List Value} {cs : Array Value} {fr : Nat × Nat} (h : w.ownsRow B 37 3 v n xs) (hb : w.heap[b]? = some (.cells cs 48 fr)) : v.ownBlock ≠ some b := by
  intro he
  rcases h.2 with ⟨rfl, rfl⟩ | ⟨g, cap, cur, rfl, _, hg, _⟩
  · cases he
  · simp only [Value.ownBlock, Option.some.injEq] at he
    subst he
    rw [hb] at hg
    simp at hg

/-- append of one cell, in a region that draws -/
theorem step_append_cell {ops : Array Oper} {o : Oper} {a : Act} {W : World} {K : Act → World → Prop} {Q : Exit → Act → World → Prop} {E : Prop} (hgd : o.guard = none) (s x : Operand)
    (ho : o.op = .call { callee := .builtin .append, args := #[s, x], argTypes := #[25, 25] })
    (B : Nat) (v : Value) (l : List Cl) (y : Cl) (hs : a.eval s = v) (hown : W.ownsRow B 37 3 v l.length (cvs l)) (G : Nat) (hx : a.eval x = .slice (some ⟨G, 0, none⟩) 1 1)
    (hblk : W.heap[G]? = some (.cells (cv y).toArray 37 (0, 0))) (hl : l.length ≤ 100000) (hB : B ≤ W.heap.size)
    (n1 : Nat) (hn1 : n1 = l.length + 1) (h : ∀ g cap w', w'.ownsRow B 37 3 (.slice (some ⟨g, 0, none⟩) n1 cap) (l ++ [y]).length (cvs (l ++ [y])) → Chg (fun k => some k = v.ownBlock) W w' → K (a.put o.dst (.slice (some ⟨g, 0, none⟩) n1 cap)) w') :
    if Region.wanted o (yielded ops a.tmps) = true then Oper.wp Try.prog o a W K Q else E := by
  subst hn1
  obtain ⟨i, hi, hz0, hz1, hz2⟩ := info_parts Try.infoCell
  refine step_append_lies W hgd s x 25 ho B 37 i (.agg #[.int .u8 0, .int .i64 0, .int .i64 0]) 3 24 Try.underlying25 hi hz0 hz1 hz2 rfl (by decide) v l.length (cvs l) hs hown ⟨G, 0, none⟩ 1 1 (cv y) hx rfl (World.news_of_block hblk)
    (fun u hu => cvs_one [y] u (by simpa [cvs] using hu)) (by decide) (by unfold maxLen; omega) (by omega) hB _ rfl fun g cap w' h2 h3 _ _ => ?_
  exact h g cap w' (by rw [List.length_append, cvs_append, List.length_singleton]; simpa [cvs] using h2) (Chg.of_grown h3)

theorem count_take (xs : List Nat) (u : Nat) : ∀ p, p ≤ xs.length → countTo (fun a => decide (xs.getD a 0 = u)) p = (xs.take p).count u
  | 0, _ => by simp [countTo]
  | p + 1, h => by
    have ih := count_take xs u p (by omega)
    have ht : xs.take (p + 1) = xs.take p ++ [xs.getD p 0] := by
      rw [List.take_succ_eq_append_getElem (by omega), List.getD_eq_getElem?_getD, List.getElem?_eq_getElem (by omega)]; rfl
    rw [countTo, ih, ht, List.count_append]
    by_cases he : xs.getD p 0 = u
    · rw [he]; simp
    · simp only [decide_eq_true_eq, he, if_false]
      rw [List.count_singleton]
      simpa [List.getD_eq_getElem?_getD] using he

/-- the cells of the first p places -/
def OutD (f : Nat → Nat) (k p : Nat) (out : List Cl) : Prop := out.length = p ∧ ∀ a, a < p → ∃ s d, s < 256 ∧ d < f s ∧ placeF f 256 s (f s + d) = a ∧ out.getD a cl0 = cellOf k s (f s + d)
theorem OutD.step {f : Nat → Nat} {k p : Nat} {out : List Cl} (h : OutD f k p out) {s d : Nat} (hs : s < 256) (hd : d < f s) (hp : placeF f 256 s (f s + d) = p) : OutD f k (p + 1) (out ++ [cellOf k s (f s + d)]) := by
  refine ⟨by rw [List.length_append, h.1]; rfl, fun a ha => ?_⟩
  by_cases hap : a = p
  · subst hap
    refine ⟨s, d, hs, hd, hp, ?_⟩
    rw [List.getD_eq_getElem?_getD, List.getElem?_append_right (by rw [h.1]; exact Nat.le_refl _), h.1, Nat.sub_self]; rfl
  · obtain ⟨t, e, h1, h2, h3, h4⟩ := h.2 a (by omega)
    refine ⟨t, e, h1, h2, h3, ?_⟩
    rw [← h4, List.getD_eq_getElem?_getD, List.getElem?_append_left (by rw [h.1]; omega), ← List.getD_eq_getElem?_getD]
theorem OutD.all {f : Nat → Nat} {k : Nat} {out : List Cl} (hs : sumTo f 256 = 2 ^ k) (h : OutD f k (2 ^ k) out) : IsDtab f k out := by
  refine ⟨h.1, fun s d hs1 hd => ?_⟩
  have hr := place_room (f := f) (N := 256) hs1 hd
  rw [hs] at hr
  obtain ⟨t, e, h1, h2, h3, h4⟩ := h.2 _ hr
  obtain ⟨rfl, rfl⟩ := place_inj h1 hs1 h2 hd h3
  exact h4

theorem OwnC.mono {w : World} {base base' : Nat} {v : Value} {l : List Cl} (h : OwnC w base v l) (hb : base' ≤ base) : OwnC w base' v l := by
  obtain ⟨g, off, cap, rfl, h1, h2⟩ := h
  exact ⟨g, off, cap, rfl, Nat.le_trans hb h1, h2⟩
/-- Of tells its cells, in memory of their own -/
def DtabNew (w : World) (q : List Int) (e : Ending) (w' : World) : Prop :=
  ∃ v', e = .returned (.tuple #[v', .int .i64 (if logI (totalI q) = 0 then 1 else 0)]) ∧ (logI (totalI q) ≠ 0 → ∃ l, OwnC w' w.heap.size v' l ∧ IsDtab (fq q) (logI (totalI q)) l) ∧ (logI (totalI q) = 0 → RdC w' v' []) ∧ Chg (fun _ => False) w w'

set_option maxHeartbeats 1000000 in
theorem dof_new (v : Value) (q : List Int) (w : World) (h : RdI w v q) (hb : ∀ z ∈ q, -9223372036854775808 ≤ z ∧ z ≤ 9223372036854775807) (hl : q.length < 100000000000) :
    Calls Try.prog 9 #[v] w fun e w' => DtabNew w q e w' := by
  have hsp := sof_any v q w h hb hl
  unfold SpreadSays at hsp
  by_cases hk : logI (totalI q) = 0
  · obtain ⟨ao, cap, rfl⟩ := h.form
    have HSP := Lib.hid hsp; have HK := Lib.hid hk
    clear hb hl hk h hsp
    go_enter Try.func9, Try.ntmps9
    go_wp2_with fail
    refine HSP.out.mono ?_
    rintro e w1 ⟨v1, rfl, -, h2, hc⟩
    rw [if_pos HK.out]
    have HC := Lib.hid hc
    clear hc h2 HSP
    go_wp2
    go_ret2
    exact ⟨_, by rw [if_pos HK.out]; rfl, fun h => absurd HK.out h, fun _ => .inl ⟨rfl, none, 0, rfl⟩, HC.out⟩
  · have hq := normQ_of hk
    have hlog := fun W (hc : Chg (fun _ => False) w W) => slog_any v q W (h.kept hc (by simp)) hb hl
    obtain ⟨ao, cap, rfl⟩ := h.form
    obtain ⟨g, off, rfl, hcell⟩ := hq.cells h
    have HSP := Lib.hid hsp; have HK := Lib.hid hk; have HLOG := Lib.hid hlog; have HCELL := Lib.hid hcell
    obtain ⟨k, hke⟩ : ∃ k, logI (totalI q) = k := ⟨_, rfl⟩
    rw [hke] at hq HLOG HSP
    have hk12 : (k : Int) ≤ 12 := by have := hq.2.2.2.2; omega
    have hlenq : (q.length : Int) = 256 := by have := hq.1; omega
    have hsum := hq.sum
    have HQ := Lib.hid (show sumTo (fq q) 256 = 2 ^ k ∧ (∀ s, fq q s ≤ 4096) ∧ k ≤ 12 ∧ 2 ^ k ≤ 4096 ∧ 1 ≤ k from ⟨hsum, hq.le, hq.2.2.2.2, hq.size, hq.2.2.2.1⟩)
    obtain ⟨n, hn⟩ : ∃ n, q.length = n := ⟨_, rfl⟩
    rw [hn] at HSP HLOG hlenq ⊢
    obtain ⟨f, hf⟩ : ∃ f, fq q = f := ⟨_, rfl⟩
    rw [hf] at HSP HCELL HQ
    have HF := Lib.hid hf; have HKE := Lib.hid hke
    obtain ⟨L, hL⟩ : ∃ L, 2 ^ k = L := ⟨_, rfl⟩
    have HL := Lib.hid hL
    have hL4 : (L : Int) ≤ 4096 := by have := HQ.out.2.2.2.1; omega
    have hkk : ¬ k = 0 := by have := HQ.out.2.2.2.2; omega
    obtain ⟨Z, hZ, hzero⟩ := zeroCounts
    have HZ := Lib.hid hZ
    clear hb hl hk h hsp hlog hcell hq hsum hn hf hke hL hZ
    go_enter Try.func9, Try.ntmps9
    go_wp2_with fail
    refine HSP.out.mono ?_
    rintro e w1 ⟨v1, rfl, h1, -, hc1⟩
    obtain ⟨sl, hos, hsp⟩ := h1 hkk
    rw [if_neg hkk]
    obtain ⟨asl, psl, rfl⟩ := hos.rd.form
    have hsl : sl.length = L := by rw [hsp.len, HQ.out.1, HL.out]
    have HOS := Lib.hid hos.rd; have HSPR := Lib.hid hsp; have HC1 := Lib.hid hc1; have HSL := Lib.hid hsl
    rw [hsl] at HOS ⊢
    clear HSP hos hsp hc1 hsl hkk h1
    go_wp2_with fail
    refine (HLOG.out w1 HC1.out).mono ?_
    rintro e w2 ⟨rfl, hc2⟩
    have HC2 := Lib.hid (HC1.out.trans hc2 fun _ _ h => h)
    have HOS2 := Lib.hid (HOS.out.kept hc2 (by simp))
    clear HOS HLOG hc2
    obtain ⟨i, hi, hz0, hz1, hz2⟩ := info_parts Try.infoCell
    go_wp2_with (at_make; refine wpList_make_own w2 rfl _ _ 25 rfl w2.heap.size 37 i (.agg #[.int .u8 0, .int .i64 0, .int .i64 0]) 3 Try.underlying25 hi hz0 hz1 .i64 .i64 (L : Int) L rfl rfl rfl (by rw [hz2]; omega) (by unfold maxLen; omega) (Nat.le_refl _) ?_)
    intro w3 ho hg3
    have hc3 : Chg (fun _ => False) w2 w3 := (Chg.of_grown hg3).mono fun k _ hk => by simp at hk
    have hm4 : RowI (w3.alloc (.cells Z.toArray 48)) w3.heap.size 48 (cnt (sl.take 0)) := by
      rw [List.take_zero, cnt_nil]; unfold RowI; rw [← HZ.out]; exact heap_alloc_new w3 _
    have hc4 := Chg.alloc (fun _ => False) w3 (.cells Z.toArray 48)
    have ho4 := ho.alloc (.cells Z.toArray 48)
    obtain ⟨W4, hW4⟩ : ∃ W4, w3.alloc (.cells Z.toArray 48) = W4 := ⟨_, rfl⟩
    rw [hW4] at hm4 hc4 ho4
    have hlt4 := hm4.lt
    have hge4 := hc3.size
    obtain ⟨GM, hGM⟩ : ∃ GM, w3.heap.size = GM := ⟨_, rfl⟩
    rw [hGM] at hm4 hlt4 hge4
    obtain ⟨G0, hG0⟩ : ∃ G0, w2.heap.size = G0 := ⟨_, rfl⟩
    rw [hG0] at ho4 hge4 ⊢
    have ST := Lib.hid (show RowI W4 GM 48 (cnt (sl.take 0)) ∧ Chg (fun _ => False) w2 W4 ∧ W4.ownsRow G0 37 3 (.slice (some ⟨G0, 0, none⟩) 0 L) 0 [] from ⟨hm4, hc3.trans hc4 fun _ _ h => h, ho4⟩)
    have HG := Lib.hid (show w2.heap.size = G0 ∧ G0 ≤ GM from ⟨hG0, hge4⟩)
    have hsx : ∀ x ∈ sl, x < 256 := fun x hx => by
      obtain ⟨p, hp, rfl⟩ := List.getElem_of_mem hx
      have := HSPR.out.is (p := p) (s := sl.getD p 0) hp rfl
      rw [List.getD_eq_getElem?_getD, List.getElem?_eq_getElem hp] at this
      exact this.1
    have HSX := Lib.hid hsx
    clear hm4 hc4 ho4 hc3 ho hg3 hlt4 hge4 hG0 hsx
    go_wp2
    clear hGM hW4
    go_loopw [7, 26] (fun o7 o26 wr => ∃ (p : Nat) (out : List Cl), p ≤ L ∧ o26 = .int .i64 (p : Int) ∧ wr.ownsRow G0 37 3 o7 p (cvs out) ∧ OutD f k p out ∧ RowI wr GM 48 (cnt (sl.take p)) ∧ (∃ gg cc, o7 = .slice (some ⟨gg, 0, none⟩) p cc) ∧ Chg (fun _ => False) w2 wr) (fun _ o26 _ => L - (intOf o26).toNat)
    case atStart => exact ⟨0, [], Nat.zero_le _, rfl, ST.out.2.2, ⟨rfl, fun a ha => by omega⟩, ST.out.1, ⟨G0, L, rfl⟩, ST.out.2.1⟩
    case round =>
      obtain ⟨p, out, hp, rfl, hown, hout, hmet, ⟨gg, cc, rfl⟩, hc⟩ := hrel
      clear ST
      by_cases hlt : p < L
      · have hltI : (p : Int) < (L : Int) := by omega
        obtain ⟨gs, offs, rfl, hscell⟩ := (HOS2.out.kept hc (by simp)).at p (by rw [HSL.out]; exact hlt)
        have hsp := HSPR.out.is (p := p) (s := sl.getD p 0) (by rw [HSL.out]; exact hlt) rfl
        have hts := cnt_take_succ sl p (by rw [HSL.out]; exact hlt) hsp.1
        have hgd := cnt_getD (sl.take p) (sl.getD p 0) hsp.1
        obtain ⟨s, hse⟩ : ∃ s, sl.getD p 0 = s := ⟨_, rfl⟩
        rw [hse] at hscell hsp hts hgd
        obtain ⟨hs, d, hd, hpl⟩ := hsp
        have hnth := HSPR.out.nth hs hd
        rw [hpl, count_take sl s p (by rw [HSL.out]; exact hp)] at hnth
        rw [hnth] at hgd
        have hF4 := HQ.out.2.1 s
        have hqc := fun W (hcw : Chg (fun _ => False) w2 W) => HCELL.out W (HC2.out.trans hcw fun _ _ h => h) s hs
        have hsle := f_le (f := f) (R := k) HQ.out.1 hs
        have hcl := fun W => dcell_any s (f s + d) k W (by omega) (by rw [Nat.pow_succ]; omega) HQ.out.2.2.1
        have hout2 := hout.step hs hd hpl
        obtain ⟨F, hF⟩ : ∃ F, f s = F := ⟨_, rfl⟩
        rw [hF] at hqc hcl hout2 hd hF4
        obtain ⟨J, hJ⟩ : ∃ J, F + d = J := ⟨_, rfl⟩
        have hJI : (F : Int) + (d : Int) = (J : Int) := by omega
        rw [hJ] at hcl hout2
        obtain ⟨y, hy⟩ : ∃ y, cellOf k s J = y := ⟨_, rfl⟩
        rw [hy] at hcl hout2
        have hmc := hmet.cell s (by rw [cnt_length]; exact hs)
        rw [hgd] at hmc
        have hmf := hmet.free s
        have hm2 := hmet.set s ((d : Int) + 1)
        rw [hgd] at hts
        rw [← hts] at hm2
        have hqw := hqc wr hc
        have hwJ : IntKind.i64.wrap (J : Int) = (J : Int) := by rw [IntKind.wrap_i64]; omega
        have hsn : (s : Int) < (n : Int) := by omega
        have hsI : (s : Int) < 256 := by omega
        have hdI : (d : Int) ≤ 4096 := by omega
        have hFI : (F : Int) ≤ 4096 := by omega
        obtain ⟨S, I, Ba⟩ := y
        simp only [] at hcl
        have HCL := Lib.hid hcl; have HOWN := Lib.hid hown; have HMET := Lib.hid hmet; have HC := Lib.hid hc; have HQC := Lib.hid hqc; have HO2 := Lib.hid hout2; have HM2 := Lib.hid hm2; have HS := Lib.hid hs; have HOL := Lib.hid hout.1; have HGD := Lib.hid hgd; have HTS := Lib.hid hts
        obtain ⟨p1, hp1⟩ : ∃ p1, p1 = out.length + 1 := ⟨_, rfl⟩
        have HP1 := Lib.hid hp1
        have hp1I : (p : Int) + 1 = (p1 : Int) := by rw [hp1, hout.1]; omega
        clear hcl hown hmet hc hqc hout2 hm2 hs hout hgd hts hnth hd hpl hse hF hJ hy hp hF4 hsle hp1
        go_wp2
        go_region_held3 (fun W => W.cell? ⟨g, off + s, none⟩ = some (.int .i64 (F : Int)) ∧ W.cell? ⟨GM, s, none⟩ = some (.int .i64 (d : Int))) (first | exact ⟨hqw, hmc⟩ | exact ⟨z0, z1⟩ | exact ⟨z4 _, z5 _⟩ | exact ⟨z2, z3⟩) (first
          | (go_at_call 18; refine (HCL.out _).mono ?_; rintro e w5 ⟨rfl, hc5⟩; have hc6 := (Chg.refl (fun _ => False) wr).drew.trans hc5 fun _ _ h => h; have hm5 := HMET.out.kept hc6 (fun h => h); have z0 := HQC.out w5 (HC.out.trans hc6 fun _ _ h => h); have z1 := hm5.cell s (by rw [cnt_length]; exact HS.out); rw [HGD.out] at z1; have z4 := fun ob => HQC.out (w5.alloc ob) ((HC.out.trans hc6 fun _ _ h => h).trans (Chg.alloc (fun _ => False) w5 ob) fun _ _ h => h); have z5 := fun ob => (hm5.kept (Chg.alloc (fun _ => False) w5 ob) (fun h => h)).cell s (by rw [cnt_length]; exact HS.out); rw [HGD.out] at z5; have HO5 := Lib.hid (hc6.own HOWN.out (fun _ _ h => h)); have HM5 := Lib.hid hm5; have HC5 := Lib.hid (HC.out.trans hc6 fun _ _ h => h); clear hc5 hc6 hm5)
          | (refine step_append_cell rfl (.tmp 30) (.tmp 42) rfl G0 (.slice (some ⟨gg, 0, none⟩) p cc) out ⟨S, I, Ba⟩ rfl (by rw [HOL.out]; exact HO5.out.alloc _) w5.heap.size rfl (heap_alloc_new w5 _) (by rw [HOL.out]; omega) (by have h1 := HC5.out.size; have h2 := HG.out.1; have h3 := (Chg.alloc (fun _ => False) w5 (.cells #[.int .u8 (S : Int), .int .i64 I, .int .i64 Ba] 37)).size; omega) p1 HP1.out ?_; intro g8 c8 w8 ho8 hc8; have hn8 : gg ≠ GM := (fun he => cown_ne HO5.out HM5.out (by rw [he]; rfl)); have hge := (HO5.out.lt gg rfl).1; have hm8 := (HM5.out.kept (Chg.alloc (fun _ => False) w5 _) (fun h => h)).kept hc8 (fun he => by simp only [Value.ownBlock, Option.some.injEq] at he; omega); have hc9 := ((HC5.out.trans (Chg.alloc (fun _ => False) w5 _) fun _ _ h => h).trans hc8 fun q hq he => by simp only [Value.ownBlock, Option.some.injEq] at he; have h2 := HG.out.1; omega); have z2 := HQC.out w8 hc9; have z3 := hm8.cell s (by rw [cnt_length]; exact HS.out); rw [HGD.out] at z3; have HO8 := Lib.hid ho8; have HM8 := Lib.hid hm8; have HC9 := Lib.hid hc9; clear ho8 hc8 hm8 hc9 hge hn8))
        have hmf8 := HM8.out.free s
        have hm9 := HM8.out.set s ((d : Int) + 1)
        rw [← HTS.out] at hm9
        have hc10 := HC9.out.trans (Chg.setCell w8 ⟨GM, s, none⟩ (.int .i64 ((d : Int) + 1))) fun q hq he => by simp only [] at he; have h2 := HG.out; omega
        have ho10 := (Chg.setCell w8 ⟨GM, s, none⟩ (.int .i64 ((d : Int) + 1))).own HO8.out (fun k hk he => by
          have := cown_ne HO8.out HM8.out
          simp only [] at he
          rw [he] at hk
          exact this hk)
        have HM9 := Lib.hid hm9; have HC10 := Lib.hid hc10; have HO10 := Lib.hid ho10
        clear hm9 hc10 ho10
        go_wp2
        go_roundw
        case rel =>
          refine ⟨p + 1, out ++ [⟨S, I, Ba⟩], by omega, by go_num, ?_, HO2.out, HM9.out, ⟨g8, c8, by rw [HP1.out, HOL.out]⟩, HC10.out⟩
          have h9 := HO10.out
          rw [List.length_append, HOL.out] at h9
          exact h9
        case measure => simp [intOf]; omega
      · obtain rfl : p = L := by omega
        have hdt : IsDtab f k out := OutD.all HQ.out.1 (by rw [HL.out]; exact hout)
        have hL0 : 0 < p := by rw [← HL.out]; exact Nat.two_pow_pos k
        have how : OwnC wr w.heap.size (.slice (some ⟨gg, 0, none⟩) p cc) out := by
          have h9 := hown
          rw [← hout.1] at h9
          have h10 := OwnC.of_own h9 (by rw [hout.1]; exact hL0)
          rw [hout.1] at h10
          exact h10.mono (by have := HC2.out.size; have := HG.out.1; omega)
        have HD := Lib.hid hdt; have HW := Lib.hid how; have HC9 := Lib.hid (HC2.out.trans hc fun _ _ h => h)
        have hltp : ¬ p < p := by omega
        clear hdt how hown hout hmet hc hlt
        go_wp2
        go_ret2
        exact ⟨_, by rw [if_neg HK.out]; rfl, fun _ => ⟨out, HW.out, by rw [HKE.out, HF.out]; exact HD.out⟩, fun h => absurd h HK.out, HC9.out⟩

theorem dof_any (v : Value) (q : List Int) (w : World) (h : RdI w v q) (hb : ∀ z ∈ q, -9223372036854775808 ≤ z ∧ z ≤ 9223372036854775807) (hl : q.length < 100000000000) :
    Calls Try.prog 9 #[v] w fun e w' => DtabSays w q e w' :=
  (dof_new v q w h hb hl).mono fun e w' ⟨v', h1, h2, h3, h4⟩ => ⟨v', h1, fun hk => by
    obtain ⟨l, ho, hd⟩ := h2 hk
    exact ⟨l, ho.rd, hd⟩, h3, h4⟩

end Go.Proofs.Ytbopamcnlocdbaa

/- The example of chapters 10 to 12: counts 5, 2, 1. -/
namespace Go.Proofs.Ytbopamcnlocdbaa
open Go.RowKit

def exS : List Int := ((List.replicate 256 0).set 0 5).set 1 2 |>.set 2 1
theorem exS_len : exS.length = 256 := by decide +kernel
theorem exS_bnd : ∀ z ∈ exS, -9223372036854775808 ≤ z ∧ z ≤ 9223372036854775807 := by decide +kernel
theorem exS_log : logI (totalI exS) = 3 := by decide +kernel
theorem exS_spread : IsSpread (fq exS) 256 [0, 1, 2, 0, 0, 1, 0, 0] := by
  refine ⟨by decide +kernel, ?_⟩
  have h : ∀ s, s < 256 → ∀ d, d < fq exS s → ([0, 1, 2, 0, 0, 1, 0, 0] : List Nat).getD (placeF (fq exS) 256 s (fq exS s + d)) 0 = s := by decide +kernel
  exact fun s d hs hd => h s hs d hd

end Go.Proofs.Ytbopamcnlocdbaa

/- What puncheonlaw11.awake tells: the chapter's example holds. -/
namespace Go.Proofs.Ytbopamcnlocdbaa
open Go.RowKit

theorem exS_sum : sumTo (fq exS) 256 = 2 ^ 3 := by decide +kernel
theorem exS_five {l : List Cl} (h : IsDtab (fq exS) 3 l) : l.getD 5 cl0 = ⟨1, 2, 4⟩ := by
  have h1 := h.at' 1 1 (by decide) (by decide +kernel)
  rw [show placeF (fq exS) 256 1 (fq exS 1 + 1) = 5 by decide +kernel, show cellOf 3 1 (fq exS 1 + 1) = ⟨1, 2, 4⟩ by decide +kernel] at h1
  exact h1

/-- cells of a table lie within their kinds -/
theorem IsDtab.bounds {f : Nat → Nat} {R : Nat} {l : List Cl} (h : IsDtab f R l) (hs : sumTo f 256 = 2 ^ R) (h2 : R ≤ 12) {a : Nat} (ha : a < 2 ^ R) :
    (l.getD a cl0).Sym < 256 ∧ 0 ≤ (l.getD a cl0).Bits ∧ (l.getD a cl0).Bits ≤ (R : Int) ∧ 0 ≤ (l.getD a cl0).Base ∧ (l.getD a cl0).Base + ((2 ^ (l.getD a cl0).Bits.toNat : Nat) : Int) ≤ ((2 ^ R : Nat) : Int) := by
  obtain ⟨s, d, hs1, hd, hpl, he⟩ := h.is hs ha
  rw [he]
  have hb := cell_bounds (R := R) (q := f s) (s := s) (i := f s + d) (by omega) (f_le hs hs1) (by omega) (by omega)
  have e : (cellOf R s (f s + d)).Bits = ((bitsN R (f s + d) : Nat) : Int) := rfl
  rw [e, Int.toNat_natCast]
  have : bitsN R (f s + d) ≤ R := by unfold bitsN; omega
  exact ⟨hs1, by omega, by omega, hb.1, hb.2⟩
theorem IsDtab.fits {f : Nat → Nat} {R : Nat} {l : List Cl} (h : IsDtab f R l) (hs : sumTo f 256 = 2 ^ R) (h2 : R ≤ 12) : ∀ c ∈ l, c.fits := by
  intro c hc
  obtain ⟨a, ha, rfl⟩ := List.mem_iff_getElem.1 hc
  have hb := h.bounds hs h2 (a := a) (by rw [← h.len]; exact ha)
  have hp := pow12 h2
  rw [List.getD_eq_getElem?_getD, List.getElem?_eq_getElem ha] at hb
  simp only [Option.getD_some] at hb
  have hq := Nat.two_pow_pos l[a].Bits.toNat
  exact ⟨hb.1, by omega, by omega⟩
theorem IsDtab.baseOk {f : Nat → Nat} {R : Nat} {l : List Cl} (h : IsDtab f R l) (hs : sumTo f 256 = 2 ^ R) (h2 : R ≤ 12) (x : Int) : baseOk l x := by
  intro h0 h1
  have hb := h.bounds hs h2 (a := x.toNat) (by rw [← h.len]; omega)
  have hp := pow12 h2
  have hq := Nat.two_pow_pos (l.getD x.toNat cl0).Bits.toNat
  omega

set_option maxHeartbeats 2000000 in
set_option maxRecDepth 100000 in
theorem awake11_any (w : World) : Calls Try.prog 7 #[] w fun e w' => e = .returned (.bool true) ∧ Chg (fun _ => False) w w' := by
  obtain ⟨Z, hZ⟩ : ∃ Z : List Int, Z = List.replicate 256 0 := ⟨_, rfl⟩
  have hZl : Z.length = 256 := by rw [hZ]; exact List.length_replicate
  have hE : (((Z.set 0 5).set 1 2).set 2 1) = exS := by rw [hZ]; rfl
  have HZL := Lib.hid hZl; have HE := Lib.hid hE; have HZ := Lib.hid hZ
  clear hZl hE hZ
  go_enter Try.func7, Try.ntmps7
  go_wp2_with (at_make; refine wpList_make_ints rfl _ _ rfl 256 256 256 rfl rfl rfl rfl (by omega) Z HZ.out ?_)
  intro w1 r1 c1
  obtain ⟨g, hg⟩ : ∃ g, g = w.heap.size := ⟨_, rfl⟩
  rw [← hg] at r1 ⊢
  have s0 := Chg.setCell w1 ⟨g, 0, none⟩ (.int .i64 5)
  have r2 := r1.set 0 5
  have a0 := r1.cell 0 (by rw [HZL.out]; omega)
  have f0 := r1.free 0
  obtain ⟨W1, hW1⟩ : ∃ W1, w1.setCell ⟨g, 0, none⟩ (.int .i64 5) = W1 := ⟨_, rfl⟩
  rw [hW1] at s0 r2
  have s1 := Chg.setCell W1 ⟨g, 1, none⟩ (.int .i64 2)
  have r3 := r2.set 1 2
  have a1 := r2.cell 1 (by rw [List.length_set, HZL.out]; omega)
  have f1 := r2.free 1
  obtain ⟨W2, hW2⟩ : ∃ W2, W1.setCell ⟨g, 1, none⟩ (.int .i64 2) = W2 := ⟨_, rfl⟩
  rw [hW2] at s1 r3
  have s2 := Chg.setCell W2 ⟨g, 2, none⟩ (.int .i64 1)
  have r4 := r3.set 2 1
  have a2 := r3.cell 2 (by rw [List.length_set, List.length_set, HZL.out]; omega)
  have f2 := r3.free 2
  obtain ⟨W3, hW3⟩ : ∃ W3, W2.setCell ⟨g, 2, none⟩ (.int .i64 1) = W3 := ⟨_, rfl⟩
  rw [hW3] at s2 r4
  rw [HE.out] at r4
  have hc : Chg (fun _ => False) w W3 := ((c1.trans s0 (S := fun _ => False) (fun q hq hh => by simp at hh; omega)).trans s1 (fun q hq hh => by simp at hh; omega)).trans s2 (fun q hq hh => by simp at hh; omega)
  have rd := r4.rd 256
  rw [exS_len] at rd
  generalize Z.getD 0 0 = z0 at a0
  generalize (Z.set 0 5).getD 1 0 = z1 at a1
  generalize ((Z.set 0 5).set 1 2).getD 2 0 = z2 at a2
  have HRD := Lib.hid rd; have HC := Lib.hid hc
  clear rd hc r1 r2 r3 r4 s0 s1 s2 c1 HE HZ HZL hg
  go_wp2_with fail
  refine (dof_any _ exS W3 HRD.out exS_bnd (by rw [exS_len]; omega)).mono ?_
  rintro e w5 ⟨v5, rfl, hyes, -, hc5⟩
  rw [if_neg (by rw [exS_log]; decide)]
  obtain ⟨l, hrd, hsp⟩ := hyes (by rw [exS_log]; decide)
  rw [exS_log] at hsp
  obtain ⟨ao, cap, rfl⟩ := hrd.form
  have hlen : l.length = 8 := hsp.len
  have h5 := exS_five hsp
  obtain ⟨g5, off5, rfl, b0, b1, b2⟩ := hrd.at 5 (by omega)
  rw [h5] at b0 b1 b2
  simp only [] at b0 b1 b2
  have hft := hsp.fits exS_sum (by decide)
  have hbo := hsp.baseOk exS_sum (by decide) 5
  have hwh := hsp.whole exS_sum (by decide) (by decide)
  have hcan : canC l 5 3 := ⟨by decide, by omega, by rw [show (5 : Int).toNat = 5 from rfl, h5]; decide, by rw [show (5 : Int).toNat = 5 from rfl, h5]; decide, by rw [show (5 : Int).toNat = 5 from rfl, h5]; decide⟩
  have hs1 : stepS l 5 3 = 1 := by unfold stepS; rw [if_pos hcan, show (5 : Int).toNat = 5 from rfl, h5]
  have hs2 : stepN l 5 3 = 7 := by unfold stepN; rw [if_pos hcan, show (5 : Int).toNat = 5 from rfl, h5]; rfl
  rw [hlen] at hrd ⊢
  have hst := dstep_any _ l 5 3 w5 hrd hft (by omega) (by decide) (by decide) hbo
  rw [hs1, hs2, decide_eq_true hcan] at hst
  have HST := Lib.hid hst; have HWH := Lib.hid hwh; have HRL := Lib.hid hrd; have HFT := Lib.hid hft; have HLEN := Lib.hid hlen
  have HB := Lib.hid (show ∀ W, Chg (fun _ => False) w5 W → W.cell? ⟨g5, off5 + 5 * 3, none⟩ = some (.int .u8 1) ∧ W.cell? ⟨g5, off5 + 5 * 3 + 1, none⟩ = some (.int .i64 2) ∧ W.cell? ⟨g5, off5 + 5 * 3 + 2, none⟩ = some (.int .i64 4) from fun W hW => by
    have := (hrd.kept hW (by simp)).at' 5 (by omega)
    rw [h5] at this
    exact this)
  replace HC := Lib.hid (HC.out.trans hc5 fun _ _ h => h)
  clear hyes hsp hc5 hrd a0 a1 a2 f0 f1 f2 hW1 hW2 hW3 HRD b0 b1 b2 hft hbo hwh hcan hs1 hs2 hst hlen h5
  go_wp2_with fail
  refine (HST.out).mono ?_
  rintro e w6 ⟨rfl, hc6⟩
  obtain ⟨b0, b1, b2⟩ := HB.out w6 hc6
  replace HC := Lib.hid (HC.out.trans hc6 fun _ _ h => h)
  have hrd6 := HRL.out.kept hc6 (by simp)
  have HW := Lib.hid (dwhole_any _ l w6 hrd6 HFT.out (by rw [HLEN.out]; omega))
  clear hc6 HB HST hrd6 HRL
  go_wp2_with fail
  refine (HW.out).mono ?_
  rintro e w7 ⟨b, rfl, hb, hc7⟩
  have hbt : b = true := hb.2 HWH.out
  subst hbt
  have HC7 := Lib.hid (HC.out.trans hc7 fun _ _ h => h)
  clear hc7 hb
  go_wp2
  go_ret
  exact ⟨rfl, HC7.out⟩

end Go.Proofs.Ytbopamcnlocdbaa

/- An argument of type []int, opened. -/
namespace Go.Proofs.Ytbopamcnlocdbaa
open Go.ChangeShapes Go.WideShapes Go.ChangeAt Go.RowKit Go.Deep

theorem open_ints64 {H : Type} {enc : TypeId × Value → H} {W : World} {base : Nat} {spare : Nat → Bool} {held : Bool} {a : Option Addr} {len cap : Nat} {d : DataW H} {p : List MemPlace}
    (h : DataW.Trod enc Try.prog W base spare held 22 (.slice a len cap) d p) : ∃ zs, RdI W (.slice a len cap) zs ∧ ∀ z ∈ zs, -9223372036854775808 ≤ z ∧ z ≤ 9223372036854775807 := by
  obtain ⟨fuel, hf⟩ := h
  rcases open_ints Try.underlying22 Try.underlying3 cellsInt hf with ⟨hcs, _⟩ | ⟨x, l, c, zs, hcs, _, hl, _, hz, _, hcell, hwz⟩
  · simp [Value.cells] at hcs
    obtain ⟨rfl, rfl, rfl⟩ := hcs
    exact ⟨[], .inl ⟨rfl, none, 0, rfl⟩, by simp⟩
  · simp [Value.cells] at hcs
    obtain ⟨rfl, rfl, rfl⟩ := hcs
    have hlen : len ≤ zs.length := by rw [hz]; split <;> omega
    refine ⟨zs.take len, ?_, fun z hz' => by have := bounds_i64 (hwz z (List.mem_of_mem_take hz')); omega⟩
    by_cases h0 : len = 0
    · subst h0
      exact .inl ⟨by simp, some x, cap, rfl⟩
    · obtain ⟨g, off, rfl⟩ := spot_none (hcell 0 (by omega))
      refine .inr ⟨g, off, cap, by simp; omega, fun j hj => ?_⟩
      have hj' : j < len := by simp at hj; omega
      have hc := hcell j (by omega)
      rw [add_lit] at hc
      rw [hc]
      simp [List.getElem?_take, hj']

/-- the same, with how long it can be -/
theorem open_ints64L {H : Type} {enc : TypeId × Value → H} {W : World} {base : Nat} {spare : Nat → Bool} {held : Bool} {a : Option Addr} {len cap : Nat} {d : DataW H} {p : List MemPlace}
    (h : DataW.Trod enc Try.prog W base spare held 22 (.slice a len cap) d p) : ∃ zs, RdI W (.slice a len cap) zs ∧ (∀ z ∈ zs, -9223372036854775808 ≤ z ∧ z ≤ 9223372036854775807) ∧ zs.length ≤ 9223372036854775807 := by
  obtain ⟨zs, h1, h2⟩ := open_ints64 h
  refine ⟨zs, h1, h2, ?_⟩
  have hz : zs.length = len := by
    rcases h1 with ⟨rfl, ao, c, he⟩ | ⟨g, off, c, he, _⟩
    · simp only [Value.slice.injEq] at he; simp [he.2.1]
    · simp only [Value.slice.injEq] at he; exact he.2.1.symm
  obtain ⟨fuel, hf⟩ := h
  rcases open_ints Try.underlying22 Try.underlying3 cellsInt hf with ⟨hcs, _⟩ | ⟨x, l, c, ys, hcs, _, hl, hm, _⟩
  · simp [Value.cells] at hcs
    obtain ⟨rfl, rfl, rfl⟩ := hcs
    omega
  · simp [Value.cells] at hcs
    obtain ⟨rfl, rfl, rfl⟩ := hcs
    unfold maxLen at hm
    omega

end Go.Proofs.Ytbopamcnlocdbaa

/- Counts that are told by few numbers: what puncheonref05.Some tells. -/
namespace Go.Proofs.Ytbopamcnlocdbaa
open Go.RowKit

/-- The value v is a slice of the uint16s xs. -/
def RdH (w : World) (v : Value) (xs : List Nat) : Prop :=
  (xs = [] ∧ ∃ ao c, v = .slice ao 0 c) ∨ ∃ g off cap, v = .slice (some ⟨g, off, none⟩) xs.length cap ∧ ∀ j, j < xs.length → w.cell? ⟨g, off + j, none⟩ = some (.int .u16 ((xs.getD j 0 : Nat) : Int))
theorem RdH.form {w : World} {v : Value} {xs : List Nat} (h : RdH w v xs) : ∃ ao cap, v = .slice ao xs.length cap := by
  rcases h with ⟨rfl, ao, c, rfl⟩ | ⟨g, off, cap, rfl, _⟩
  · exact ⟨ao, c, rfl⟩
  · exact ⟨_, cap, rfl⟩
theorem RdH.at {w : World} {ao : Option Addr} {n cap : Nat} {xs : List Nat} (h : RdH w (.slice ao n cap) xs) (k : Nat) (hk : k < xs.length) : ∃ g off, ao = some ⟨g, off, none⟩ ∧ w.cell? ⟨g, off + k, none⟩ = some (.int .u16 ((xs.getD k 0 : Nat) : Int)) := by
  rcases h with ⟨h0, _⟩ | ⟨g, off, cap', he, hc⟩
  · rw [h0] at hk; simp at hk
  · simp only [Value.slice.injEq] at he
    exact ⟨g, off, he.1, hc _ hk⟩
theorem RdH.kept {S : Nat → Prop} {w w' : World} {v : Value} {xs : List Nat} (h : RdH w v xs) (hc : Chg S w w') (hS : ∀ k, v.ownBlock = some k → ¬ S k) : RdH w' v xs := by
  rcases h with h | ⟨g, off, cap, rfl, hcell⟩
  · exact .inl h
  · refine .inr ⟨g, off, cap, rfl, fun j hj => ?_⟩
    have := hcell j hj
    have hlt : g < w.heap.size := block_lt_of_cell this
    rw [World.cell?_of_block (w := w) (hc.block g hlt (hS g rfl))]; exact this

/-- the counts that the first k pairs tell -/
def someTo (l : List Nat) : Nat → List Int
  | 0 => List.replicate 256 0
  | k + 1 => (someTo l k).set (l.getD (2 * k) 0 % 256) ((l.getD (2 * k + 1) 0 : Nat) : Int)
theorem someTo_succ (l : List Nat) (k : Nat) : someTo l (k + 1) = (someTo l k).set (l.getD (2 * k) 0 % 256) ((l.getD (2 * k + 1) 0 : Nat) : Int) := rfl
def pairsN (l : List Nat) : Nat := min (l.length / 2) 40
def someC (l : List Nat) : List Int := someTo l (pairsN l)

theorem someTo_facts (l : List Nat) (hx : ∀ x ∈ l, x < 65536) (k : Nat) (hk : 2 * k ≤ l.length) : (someTo l k).length = 256 ∧ (∀ s, s < 256 → 0 ≤ (someTo l k).getD s 0) ∧ tot (someTo l k) ≤ 65535 * (k : Int) := by
  induction k with
  | zero =>
    refine ⟨List.length_replicate, fun s hs => ?_, ?_⟩
    · show 0 ≤ (List.replicate 256 (0 : Int)).getD s 0
      rw [List.getD_eq_getElem?_getD, List.getElem?_replicate, if_pos hs]; exact Int.le_refl _
    · show tot (List.replicate 256 0) ≤ _
      rw [tot_zeros]; simp
  | succ k ih =>
    obtain ⟨i1, i2, i3⟩ := ih (by omega)
    rw [someTo_succ]
    have hv : l.getD (2 * k + 1) 0 < 65536 := by
      rw [List.getD_eq_getElem?_getD, List.getElem?_eq_getElem (by omega)]
      exact hx _ (List.getElem_mem _)
    have hm : l.getD (2 * k) 0 % 256 < 256 := Nat.mod_lt _ (by omega)
    generalize l.getD (2 * k) 0 % 256 = u at *
    generalize l.getD (2 * k + 1) 0 = y at *
    refine ⟨by rw [List.length_set]; exact i1, fun s hs => ?_, ?_⟩
    · rw [iset_getD _ _ _ _ (by omega)]
      split
      · omega
      · exact i2 s hs
    · have := tot_set (someTo l k) u (y : Int) (by omega)
      have := i2 u hm
      omega

theorem someC_len (l : List Nat) (hx : ∀ x ∈ l, x < 65536) : (someC l).length = 256 := (someTo_facts l hx (pairsN l) (by unfold pairsN; omega)).1
theorem someC_right (l : List Nat) (hx : ∀ x ∈ l, x < 65536) : isRight (someC l) ∧ tot (someC l) ≤ 2621400 := by
  obtain ⟨h1, h2, h3⟩ := someTo_facts l hx (pairsN l) (by unfold pairsN; omega)
  have hp : (pairsN l : Int) ≤ 40 := by unfold pairsN; omega
  have ht : tot (someC l) ≤ 2621400 := by unfold someC; omega
  refine ⟨⟨h1, fun c hc => ?_, by omega⟩, ht⟩
  obtain ⟨i, hi, rfl⟩ := List.mem_iff_getElem.1 hc
  have hl' : (someC l).length = 256 := h1
  have : 0 ≤ (someC l).getD i 0 := h2 i (by omega)
  rw [List.getD_eq_getElem?_getD, List.getElem?_eq_getElem hi] at this
  exact this

set_option maxHeartbeats 2000000 in
set_option maxRecDepth 100000 in
theorem r5some_any (v : Value) (xs : List Nat) (w : World) (h : RdH w v xs) (hx : ∀ x ∈ xs, x < 65536) (hl : xs.length < 10000000000) :
    Calls Try.prog 21 #[v] w fun e w' => ∃ v', e = .returned v' ∧ OwnI w' w.heap.size v' (someC xs) ∧ Chg (fun _ => False) w w' := by
  obtain ⟨ao, cap, rfl⟩ := h.form
  have H := Lib.hid h; have HX := Lib.hid hx
  have hpn : pairsN xs = min (xs.length / 2) 40 := rfl
  have hsc : someC xs = someTo xs (pairsN xs) := rfl
  obtain ⟨N, hN⟩ : ∃ N, pairsN xs = N := ⟨_, rfl⟩
  rw [hN] at hpn hsc
  have HPN := Lib.hid hpn; have HSC := Lib.hid hsc
  clear h hx hpn hsc hN
  go_enter Try.func21, Try.ntmps21
  go_wp2_with (at_make; refine wpList_make_ints rfl _ _ rfl 256 256 256 rfl rfl rfl rfl (by omega) (someTo xs 0) rfl ?_)
  intro w1 h1 hc1
  have H1 := Lib.hid h1; have HC1 := Lib.hid hc1
  clear h1 hc1
  go_wp2
  go_loopw [4] (fun o4 wr => ∃ k : Nat, k ≤ N ∧ o4 = .int .i64 ((2 * k : Nat) : Int) ∧ RowI wr w.heap.size 3 (someTo xs k) ∧ Chg (fun _ => False) w wr) (fun o4 _ => 2 * N - (intOf o4).toNat)
  case atStart => exact ⟨0, Nat.zero_le _, rfl, H1.out, HC1.out⟩
  case round =>
    obtain ⟨k, hk, rfl, hrow, hc⟩ := hrel
    clear H1 HC1
    have hpn := HPN.out
    obtain ⟨i, hi⟩ : ∃ i, 2 * k = i := ⟨_, rfl⟩
    have hlen := (someTo_facts xs HX.out k (by omega)).1
    rw [hi]
    by_cases hlt : k < N
    · have hi1 : i + 1 < xs.length := by omega
      have hi80 : i < 80 := by omega
      have hi1I : (i : Int) + 1 < (xs.length : Int) := by omega
      have hi80I : (i : Int) < 80 := by omega
      have hiI : (i : Int) < (xs.length : Int) := by omega
      obtain ⟨g, off, rfl, c1⟩ := (H.out.kept hc (by simp)).at i (by omega)
      obtain ⟨g', off', he, c2⟩ := (H.out.kept hc (by simp)).at (i + 1) hi1
      simp only [Option.some.injEq, Addr.mk.injEq] at he
      obtain ⟨rfl, rfl, -⟩ := he
      have hst := someTo_succ xs k
      rw [hi] at hst
      have hy : xs.getD (i + 1) 0 < 65536 := by
        rw [List.getD_eq_getElem?_getD, List.getElem?_eq_getElem hi1]; exact HX.out _ (List.getElem_mem _)
      have hx : xs.getD i 0 < 65536 := by
        rw [List.getD_eq_getElem?_getD, List.getElem?_eq_getElem (by omega)]; exact HX.out _ (List.getElem_mem _)
      obtain ⟨x, hxe⟩ : ∃ x, xs.getD i 0 = x := ⟨_, rfl⟩
      obtain ⟨y, hye⟩ : ∃ y, xs.getD (i + 1) 0 = y := ⟨_, rfl⟩
      rw [hxe] at c1 hst hx
      rw [hye] at c2 hst hy
      obtain ⟨u, hu⟩ : ∃ u, x % 256 = u := ⟨_, rfl⟩
      have hu' : (x : Int) % 256 = (u : Int) := by omega
      have hut : (x : Int).tmod 256 = (u : Int) := by rw [Int.tmod_eq_emod_of_nonneg (by omega)]; exact hu'
      have hu256 : u < 256 := by omega
      have huI : (u : Int) < 256 := by omega
      rw [hu] at hst
      have a0 := hrow.cell u (by rw [hlen]; exact hu256)
      have f0 := hrow.free u
      have r2 := hrow.set u (y : Int)
      rw [← hst] at r2
      have hc2 : Chg (fun _ => False) w (wr.setCell ⟨w.heap.size, u, none⟩ (.int .i64 (y : Int))) := hc.trans (Chg.setCell wr ⟨w.heap.size, u, none⟩ _) (fun q hq h => by simp at h; omega)
      obtain ⟨i1, hi1e⟩ : ∃ i1, i + 1 = i1 := ⟨_, rfl⟩
      rw [hi1e] at c2 hi1
      have he1 : (i : Int) + 1 = (i1 : Int) := by omega
      have hw1 : IntKind.i64.wrap (i1 : Int) = (i1 : Int) := by rw [IntKind.wrap_i64]; omega
      have hi1J : (i1 : Int) < (xs.length : Int) := by omega
      have hi1K : (0 : Int) ≤ (i1 : Int) := by omega
      have hw2 : IntKind.u16.wrap (u : Int) = (u : Int) := by rw [IntKind.wrap_u16]; omega
      have hw3 : IntKind.i64.wrap (y : Int) = (y : Int) := by rw [IntKind.wrap_i64]; omega
      generalize (someTo xs k).getD u 0 = old at a0
      have R2 := Lib.hid r2; have C2 := Lib.hid hc2; have HI := Lib.hid hi; have HPN2 := Lib.hid hpn
      clear r2 hc2 hrow hc hst hxe hye hu hi hpn hlen hi1I hi1e
      go_wp2
      go_still_tail 13, (by kernel_rfl)
      change wpList _ _ _ _ _ wr.drew
      go_wp2
      go_roundw
      case rel => exact ⟨k + 1, by omega, by have := HI.out; simp; omega, R2.out, C2.out.drew⟩
      case measure => simp [intOf]; have := HI.out; have := HPN2.out; omega
    · obtain rfl : k = N := by omega
      rw [← HSC.out] at hrow hlen
      have own := hrow.own 256 w.heap.size (Nat.le_refl _)
      rw [hlen] at own
      have OWN := Lib.hid own; have CC := Lib.hid hc
      clear hrow own hc hlen
      have hiB : (i : Int) ≤ 80 := by omega
      by_cases hi1 : (i : Int) + 1 < (xs.length : Int)
      · have hi80 : ¬ (i : Int) < 80 := by omega
        clear hpn hi
        go_wp2
        go_ret
        exact ⟨_, rfl, OWN.out, CC.out⟩
      · have hi1N : ¬ i + 1 < xs.length := by omega
        have d1 : decide ((i : Int) + 1 < (xs.length : Int)) = false := decide_eq_false hi1
        clear hpn hi
        go_wp2
        go_ret
        exact ⟨_, rfl, OWN.out, CC.out⟩

end Go.Proofs.Ytbopamcnlocdbaa

/- An argument of type []uint16, opened. -/
namespace Go.Proofs.Ytbopamcnlocdbaa
open Go.ChangeShapes Go.WideShapes Go.ChangeAt Go.RowKit Go.Deep

theorem cellsU16 : Try.prog.cellsOf 31 = 1 := by kernel_rfl

theorem open_u16s {H : Type} {enc : TypeId × Value → H} {W : World} {base : Nat} {spare : Nat → Bool} {held : Bool} {a : Option Addr} {len cap : Nat} {d : DataW H} {p : List MemPlace}
    (h : DataW.Trod enc Try.prog W base spare held 30 (.slice a len cap) d p) : ∃ xs, RdH W (.slice a len cap) xs ∧ ∀ x ∈ xs, x < 65536 := by
  obtain ⟨fuel, hf⟩ := h
  rcases open_ints Try.underlying30 Try.underlying31 cellsU16 hf with ⟨hcs, _⟩ | ⟨x, l, c, zs, hcs, _, hl, _, hz, _, hcell, hwz⟩
  · simp [Value.cells] at hcs
    obtain ⟨rfl, rfl, rfl⟩ := hcs
    exact ⟨[], .inl ⟨rfl, none, 0, rfl⟩, by simp⟩
  · simp [Value.cells] at hcs
    obtain ⟨rfl, rfl, rfl⟩ := hcs
    have hlen : len ≤ zs.length := by rw [hz]; split <;> omega
    have hb : ∀ j, j < zs.length → 0 ≤ zs.getD j 0 ∧ zs.getD j 0 < 65536 := by
      intro j hj
      have hmem : zs.getD j 0 ∈ zs := by
        rw [List.getD_eq_getElem?_getD, List.getElem?_eq_getElem hj]; exact List.getElem_mem hj
      have := bounds_u16 (hwz _ hmem)
      omega
    refine ⟨(List.range len).map fun j => (zs.getD j 0).toNat, ?_, ?_⟩
    · by_cases h0 : len = 0
      · subst h0
        exact .inl ⟨rfl, some x, cap, rfl⟩
      · obtain ⟨g, off, rfl⟩ := spot_none (hcell 0 (by omega))
        refine .inr ⟨g, off, cap, by simp, fun j hj => ?_⟩
        have hj' : j < len := by simpa using hj
        have hc := hcell j (by omega)
        rw [add_lit] at hc
        rw [hc]
        have := (hb j (by omega)).1
        simp only [List.getD_eq_getElem?_getD, List.getElem?_map, List.getElem?_range hj', Option.map_some, Option.getD_some] at this ⊢
        rw [Int.toNat_of_nonneg this]
    · intro y hy
      simp only [List.mem_map, List.mem_range] at hy
      obtain ⟨j, hj, rfl⟩ := hy
      have := hb j (by omega)
      omega

end Go.Proofs.Ytbopamcnlocdbaa

/- What the document's own Counts (puncheonref08) tells: the walk. -/
namespace Go.Proofs.Ytbopamcnlocdbaa
open Go.RowKit

/-- the sum of a row of numbers in memory -/
def sumAt (w : World) (g : Nat) : Int := match w.heap[g]? with
  | some (.cells a _ _) => tot (a.toList.map intOf)
  | _ => 0
theorem RowI.sumAt {w : World} {g : Nat} {t : TypeId} {zs : List Int} (h : RowI w g t zs) : sumAt w g = tot zs := by
  unfold Go.Proofs.Ytbopamcnlocdbaa.sumAt
  rw [show w.heap[g]? = _ from h]
  simp only [iw, List.map_map]
  congr 1
  rw [show (intOf ∘ fun z => Value.int IntKind.i64 z) = id from rfl, List.map_id]

def fQ (c : List Int) (S n : Int) (i : Nat) : Int := if c.getD i 0 * S / n = 0 then min (c.getD i 0) 1 else c.getD i 0 * S / n
def fR (c : List Int) (S n : Int) (i : Nat) : Int := c.getD i 0 * S % n
def fH (c : List Int) (S n : Int) (i : Nat) : Bool := decide (c.getD i 0 * S / n = 0)

theorem base_bound {c : List Int} {S : Int} (h : Fit c S) (hS : S ≤ 4096) (s : Nat) (hs : s < 256) : 0 ≤ (qBase c S (tot c)).getD s 0 ∧ (qBase c S (tot c)).getD s 0 ≤ 4096 := by
  have hl : s < c.length := by rw [h.len]; exact hs
  rw [base_at s hl]
  have hx := h.at s hs
  have hn := h.some
  have hle : c.getD s 0 ≤ tot c := by
    have h1 := tot_take_le c (s + 1) h.low
    rw [tot_take_succ c s hl] at h1
    have := tot_nonneg (c.take s) (fun y hy => h.low y (List.mem_of_mem_take hy))
    omega
  have d := div_parts (c.getD s 0) S (tot c) hn hx h.sz
  have h2 : c.getD s 0 * S / tot c ≤ S := by
    refine Int.ediv_le_of_le_mul hn ?_
    have := Int.mul_le_mul_of_nonneg_right hle (show 0 ≤ S by have := h.sz; omega)
    rw [Int.mul_comm S]; exact this
  split <;> omega

theorem mem_bound {l : List Int} {lo hi : Int} (hl : l.length = 256) (h : ∀ s, s < 256 → lo ≤ l.getD s 0 ∧ l.getD s 0 ≤ hi) : ∀ z ∈ l, lo ≤ z ∧ z ≤ hi := by
  intro z hz
  obtain ⟨i, hi', rfl⟩ := List.mem_iff_getElem.1 hz
  have := h i (by omega)
  rwa [List.getD_eq_getElem?_getD, List.getElem?_eq_getElem hi'] at this

theorem give_bound {c : List Int} {S : Int} (h : Fit c S) (hS : S ≤ 4096) {k : Nat} {p : List Int × List Bool} (g : Gave (rest0 c S (tot c)) (qBase c S (tot c)) (had0 c S (tot c)) k p) : ∀ z ∈ p.1, 0 ≤ z ∧ z ≤ 4294967296 := by
  refine mem_bound g.len1 fun s hs => ?_
  have h1 := g.val s hs
  have h2 := base_bound h hS s hs
  rw [h1]
  split <;> omega

theorem r8richest_l (g h o cap : Nat) (t : TypeId) (q c : List Int) (w : World) (hr : RowI w g t q) (hh : RdI w (.slice (some ⟨h, o, none⟩) c.length cap) c) (hl : q.length = 256) (hl2 : c.length = 256) :
    Calls Try.prog 40 #[.slice (some ⟨g, 0, none⟩) 256 256, .slice (some ⟨h, o, none⟩) c.length cap] w fun e w' => e = .returned (.int .i64 ((richTo q c 255 : Nat) : Int)) ∧ ∃ m, w' = w.drewN m := by
  rw [hl2] at hh ⊢
  exact r8richest_any g h o cap t q c w hr hh hl hl2

set_option maxHeartbeats 8000000 in
set_option maxRecDepth 100000 in
theorem r8counts_any (v : Value) (c : List Int) (r : Int) (w : World) (h : RdI w v c) (hb : ∀ z ∈ c, -9223372036854775808 ≤ z ∧ z ≤ 9223372036854775807) (hl : c.length < 100000000000) (hr : -9223372036854775808 ≤ r ∧ r ≤ 9223372036854775807) :
    Calls Try.prog 25 #[v, .int .i64 r] w fun e w' => NormSays w c r e w' := by
  have HT := Lib.hid (r5total_any v c w h hb hl); have HM := Lib.hid (r5many_any v c w h hb hl)
  obtain ⟨ao, cap, rfl⟩ := h.form
  have H := Lib.hid h; have HB := Lib.hid hb
  clear h hb
  by_cases h0 : totalI c = 0
  · have hno : ¬ normOk c r := fun hk => (total_pos.1 h0) ⟨hk.1, hk.2.1⟩
    have HNO := Lib.hid hno
    rw [h0] at HT
    clear hno h0
    go_enter Try.func25, Try.ntmps25
    go_wp2_with fail
    refine HT.out.mono ?_
    rintro e w' ⟨rfl, rfl⟩
    go_wp2
    go_ret2
    exact ⟨_, by rw [if_neg HNO.out]; rfl, fun hk => absurd hk HNO.out, fun _ => .inl ⟨rfl, _, _, rfl⟩, Chg.refl _ _⟩
  have hpos : isRight c ∧ 0 < tot c := by
    rcases Decidable.em (isRight c ∧ 0 < tot c) with hh | hh
    · exact hh
    · exact absurd (total_pos.2 hh) h0
  have htn : totalI c = tot c := by unfold totalI; rw [if_pos hpos.1]
  have hmn : manyI c = pos c := by unfold manyI; rw [if_pos hpos.1]
  rw [htn] at HT h0
  rw [hmn] at HM
  have hn1 : 0 < tot c := hpos.2
  have hn2 : tot c ≤ 1073741824 := hpos.1.2.2
  have hp256 : pos c ≤ 256 := by have := pos_le c; rw [hpos.1.1] at this; exact this
  obtain ⟨n, hn⟩ : ∃ n, tot c = n := ⟨_, rfl⟩
  rw [hn] at HT hn1 hn2 h0
  have hn0 : (n == 0) = false := by simp; omega
  by_cases hr1 : r < 1
  · have HNO := Lib.hid (show ¬ normOk c r from fun hk => by have := hk.2.2.1; omega)
    clear hpos htn hmn
    go_enter Try.func25, Try.ntmps25
    go_wp2_with fail
    refine HT.out.mono ?_
    rintro e w' ⟨rfl, rfl⟩
    go_wp2
    go_ret2
    exact ⟨_, by rw [if_neg HNO.out]; rfl, fun hk => absurd hk HNO.out, fun _ => .inl ⟨rfl, _, _, rfl⟩, Chg.refl _ _⟩
  by_cases hr2 : 12 < r
  · have HNO := Lib.hid (show ¬ normOk c r from fun hk => by have := hk.2.2.2.1; omega)
    clear hpos htn hmn
    go_enter Try.func25, Try.ntmps25
    go_wp2_with fail
    refine HT.out.mono ?_
    rintro e w' ⟨rfl, rfl⟩
    go_wp2
    go_ret2
    exact ⟨_, by rw [if_neg HNO.out]; rfl, fun hk => absurd hk HNO.out, fun _ => .inl ⟨rfl, _, _, rfl⟩, Chg.refl _ _⟩
  obtain ⟨k, rfl⟩ : ∃ k : Nat, r = (k : Int) := ⟨r.toNat, by omega⟩
  have hk12 : k ≤ 12 := by omega
  have HPW := Lib.hid (r8power_any k w (by omega))
  have hS := pow12 hk12
  have hS1 := Nat.two_pow_pos k
  obtain ⟨S, hSe⟩ : ∃ S, 2 ^ k = S := ⟨_, rfl⟩
  rw [hSe] at HPW hS hS1
  have hokI : normOk c (k : Int) ↔ (pos c : Int) ≤ (S : Int) := by
    unfold normOk
    rw [Int.toNat_natCast, hSe]
    exact ⟨fun hh => hh.2.2.2.2, fun hh => ⟨hpos.1, hpos.2, by omega, by omega, hh⟩⟩
  have hnr : normR c (k : Int) = normC c (S : Int) := by unfold normR; rw [Int.toNat_natCast, hSe]
  by_cases hmany : (S : Int) < (pos c : Int)
  · have HNO := Lib.hid (show ¬ normOk c (k : Int) from fun hk => by have := hokI.1 hk; omega)
    obtain ⟨p, hp⟩ : ∃ p, pos c = p := ⟨_, rfl⟩
    rw [hp] at hmany HM
    have hmany' : S < p := by omega
    clear hpos htn hmn hokI hnr hp hp256 hn hSe
    go_enter Try.func25, Try.ntmps25
    go_wp2_with fail
    refine HT.out.mono ?_
    rintro e w' ⟨rfl, rfl⟩
    go_wp2_with fail
    refine HPW.out.mono ?_
    rintro e w' ⟨rfl, rfl⟩
    go_wp2_with fail
    refine HM.out.mono ?_
    rintro e w' ⟨rfl, rfl⟩
    go_wp2
    go_ret2
    exact ⟨_, by rw [if_neg HNO.out]; rfl, fun hk => absurd hk HNO.out, fun _ => .inl ⟨rfl, _, _, rfl⟩, Chg.refl _ _⟩
  have HOK := Lib.hid (show normOk c (k : Int) from hokI.2 (by omega))
  have hfit : Fit c (S : Int) := by have := HOK.out.fit; rw [Int.toNat_natCast, hSe] at this; exact this
  have HFIT := Lib.hid hfit; have HNR := Lib.hid hnr; have HNN := Lib.hid hn
  obtain ⟨p, hp⟩ : ∃ p, pos c = p := ⟨_, rfl⟩
  rw [hp] at hmany HM
  have hmany' : ¬ S < p := by omega
  have HLEN := Lib.hid hpos.1.1
  have HRG := Lib.hid hpos.1
  have hSI : (S : Int) ≤ 4096 := by omega
  clear hpos htn hmn hokI hnr hp hp256 hn hSe hfit
  go_enter Try.func25, Try.ntmps25
  go_wp2_with fail
  refine HT.out.mono ?_
  rintro e w' ⟨rfl, rfl⟩
  go_wp2_with fail
  refine HPW.out.mono ?_
  rintro e w' ⟨rfl, rfl⟩
  go_wp2_with fail
  refine HM.out.mono ?_
  rintro e w' ⟨rfl, rfl⟩
  clear HT HPW HM
  obtain ⟨w2, hw2⟩ : ∃ w2, w2 = w' := ⟨_, rfl⟩
  subst hw2
  go_wp2_with (at_make; refine wpList_make_ints rfl _ _ rfl 256 256 256 rfl rfl rfl rfl (by omega) (fillI (fQ c S n) 0) (fillI_zero _) ?_)
  intro w3 q3 c3
  go_wp2_with (at_make; refine wpList_make_ints rfl _ _ rfl 256 256 256 rfl rfl rfl rfl (by omega) (fillI (fR c S n) 0) (fillI_zero _) ?_)
  intro w4 q4 c4
  go_wp2_with (at_make; refine wpList_make_bools rfl _ _ rfl 256 256 256 rfl rfl rfl rfl (by omega) (fillB (fH c S n) 0) (fillB_zero _) ?_)
  intro w5 q5 c5
  obtain ⟨gq, hgq⟩ : ∃ gq, gq = w2.heap.size := ⟨_, rfl⟩
  obtain ⟨gr, hgr⟩ : ∃ gr, gr = w3.heap.size := ⟨_, rfl⟩
  obtain ⟨gh, hgh⟩ : ∃ gh, gh = w4.heap.size := ⟨_, rfl⟩
  rw [← hgq] at q3 ⊢
  rw [← hgr] at q4 ⊢
  rw [← hgh] at q5 ⊢
  have l1 : gq < gr := by rw [hgr]; exact q3.lt
  have l2 : gr < gh := by rw [hgh]; exact q4.lt
  have Q5 := Lib.hid ((q3.kept c4 (by simp)).kept c5 (by simp)); have R5 := Lib.hid (q4.kept c5 (by simp)); have T5 := Lib.hid q5
  have C5 := Lib.hid ((c3.trans c4 (fun _ _ h => h)).trans c5 (fun _ _ h => h))
  have LQ := Lib.hid (show w2.heap.size ≤ gq by omega); have L1 := Lib.hid l1; have L2 := Lib.hid l2
  clear q3 q4 q5 c3 c4 c5 l1 l2 hgq hgr hgh
  go_wp2
  go_loopw [11] (fun o11 wr => ∃ s : Nat, s ≤ 256 ∧ o11 = .int .i64 (s : Int) ∧ RowI wr gq 3 (fillI (fQ c S n) s) ∧ RowI wr gr 3 (fillI (fR c S n) s) ∧ RowT wr gh 4 (fillB (fH c S n) s) ∧ Chg (fun _ => False) w2 wr) (fun o11 _ => 256 - (intOf o11).toNat)
  case atStart => exact ⟨0, Nat.zero_le _, rfl, Q5.out, R5.out, T5.out, C5.out⟩
  case round =>
    obtain ⟨s, hs, rfl, rq, rr, rt, hc⟩ := hrel
    clear Q5 R5 T5 C5
    by_cases hlt : s < 256
    · have hsl : s < c.length := by rw [HLEN.out]; exact hlt
      obtain ⟨g0, o0, rfl, hx0⟩ := H.out.at s hsl
      have hg0 : g0 < w2.heap.size := block_lt_of_cell hx0
      have hlq := LQ.out; have hl1 := L1.out; have hl2 := L2.out
      have hxw : wr.cell? ⟨g0, o0 + s, none⟩ = some (.int .i64 (c.getD s 0)) := by rw [World.cell?_of_block (w := w2) (hc.block g0 hg0 (by simp))]; exact hx0
      have hone := HRG.out.one s hsl
      have eQ : fQ c S n s = if c.getD s 0 * (S : Int) / n = 0 then min (c.getD s 0) 1 else c.getD s 0 * (S : Int) / n := rfl
      have eR : fR c S n s = c.getD s 0 * (S : Int) % n := rfl
      have eH : fH c S n s = decide (c.getD s 0 * (S : Int) / n = 0) := rfl
      have fsQ := fillI_set (fQ c S n) s hlt
      have fsR := fillI_set (fR c S n) s hlt
      have fsH := fillB_set (fH c S n) s hlt
      have fkH := fillB_skip (fH c S n) s hlt
      obtain ⟨x, hx⟩ : ∃ x, c.getD s 0 = x := ⟨_, rfl⟩
      rw [hx] at hxw hone eQ eR eH
      obtain ⟨hx1, hx2⟩ := hone
      have hP0 : 0 ≤ x * (S : Int) := Int.mul_nonneg hx1 (by omega)
      have hP1 : x * (S : Int) ≤ 1073741824 * 4096 := Int.mul_le_mul hx2 (by omega) (by omega) (by omega)
      obtain ⟨P, hP⟩ : ∃ P, x * (S : Int) = P := ⟨_, rfl⟩
      rw [hP] at hP0 hP1 eQ eR eH
      have hP2 : P ≤ 4398046511104 := by omega
      have dQ := Int.ediv_nonneg hP0 (show 0 ≤ n by omega)
      have dQ2 := Int.ediv_le_self n hP0
      have dR := Int.emod_nonneg P (show n ≠ 0 by omega)
      have dR2 := Int.emod_lt_of_pos P hn1
      have tq : P.tdiv n = P / n := Int.tdiv_eq_ediv_of_nonneg hP0
      have tr : P.tmod n = P % n := Int.tmod_eq_emod_of_nonneg hP0
      obtain ⟨Q, hQ⟩ : ∃ Q, P / n = Q := ⟨_, rfl⟩
      obtain ⟨R, hR⟩ : ∃ R, P % n = R := ⟨_, rfl⟩
      rw [hQ] at eQ eH dQ dQ2 tq
      rw [hR] at eR dR dR2 tr
      have hwP : IntKind.i64.wrap P = P := by rw [IntKind.wrap_i64]; omega
      have hwQ : IntKind.i64.wrap Q = Q := by rw [IntKind.wrap_i64]; omega
      have hwR : IntKind.i64.wrap R = R := by rw [IntKind.wrap_i64]; omega
      have s1 := Chg.setCell wr ⟨gq, s, none⟩ (.int .i64 Q)
      have rq1 := rq.set s Q
      have rr1 := rr.kept s1 (by simp; omega)
      have rt1 := rt.kept s1 (by simp; omega)
      obtain ⟨W1, hW1⟩ : ∃ W1, wr.setCell ⟨gq, s, none⟩ (.int .i64 Q) = W1 := ⟨_, rfl⟩
      rw [hW1] at s1 rq1 rr1 rt1
      have s2 := Chg.setCell W1 ⟨gr, s, none⟩ (.int .i64 R)
      have rr2 := rr1.set s R
      have rq2 := rq1.kept s2 (by simp; omega)
      have rt2 := rt1.kept s2 (by simp; omega)
      obtain ⟨W2, hW2⟩ : ∃ W2, W1.setCell ⟨gr, s, none⟩ (.int .i64 R) = W2 := ⟨_, rfl⟩
      rw [hW2] at s2 rr2 rq2 rt2
      have c2 : Chg (fun _ => False) w2 W2 := (hc.trans s1 (S := fun _ => False) (fun q hq hh => by simp at hh; omega)).trans s2 (fun q hq hh => by simp at hh; omega)
      have a0 := rq.cell s (by rw [fillI_length]; exact hlt)
      have f0 := rq.free s
      have a1 := rr1.cell s (by rw [fillI_length]; exact hlt)
      have f1 := rr1.free s
      have kx1 : W1.cell? ⟨g0, o0 + s, none⟩ = some (.int .i64 x) := by rw [World.cell?_of_block (w := wr) (s1.block g0 (by have := hc.size; omega) (by simp; omega))]; exact hxw
      have aq2 := rq2.cell s (by rw [List.length_set, fillI_length]; exact hlt)
      rw [iset_getD _ _ _ _ (by rw [fillI_length]; exact hlt), if_pos rfl] at aq2
      have hsI : (s : Int) < 256 := by omega
      have hslI : (s : Int) < (c.length : Int) := by omega
      have d8 : decide ((s : Int) < 256) = true := by simp; omega
      generalize (fillI (fQ c S n) s).getD s 0 = ov at a0
      generalize (fillI (fR c S n) s).getD s 0 = ov2 at a1
      rw [eR] at fsR
      have FSR := Lib.hid fsR
      rw [← eR] at fsR
      by_cases hQ0 : Q = 0
      · subst hQ0
        rw [if_pos rfl] at eQ
        rw [eH, decide_eq_true rfl] at fsH
        rw [eQ] at fsQ
        have s3 := Chg.setCell W2 ⟨gh, s, none⟩ (.bool true)
        have rt3 := rt2.set s true
        have rq3 := rq2.kept s3 (by simp; omega)
        have rr3 := rr2.kept s3 (by simp; omega)
        have at2 := rt2.cell s (by rw [fillB_length]; exact hlt)
        have ft2 := rt2.free s
        obtain ⟨W3, hW3⟩ : ∃ W3, W2.setCell ⟨gh, s, none⟩ (.bool true) = W3 := ⟨_, rfl⟩
        rw [hW3] at s3 rt3 rq3 rr3
        have c3 : Chg (fun _ => False) w2 W3 := c2.trans s3 (fun q hq hh => by simp at hh; omega)
        have kx3 : W3.cell? ⟨g0, o0 + s, none⟩ = some (.int .i64 x) := by rw [World.cell?_of_block (w := w2) (c3.block g0 hg0 (by simp))]; rw [hx0, hx]
        have aq3 := rq3.cell s (by rw [List.length_set, fillI_length]; exact hlt)
        have fq3 := rq3.free s
        have rq4 : ∀ M, RowI (W3.setCell ⟨gq, s, none⟩ (.int .i64 M)) gq 3 ((fillI (fQ c S n) s).set s M) := fun M => by have := rq3.set s M; rw [setset] at this; exact this
        have s4 : ∀ M, Chg (fun k => k = gq) W3 (W3.setCell ⟨gq, s, none⟩ (.int .i64 M)) := fun M => Chg.setCell W3 ⟨gq, s, none⟩ _
        rw [fsH] at rt3
        rw [FSR.out] at rr3
        generalize (fillB (fH c S n) s).getD s false = ob at at2
        generalize ((fillI (fQ c S n) s).set s 0).getD s 0 = ov3 at aq3
        have RQ4 := Lib.hid rq4; have S4 := Lib.hid s4; have RR3 := Lib.hid rr3; have RT3 := Lib.hid rt3; have C3 := Lib.hid c3; have FSQ := Lib.hid fsQ; have TQ := Lib.hid tq; have TR := Lib.hid tr
        clear rq4 s4 rr3 rt3 c3 fsQ fsR fsH fkH rq rr rt hc rq1 rr1 rt1 rr2 rq2 rt2 rq3 s1 s2 s3 c2 eQ eR eH hx hx0 hQ hR FSR
        rcases (show x = 0 ∨ x = 1 ∨ 2 ≤ x by omega) with hx' | hx' | hx'
        · subst hx'
          go_wp2
          all_goals first
            | (exfalso; omega)
            | (go_roundw
               case rel => exact ⟨s + 1, by omega, by go_num, by rw [← FSQ.out]; exact RQ4.out 0, RR3.out.kept (S4.out 0) (by have := L1.out; omega), RT3.out.kept (S4.out 0) (by have := L1.out; have := L2.out; omega), C3.out.trans (S4.out 0) (fun q hq hh => by have := LQ.out; omega)⟩
               case measure => simp [intOf]; omega)
        · subst hx'
          go_wp2
          all_goals first
            | (exfalso; omega)
            | (go_roundw
               case rel => exact ⟨s + 1, by omega, by go_num, by rw [← FSQ.out]; exact RQ4.out 1, RR3.out.kept (S4.out 1) (by have := L1.out; omega), RT3.out.kept (S4.out 1) (by have := L1.out; have := L2.out; omega), C3.out.trans (S4.out 1) (fun q hq hh => by have := LQ.out; omega)⟩
               case measure => simp [intOf]; omega)
        · have hmin : min x 1 = 1 := by omega
          rw [hmin] at FSQ
          go_wp2
          all_goals first
            | (exfalso; omega)
            | (go_roundw
               case rel => exact ⟨s + 1, by omega, by go_num, by rw [← FSQ.out]; exact RQ4.out 1, RR3.out.kept (S4.out 1) (by have := L1.out; omega), RT3.out.kept (S4.out 1) (by have := L1.out; have := L2.out; omega), C3.out.trans (S4.out 1) (fun q hq hh => by have := LQ.out; omega)⟩
               case measure => simp [intOf]; omega)
      · rw [if_neg hQ0] at eQ
        have fkH' := fkH (by rw [eH]; exact decide_eq_false hQ0)
        rw [eQ] at fsQ
        have hQb : (Q == 0) = false := by simp [hQ0]
        rw [fsQ] at rq2
        rw [FSR.out] at rr2
        rw [fkH'] at rt2
        have RQ2 := Lib.hid rq2; have RR2 := Lib.hid rr2; have RT2 := Lib.hid rt2; have C2 := Lib.hid c2
        clear rq2 rr2 rt2 c2 fsQ fsR fsH fkH fkH' rq rr rt hc rq1 rr1 rt1 s1 s2 eQ eR eH hx hx0 hQ hR FSR
        go_wp2
        go_roundw
        case rel => exact ⟨s + 1, by omega, by go_num, RQ2.out, RR2.out, RT2.out, C2.out⟩
        case measure => simp [intOf]; omega
    · have hse : s = 256 := by omega
      have hsI : (s : Int) = 256 := by omega
      rw [hse] at rq rr rt
      rw [hsI]
      clear hse hsI hs hlt
      have hlenc := HLEN.out
      rw [fillI_all (fQ c S n) (qBase c S n) (by simp [qBase, hlenc]) (fun u hu => base_at u (by omega))] at rq
      rw [fillI_all (fR c S n) (rest0 c S n) (by simp [rest0, hlenc]) (fun u hu => rest_at u (by omega))] at rr
      rw [fillB_all (fH c S n) (had0 c S n) (by simp [had0, hlenc]) (fun u hu => had_at u (by omega))] at rt
      have hfit := HFIT.out
      have hroom := give_room (size := (S : Int)) hfit.low rfl hfit.some
      have hgave : ∀ j, j ≤ cntN (rest0 c S (tot c)) (had0 c S (tot c)) → Gave (rest0 c S (tot c)) (qBase c S (tot c)) (had0 c S (tot c)) j (giveN (rest0 c S (tot c)) j (qBase c S (tot c)) (had0 c S (tot c))) := fun j hj =>
        Go.Proofs.Ytbopamcnlocdbaa.gave (by simp [rest0, hlenc]) (by simp [qBase, hlenc]) (by simp [had0, hlenc]) j hj
      have hgs := hfit.gaveSum
      have hgc : gaveC c S (tot c) = (giveN (rest0 c S (tot c)) ((S : Int) - tot (qBase c S (tot c))).toNat (qBase c S (tot c)) (had0 c S (tot c))).1 := rfl
      have hbnd : ∀ j, j ≤ cntN (rest0 c S (tot c)) (had0 c S (tot c)) → ∀ z ∈ (giveN (rest0 c S (tot c)) j (qBase c S (tot c)) (had0 c S (tot c))).1, 0 ≤ z ∧ z ≤ 4294967296 := fun j hj => give_bound hfit hSI (hgave j hj)
      rw [← HNN.out] at rq rr rt
      have hrl : (rest0 c S (tot c)).length = 256 := by simp [rest0, hlenc]
      obtain ⟨rs, hrs⟩ : ∃ rs, rest0 c S (tot c) = rs := ⟨_, rfl⟩
      obtain ⟨qb, hqb⟩ : ∃ qb, qBase c S (tot c) = qb := ⟨_, rfl⟩
      obtain ⟨hd, hhd⟩ : ∃ hd, had0 c S (tot c) = hd := ⟨_, rfl⟩
      rw [hrs] at rr hroom hgave hgc hbnd hrl
      rw [hqb] at rq hroom hgave hgc hbnd hgs
      rw [hhd] at rt hroom hgave hgc hbnd
      obtain ⟨D, hD⟩ : ∃ D, ((S : Int) - tot qb).toNat = D := ⟨_, rfl⟩
      rw [hD] at hroom hgc
      obtain ⟨tB, htB⟩ : ∃ tB, tot qb = tB := ⟨_, rfl⟩
      rw [htB] at hD hgs
      have HROOM := Lib.hid hroom; have HGAVE := Lib.hid hgave; have HGS := Lib.hid hgs; have HGC := Lib.hid hgc; have HBND := Lib.hid hbnd; have HRL := Lib.hid hrl; have HD := Lib.hid hD; have HTB := Lib.hid htB
      have RQ := Lib.hid rq; have RR := Lib.hid rr; have RT := Lib.hid rt; have CC := Lib.hid hc
      clear hroom hgave hgs hgc hbnd hrl hD htB rq rr rt hc hrs hqb hhd hlenc hfit
      go_wp2
      go_loopw [12] (fun _ wr => ∃ j : Nat, j ≤ D ∧ RowI wr gq 3 (giveN rs j qb hd).1 ∧ RowI wr gr 3 rs ∧ RowT wr gh 4 (giveN rs j qb hd).2 ∧ Chg (fun _ => False) w2 wr) (fun _ wr => ((S : Int) - sumAt wr gq).toNat)
      case atStart => exact ⟨0, Nat.zero_le _, RQ.out, RR.out, RT.out, CC.out⟩
      case round =>
        obtain ⟨j, hj, rq, rr, rt, hc⟩ := hrel
        clear RQ RR RT CC
        have g := HGAVE.out j (by have := HROOM.out; omega)
        have hsum := g.sum
        rw [HTB.out] at hsum
        have rd := rq.rd 256
        rw [g.len1] at rd
        have hs1 := rq.sumAt
        rw [hsum] at hs1
        have hDe := HD.out
        by_cases hjD : j < D
        · obtain ⟨s, hn, hs256, hps, g2⟩ := gave_step HRL.out g (by have := HROOM.out; omega)
          have hgn : giveN rs (j + 1) qb hd = ((giveN rs j qb hd).1.set s ((giveN rs j qb hd).1.getD s 0 + 1), (giveN rs j qb hd).2.set s true) := by rw [giveN_succ, giveStep_some hn]
          have hzb := HBND.out j (by have := HROOM.out; omega) _ (getD_mem (cs := (giveN rs j qb hd).1) (k := s) (by rw [g.len1]; exact hs256))
          have aq := rq.cell s (by rw [g.len1]; exact hs256)
          have fq := rq.free s
          have at1 := rt.cell s (by rw [g.len2]; exact hs256)
          have ft1 := rt.free s
          have BND := Lib.hid (HBND.out j (by have := HROOM.out; omega))
          have HNE := Lib.hid (r8neediest_any gr gh _ _ rs (giveN rs j qb hd).2 wr rr rt HRL.out g.len2)
          have l1 := g.len1
          have hl1 := L1.out; have hl2 := L2.out; have hlq := LQ.out
          obtain ⟨z, hz⟩ : ∃ z, (giveN rs j qb hd).1.getD s 0 = z := ⟨_, rfl⟩
          rw [hz] at hgn hzb aq
          have st1 := Chg.setCell wr ⟨gh, s, none⟩ (.bool true)
          have rt1 := rt.set s true
          have rq1 := rq.kept st1 (by simp; omega)
          have rr1 := rr.kept st1 (by simp; omega)
          have c1 : Chg (fun _ => False) w2 _ := hc.trans st1 (S := fun _ => False) (fun q hq hh => by simp at hh; omega)
          have st2 := Chg.setCell (wr.setCell ⟨gh, s, none⟩ (.bool true)) ⟨gq, s, none⟩ (.int .i64 (z + 1))
          have rq2 := rq1.set s (z + 1)
          have rr2 := rr1.kept st2 (by simp; omega)
          have rt2 := rt1.kept st2 (by simp; omega)
          have c2 : Chg (fun _ => False) w2 _ := c1.trans st2 (S := fun _ => False) (fun q hq hh => by simp at hh; omega)
          have aq1 := rq1.cell s (by rw [l1]; exact hs256)
          have fq1 := rq1.free s
          rw [hz] at aq1
          have eq1 : (giveN rs (j + 1) qb hd).1 = (giveN rs j qb hd).1.set s (z + 1) := by rw [hgn]
          have eq2 : (giveN rs (j + 1) qb hd).2 = (giveN rs j qb hd).2.set s true := by rw [hgn]
          rw [← eq1] at rq2
          rw [← eq2] at rt2
          have g3 := HGAVE.out (j + 1) (by have := HROOM.out; omega)
          have hsum3 := g3.sum
          rw [HTB.out] at hsum3
          have hs3 := rq2.sumAt
          rw [hsum3] at hs3
          rw [hn] at HNE
          have hlt : tB + (j : Int) < (S : Int) := by omega
          have RD := Lib.hid rd; have HS := Lib.hid hsum; have RQ2 := Lib.hid rq2; have RR2 := Lib.hid rr2; have RT2 := Lib.hid rt2; have C2 := Lib.hid c2; have HS1 := Lib.hid hs1; have HS3 := Lib.hid hs3
          have hsI : (s : Int) < 256 := by omega
          obtain ⟨hz0, hz1⟩ := hzb
          generalize (giveN rs j qb hd).2.getD s false = ob at at1
          have L1000 := Lib.hid (show (giveN rs j qb hd).1.length ≤ 1000 by rw [l1]; omega)
          clear rd hsum rq2 rr2 rt2 c2 hs1 hs3 rq rr rt hc g g2 g3 hgn eq1 eq2 rq1 rr1 rt1 st1 st2 c1 hsum3 hn hz l1 hps
          go_wp2_with fail
          refine (r8sum_any _ _ wr RD.out BND.out L1000.out).mono ?_
          rintro e w6 ⟨rfl, rfl⟩
          rw [HS.out]
          go_wp2_with fail
          refine HNE.out.mono ?_
          rintro e w7 ⟨rfl, m, rfl⟩
          simp only [idx]
          clear HNE
          go_wp2
          go_roundw
          case rel => exact ⟨j + 1, by omega, RowI.kept (w := (w6.setCell ⟨gh, s, none⟩ (.bool true)).setCell ⟨gq, s, none⟩ (.int .i64 (z + 1))) RQ2.out ((Chg.refl (fun _ => False) _).drewN m) (by simp), RowI.kept (w := (w6.setCell ⟨gh, s, none⟩ (.bool true)).setCell ⟨gq, s, none⟩ (.int .i64 (z + 1))) RR2.out ((Chg.refl (fun _ => False) _).drewN m) (by simp), RowT.kept (w := (w6.setCell ⟨gh, s, none⟩ (.bool true)).setCell ⟨gq, s, none⟩ (.int .i64 (z + 1))) RT2.out ((Chg.refl (fun _ => False) _).drewN m) (by simp), C2.out.drewN m⟩
          case measure =>
            show ((S : Int) - sumAt ((w6.setCell ⟨gh, s, none⟩ (.bool true)).setCell ⟨gq, s, none⟩ (.int .i64 (z + 1))) gq).toNat < ((S : Int) - sumAt w6 gq).toNat
            rw [HS1.out, HS3.out]; omega
        · obtain rfl : j = D := by omega
          have hge : ¬ tB + (j : Int) < (S : Int) := by omega
          have BND := Lib.hid (HBND.out j (by have := HROOM.out; omega))
          have L1000 := Lib.hid (show (giveN rs j qb hd).1.length ≤ 1000 by rw [g.len1]; omega)
          have RD := Lib.hid rd; have HS := Lib.hid hsum
          have eg : (giveN rs j qb hd).1 = gaveC c S (tot c) := HGC.out.symm
          have RQ := Lib.hid rq; have CC := Lib.hid hc; have HGE := Lib.hid hge; have EG := Lib.hid eg
          clear rd hsum rq rr rt hc g hs1 eg
          go_wp2_with fail
          refine (r8sum_any _ _ wr RD.out BND.out L1000.out).mono ?_
          rintro e w6 ⟨rfl, rfl⟩
          rw [HS.out]
          have hfit := HFIT.out
          have hgs := HGS.out
          have hmn := hfit.many
          obtain ⟨G, hG⟩ : ∃ G, gaveC c S (tot c) = G := ⟨_, rfl⟩
          have htook : ∀ i : Nat, (i : Int) ≤ tot G - (S : Int) → Took c G i (takeN c i G) := fun i hi => by
            have t0 := hfit.took0
            rw [hG] at t0
            exact Go.Proofs.Ytbopamcnlocdbaa.took hfit.len t0 i (by omega)
          have hnc : normC c (S : Int) = takeN c (tot G - (S : Int)).toNat G := by unfold normC; rw [hG]
          have hGb : ∀ s, s < 256 → G.getD s 0 ≤ 4294967296 := fun s hs => by
            have h1 := EG.out
            rw [hG] at h1
            have h2 := BND.out _ (getD_mem (cs := (giveN rs j qb hd).1) (k := s) (by have := (HGAVE.out j HROOM.out).len1; omega))
            rw [h1] at h2
            exact h2.2
          have rq := RQ.out
          rw [EG.out, hG] at rq
          rw [hG] at hgs
          obtain ⟨tG, htG⟩ : ∃ tG, tot G = tG := ⟨_, rfl⟩
          rw [htG] at hgs htook hnc
          obtain ⟨T, hT⟩ : ∃ T, (tG - (S : Int)).toNat = T := ⟨_, rfl⟩
          rw [hT] at hnc
          have HTOOK := Lib.hid htook; have HNC := Lib.hid hnc; have HGB := Lib.hid hGb; have HTG := Lib.hid htG; have HTT := Lib.hid (show (T : Int) = tG - (S : Int) by omega); have RQ2 := Lib.hid rq
          clear htook hnc hGb rq hG htG hT hgs hmn hfit HGC RQ RD BND L1000 HS HGAVE HBND HGS EG HROOM HD hDe hjD hj
          obtain ⟨g0, o0, rfl, hx0⟩ := H.out.at 0 (by rw [HLEN.out]; omega)
          clear hx0
          go_wp2
          go_loopw [92] (fun _ wr => ∃ i : Nat, i ≤ T ∧ RowI wr gq 3 (takeN c i G) ∧ Chg (fun _ => False) w2 wr) (fun _ wr => (sumAt wr gq - (S : Int)).toNat)
          case atStart => exact ⟨0, Nat.zero_le _, RQ2.out, CC.out⟩
          case round =>
            obtain ⟨i, hi, rq, hc⟩ := hrel
            clear RQ2 CC
            have htt := HTT.out
            have t := HTOOK.out i (by omega)
            have hsum := t.sum
            rw [HTG.out] at hsum
            have rd := rq.rd 256
            rw [t.len] at rd
            have hs1 := rq.sumAt
            rw [hsum] at hs1
            have BND := Lib.hid (mem_bound (lo := 0) (hi := 4294967296) t.len (fun s hs => ⟨(t.low s hs).1, Int.le_trans (t.top s hs) (HGB.out s hs)⟩))
            have L1000 := Lib.hid (show (takeN c i G).length ≤ 1000 by rw [t.len]; omega)
            have RD := Lib.hid rd; have HS := Lib.hid hsum
            by_cases hiT : i < T
            · have hmany2 := HFIT.out.many
              obtain ⟨hb256, hz1, t2⟩ := took_step HLEN.out t (by rw [hsum]; omega)
              have HRI := Lib.hid (r8richest_l gq g0 o0 cap 3 (takeN c i G) c wr rq (H.out.kept hc (by simp)) t.len HLEN.out)
              have hst : takeN c (i + 1) G = (takeN c i G).set (richTo (takeN c i G) c 255) ((takeN c i G).getD (richTo (takeN c i G) c 255) 0 - 1) := by rw [takeN_succ]; rfl
              have hzt := t.top (richTo (takeN c i G) c 255) hb256
              have hzg := HGB.out (richTo (takeN c i G) c 255) hb256
              obtain ⟨b, hb⟩ : ∃ b, richTo (takeN c i G) c 255 = b := ⟨_, rfl⟩
              rw [hb] at hb256 hz1 hst HRI hzt hzg
              have aq := rq.cell b (by rw [t.len]; exact hb256)
              have fq := rq.free b
              obtain ⟨z, hz⟩ : ∃ z, (takeN c i G).getD b 0 = z := ⟨_, rfl⟩
              rw [hz] at hz1 hst aq hzt
              have rq1 := rq.set b (z - 1)
              rw [← hst] at rq1
              have c1 : Chg (fun _ => False) w2 (wr.setCell ⟨gq, b, none⟩ (.int .i64 (z - 1))) := hc.trans (Chg.setCell wr ⟨gq, b, none⟩ _) (fun q hq hh => by have := LQ.out; simp at hh; omega)
              have t3 := HTOOK.out (i + 1) (by omega)
              have hsum3 := t3.sum
              rw [HTG.out] at hsum3
              have hs3 := rq1.sumAt
              rw [hsum3] at hs3
              have hgt : (S : Int) < tG - (i : Int) := by omega
              have hbI : (b : Int) < 256 := by omega
              have hz2 : z ≤ 4294967296 := by omega
              have RQ1 := Lib.hid rq1; have C1 := Lib.hid c1; have HS1 := Lib.hid hs1; have HS3 := Lib.hid hs3; have HTT2 := Lib.hid htt
              clear rq1 c1 hs1 hs3 t3 hsum3 t t2 hst hz hb rq hc rd hsum hzt hzg hmany2
              go_wp2_with fail
              refine (r8sum_any _ _ wr RD.out BND.out L1000.out).mono ?_
              rintro e w7 ⟨rfl, rfl⟩
              rw [HS.out]
              clear htt
              go_wp2_with fail
              refine HRI.out.mono ?_
              rintro e w8 ⟨rfl, m, rfl⟩
              clear HRI
              go_wp2
              go_roundw
              case rel => exact ⟨i + 1, by omega, RowI.kept (w := w7.setCell ⟨gq, b, none⟩ (.int .i64 (z - 1))) RQ1.out ((Chg.refl (fun _ => False) _).drewN m) (by simp), C1.out.drewN m⟩
              case measure =>
                show (sumAt (w7.setCell ⟨gq, b, none⟩ (.int .i64 (z - 1))) gq - (S : Int)).toNat < (sumAt w7 gq - (S : Int)).toNat
                have := HTT2.out
                rw [HS1.out, HS3.out]; omega
            · obtain rfl : i = T := by omega
              have hle : ¬ (S : Int) < tG - (i : Int) := by omega
              rw [← HNC.out] at rq
              have hnl := norm_len HFIT.out
              have own := rq.own 256 w2.heap.size LQ.out
              rw [hnl, ← HNR.out] at own
              have OWN := Lib.hid own; have CC := Lib.hid hc
              clear rq own hnl hc t hs1 htt rd hsum
              go_wp2_with fail
              refine (r8sum_any _ _ wr RD.out BND.out L1000.out).mono ?_
              rintro e w7 ⟨rfl, rfl⟩
              rw [HS.out]
              go_wp2
              go_ret2
              exact ⟨_, by rw [if_pos HOK.out]; rfl, fun _ => OWN.out, fun hk => absurd HOK.out hk, CC.out⟩

end Go.Proofs.Ytbopamcnlocdbaa

/- Normalized counts of few numbers: what puncheonref08.Some tells. -/
namespace Go.Proofs.Ytbopamcnlocdbaa
open Go.RowKit

theorem norm_normQ {c : List Int} {k : Nat} (h : normOk c (k : Int)) : NormQ (normR c (k : Int)) k := by
  have hf := h.fit
  rw [Int.toNat_natCast] at hf
  unfold normR
  rw [Int.toNat_natCast]
  have h1 := h.2.2.1
  have h2 := h.2.2.2.1
  exact ⟨norm_len hf, norm_nonneg hf, norm_sum hf, by omega, by omega⟩
theorem right_bnds {c : List Int} (h : isRight c) : ∀ z ∈ c, -9223372036854775808 ≤ z ∧ z ≤ 9223372036854775807 := by
  intro z hz
  obtain ⟨i, hi, rfl⟩ := List.mem_iff_getElem.1 hz
  have := h.one i hi
  rw [List.getD_eq_getElem?_getD, List.getElem?_eq_getElem hi] at this
  simp only [Option.getD_some] at this
  omega
theorem right_seven {c : List Int} (h : isRight c) (h0 : tot c = 0) : isRight (c.set 7 1) ∧ 0 < tot (c.set 7 1) ∧ tot (c.set 7 1) ≤ 2621400 := by
  have hl := h.1
  have hs := tot_set c 7 1 (by omega)
  have h7 := h.one 7 (by omega)
  have hn : ∀ z ∈ c.set 7 1, 0 ≤ z := fun z hz => by
    rcases List.mem_or_eq_of_mem_set hz with h1 | h1
    · exact h.2.1 z h1
    · omega
  have hle : c.getD 7 0 ≤ tot c := by
    have := h.at 7 (by omega)
    have h1 := tot_take_succ c 7 (by omega)
    have h2 := tot_take_le c (7 + 1) h.2.1
    have h3 := tot_nonneg (c.take 7) fun z hz => h.2.1 z (List.mem_of_mem_take hz)
    omega
  exact ⟨⟨by rw [List.length_set]; exact hl, hn, by omega⟩, by omega, by omega⟩

set_option maxHeartbeats 2000000 in
theorem r8some_any (v : Value) (xs : List Nat) (r : Nat) (w : World) (h : RdH w v xs) (hx : ∀ x ∈ xs, x < 65536) (hl : xs.length < 10000000000) (hr : r < 256) :
    Calls Try.prog 12 #[v, .int .u8 (r : Int)] w fun e w' => ∃ v' q k, e = .returned (.tuple #[v', .int .i64 ((k : Nat) : Int)]) ∧ OwnI w' w.heap.size v' q ∧ NormQ q k ∧ 5 ≤ k ∧ k ≤ 9 ∧ Chg (fun _ => False) w w' := by
  have HS := Lib.hid (r5some_any v xs w h hx hl)
  have HRT := Lib.hid (someC_right xs hx)
  clear h hx hl
  obtain ⟨rr, hrr⟩ : ∃ rr, r % 5 = rr := ⟨_, rfl⟩
  have hrr' : (r : Int) % 5 = (rr : Int) := by omega
  obtain ⟨k0, hk0⟩ : ∃ k0, 5 + rr = k0 := ⟨_, rfl⟩
  have hkI : 5 + (rr : Int) = (k0 : Int) := by omega
  have hk9 : k0 ≤ 9 := by omega
  have hk5 : 5 ≤ k0 := by omega
  have hrr5 : (rr : Int) < 5 := by omega
  have HK9 := Lib.hid hk9; have HK5 := Lib.hid hk5
  clear hrr hk0 hk9 hk5
  go_enter Try.func12, Try.ntmps12
  go_wp2_with fail
  refine HS.out.mono ?_
  rintro e w1 ⟨v1, rfl, ho, hc⟩
  generalize hC : someC xs = C at *
  have hrt := HRT.out.1
  have htt := HRT.out.2
  obtain ⟨g, off, cap, rfl, -⟩ := id ho
  have HO := Lib.hid ho; have HC := Lib.hid hc; have HR := Lib.hid hrt; have HTT := Lib.hid htt
  clear ho hc HS HRT hC hrt htt
  go_wp2_with fail
  refine (r5total_any _ C w1 HO.out.rd (right_bnds HR.out) (by rw [HR.out.1]; omega)).mono ?_
  rintro e w1' ⟨rfl, rfl⟩
  rw [show totalI C = tot C by unfold totalI; rw [if_pos HR.out]]
  have h7 : 7 < C.length := by rw [HR.out.1]; omega
  have hsv := fun h0 => right_seven HR.out h0
  have htn := tot_nonneg C HR.out.2.1
  have hcell : w1'.cell? ⟨g, off + 7, none⟩ = some (.int .i64 (C.getD 7 0)) := by
    obtain ⟨g', off', he, hc⟩ := HO.out.rd.at 7 h7
    simp only [Option.some.injEq, Addr.mk.injEq] at he
    obtain ⟨rfl, rfl, -⟩ := he
    exact hc
  obtain ⟨hgw, hfr⟩ : w.heap.size ≤ g ∧ w1'.frozen? ⟨g, off + 7, none⟩ = false := by
    obtain ⟨g', off', cap', he, hb, -, -, hf⟩ := HO.out
    simp only [Value.slice.injEq, Option.some.injEq, Addr.mk.injEq] at he
    obtain ⟨⟨rfl, rfl, -⟩, -, -⟩ := he
    exact ⟨hb, hf 7⟩
  have hst := HO.out.store 7 h7 1
  have hc2 : Chg (fun _ => False) w (w1'.setCell ⟨g, off + 7, none⟩ (.int .i64 1)) := HC.out.trans (Chg.setCell w1' ⟨g, off + 7, none⟩ _) (fun q hq h => by simp at h; omega)
  have hn6 : C.length = 256 := HR.out.1
  obtain ⟨n, hn⟩ : ∃ n, C.length = n := ⟨_, rfl⟩
  rw [hn] at HO h7 hst hn6 ⊢
  have HST := Lib.hid hst; have HC2 := Lib.hid hc2; have HSV := Lib.hid hsv; have HN := Lib.hid hn6
  clear hst hc2 hsv hn hn6
  obtain ⟨T, hT⟩ : ∃ T, tot C = T := ⟨_, rfl⟩
  rw [hT] at HSV HTT htn ⊢
  have h7I : (7 : Int) < (n : Int) := by omega
  have HGW := Lib.hid hgw
  clear h7 hgw
  have key : ∃ (C' : List Int) (w2 : World), Hid (OwnI w2 w.heap.size (.slice (some ⟨g, off, none⟩) n cap) C' ∧ isRight C' ∧ 0 < tot C' ∧ Chg (fun _ => False) w w2) ∧ ((T = 0 ∧ w2 = w1'.setCell ⟨g, off + 7, none⟩ (.int .i64 1)) ∨ (T ≠ 0 ∧ w2 = w1')) := by
    by_cases h0 : T = 0
    · exact ⟨_, _, Lib.hid ⟨HST.out, (HSV.out h0).1, (HSV.out h0).2.1, HC2.out⟩, .inl ⟨h0, rfl⟩⟩
    · exact ⟨_, _, Lib.hid ⟨HO.out, HR.out, by omega, HC.out⟩, .inr ⟨h0, rfl⟩⟩
  obtain ⟨C', w2, KEY, hcase⟩ := key
  clear HST HC2 HSV HO HR HC HTT hT
  have HLEN := Lib.hid KEY.out.2.1.1
  have MN := Lib.hid <| r5many_any (.slice (some ⟨g, off, none⟩) n cap) C' w2 KEY.out.1.rd (right_bnds KEY.out.2.1) (by rw [HLEN.out]; omega)
  have hml := manyI_le C'
  have hmp : manyI C' = pos C' := by unfold manyI; rw [if_pos KEY.out.2.1]
  have HMP := Lib.hid hmp
  obtain ⟨M, hM⟩ : ∃ M, manyI C' = M := ⟨_, rfl⟩
  rw [hM] at MN hml HMP
  clear hM hmp
  have HCO := Lib.hid fun (k : Nat) (hk : k ≤ 9) => r8counts_any (.slice (some ⟨g, off, none⟩) n cap) C' (k : Int) w2 KEY.out.1.rd (right_bnds KEY.out.2.1) (by rw [HLEN.out]; omega) (by omega)
  have HNO := Lib.hid fun (k : Nat) (h5 : 5 ≤ k) (h9 : k ≤ 9) (hm : M ≤ 2 ^ k) => (show normOk C' (k : Int) from ⟨KEY.out.2.1, KEY.out.2.2.1, by omega, by omega, by rw [← HMP.out, Int.toNat_natCast]; omega⟩)
  rcases hcase with ⟨rfl, hw2⟩ | ⟨hT0, hw2⟩
  · go_wp2
    rw [← hw2]
    clear hw2 hcell hfr hrr' hkI
    go_loopw [7] (fun o7 wr => ∃ k : Nat, 5 ≤ k ∧ k ≤ 9 ∧ o7 = .int .i64 (k : Int) ∧ wr = w2) (fun o7 _ => 9 - (intOf o7).toNat)
    case atStart => exact ⟨k0, HK5.out, HK9.out, rfl, rfl⟩
    case round =>
      obtain ⟨k, h5, h9, rfl, rfl⟩ := hrel
      obtain ⟨P, hP⟩ : ∃ P, 2 ^ k = P := ⟨_, rfl⟩
      have hPI : (2 : Int) ^ k = (P : Int) := by rw [← hP]; simp
      have hk8 : P < 256 → k < 8 := fun h => by
        by_cases h8 : 8 ≤ k
        · have := pow_le h8
          have : (2 : Nat) ^ 8 = 256 := by decide
          omega
        · omega
      have hno := HNO.out k h5 h9
      rw [hP] at hno
      have hco := HCO.out k h9
      have HK8 := Lib.hid hk8; have HNK := Lib.hid hno; have HCK := Lib.hid hco
      have H5 := Lib.hid h5; have H9 := Lib.hid h9
      clear hk8 hno hco HNO HCO hP
      go_wp2_with fail
      refine (r8power_any k _ (by omega)).mono ?_
      rintro e w3 ⟨rfl, rfl⟩
      go_wp2_with fail
      refine MN.out.mono ?_
      rintro e w3 ⟨rfl, rfl⟩
      by_cases hlt : P < M
      · have hk8 := HK8.out (by omega)
        have dl : decide (P < M) = true := decide_eq_true hlt
        clear HK8 HNK HCK hlt
        go_wp2
        go_roundw
        case rel => exact ⟨k + 1, by omega, by omega, by go_num, trivial⟩
        case measure => simp [intOf]; omega
      · have hok := HNK.out (by omega)
        have HOK := Lib.hid hok
        clear hok HNK HK8
        go_wp2_with fail
        refine HCK.out.mono ?_
        rintro e w4 ⟨v4, rfl, ho4, -, hc4⟩
        rw [if_pos HOK.out]
        have HO4 := Lib.hid (ho4 HOK.out)
        have HC4 := Lib.hid hc4
        clear ho4 hc4 HCK
        go_wp2
        go_ret2
        exact ⟨_, _, k, rfl, HO4.out.mono KEY.out.2.2.2.size, norm_normQ HOK.out, H5.out, H9.out, KEY.out.2.2.2.trans HC4.out fun _ _ h => h⟩
  · have hT1 : (T == 0) = false := by simpa using hT0
    clear hT0
    go_wp2
    rw [← hw2]
    clear hw2 hcell hfr hrr' hkI
    go_loopw [7] (fun o7 wr => ∃ k : Nat, 5 ≤ k ∧ k ≤ 9 ∧ o7 = .int .i64 (k : Int) ∧ wr = w2) (fun o7 _ => 9 - (intOf o7).toNat)
    case atStart => exact ⟨k0, HK5.out, HK9.out, rfl, rfl⟩
    case round =>
      obtain ⟨k, h5, h9, rfl, rfl⟩ := hrel
      obtain ⟨P, hP⟩ : ∃ P, 2 ^ k = P := ⟨_, rfl⟩
      have hPI : (2 : Int) ^ k = (P : Int) := by rw [← hP]; simp
      have hk8 : P < 256 → k < 8 := fun h => by
        by_cases h8 : 8 ≤ k
        · have := pow_le h8
          have : (2 : Nat) ^ 8 = 256 := by decide
          omega
        · omega
      have hno := HNO.out k h5 h9
      rw [hP] at hno
      have hco := HCO.out k h9
      have HK8 := Lib.hid hk8; have HNK := Lib.hid hno; have HCK := Lib.hid hco
      have H5 := Lib.hid h5; have H9 := Lib.hid h9
      clear hk8 hno hco HNO HCO hP
      go_wp2_with fail
      refine (r8power_any k _ (by omega)).mono ?_
      rintro e w3 ⟨rfl, rfl⟩
      go_wp2_with fail
      refine MN.out.mono ?_
      rintro e w3 ⟨rfl, rfl⟩
      by_cases hlt : P < M
      · have hk8 := HK8.out (by omega)
        have dl : decide (P < M) = true := decide_eq_true hlt
        clear HK8 HNK HCK hlt
        go_wp2
        go_roundw
        case rel => exact ⟨k + 1, by omega, by omega, by go_num, trivial⟩
        case measure => simp [intOf]; omega
      · have hok := HNK.out (by omega)
        have HOK := Lib.hid hok
        clear hok HNK HK8
        go_wp2_with fail
        refine HCK.out.mono ?_
        rintro e w4 ⟨v4, rfl, ho4, -, hc4⟩
        rw [if_pos HOK.out]
        have HO4 := Lib.hid (ho4 HOK.out)
        have HC4 := Lib.hid hc4
        clear ho4 hc4 HCK
        go_wp2
        go_ret2
        exact ⟨_, _, k, rfl, HO4.out.mono KEY.out.2.2.2.size, norm_normQ HOK.out, H5.out, H9.out, KEY.out.2.2.2.trans HC4.out fun _ _ h => h⟩

end Go.Proofs.Ytbopamcnlocdbaa
