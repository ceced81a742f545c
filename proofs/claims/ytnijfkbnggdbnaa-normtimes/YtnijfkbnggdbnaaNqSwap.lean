/- What Swap of norm's queue does. THIS SPEAKS OF THE PROGRAM'S OWN TEXT. -/
import Derived.Test.YtnijfkbnggdbnaaNqHeap
import Derived.WalkSmall
import Derived.OneCell
import Derived.Deep.AppendLies
import Derived.Deep.RegionLaw
namespace Go.Proofs.Ytnijfkbnggdbnaa
open Go.RowKit

section
variable {b B f X : Nat} {w : World} {l : List Sh}

/-- five cells of the block g, one behind the other -/
def W5 (w : World) (g k : Nat) (s : Sh) : World := ((((w.setCell ⟨g, k, none⟩ (.int .i64 s.sym)).setCell ⟨g, k + 1, none⟩ (.int .i64 s.cnt)).setCell ⟨g, k + 2, none⟩ (.int .i64 s.plc)).setCell ⟨g, k + 3, none⟩ (.int .i64 s.lft)).setCell ⟨g, k + 4, none⟩ (.bool s.rai)
theorem W5_chg (w : World) (g k : Nat) (s : Sh) : Chg (fun q => q = g) w (W5 w g k s) :=
  ((((Chg.setCell w ⟨g, k, none⟩ _).trans (Chg.setCell _ ⟨g, k + 1, none⟩ _) fun _ _ h => h).trans (Chg.setCell _ ⟨g, k + 2, none⟩ _) fun _ _ h => h).trans (Chg.setCell _ ⟨g, k + 3, none⟩ _) fun _ _ h => h).trans (Chg.setCell _ ⟨g, k + 4, none⟩ _) fun _ _ h => h
theorem own_W5 {g n cap : Nat} (h : w.ownsRow B 49 5 (.slice (some ⟨g, 0, none⟩) n cap) n (svs l)) (hl : l.length = n) (i : Nat) (hi : i < n) (s : Sh) :
    (W5 w g (i * 5) s).ownsRow B 49 5 (.slice (some ⟨g, 0, none⟩) n cap) n (svs (l.set i s)) := by
  rw [← svs_set l i s (by omega)]
  exact ((((((h.stored (i * 5) _).1.stored (i * 5 + 1) _).1.stored (i * 5 + 2) _).1.stored (i * 5 + 3) _).1.stored (i * 5 + 4) _).1)

set_option maxHeartbeats 4000000 in
theorem qswap_any (h : Qr b B f X w l) (i j : Nat) (hi : i < l.length) (hj : j < l.length) :
    Calls Try.prog 61 #[.pointer (some ⟨b, 0, none⟩), .int .i64 (i : Int), .int .i64 (j : Int)] w fun e w' => e = .returned (.tuple #[]) ∧ Qr b B f X w' (swp l i j) ∧ Chg (Sq B X) w w' := by
  obtain ⟨ao, cap, h1, h2, -, h3, h4⟩ := h.cells
  obtain ⟨g, rfl, hg⟩ := own_slice h3 (by omega)
  have hgX : g ≠ X := by
    obtain ⟨v, q1, q2, q3, q4, q5, q6, q7⟩ := h
    have e1 : w.cell? ⟨b, 0, none⟩ = some v := by rw [cell_of_row w b 0 _ _ _ q1]; rfl
    rw [e1] at h1
    obtain rfl := Option.some.inj h1
    exact fun he => q6 (by rw [he]; rfl)
  obtain ⟨n, hn⟩ : ∃ n, l.length = n := ⟨_, rfl⟩
  rw [hn] at h1 h3 hi hj
  obtain ⟨a0, a1, a2, a3, a4⟩ := own_at h3 hn i hi
  obtain ⟨c0, c1, c2, c3, c4⟩ := own_at h3 hn j hj
  have f0 := h3.frozenAt (i * 5)
  have f1 := h3.frozenAt (i * 5 + 1)
  have f2 := h3.frozenAt (i * 5 + 2)
  have f3 := h3.frozenAt (i * 5 + 3)
  have f4 := h3.frozenAt (i * 5 + 4)
  have g0 := h3.frozenAt (j * 5)
  have g1 := h3.frozenAt (j * 5 + 1)
  have g2 := h3.frozenAt (j * 5 + 2)
  have g3 := h3.frozenAt (j * 5 + 3)
  have g4 := h3.frozenAt (j * 5 + 4)
  have H := Lib.hid h
  have hsw : swp l i j = (l.set i (l.getD j default)).set j (l.getD i default) := rfl
  rw [hsw]
  obtain ⟨x, hx⟩ : ∃ x, l.getD i default = x := ⟨_, rfl⟩
  obtain ⟨y, hy⟩ : ∃ y, l.getD j default = y := ⟨_, rfl⟩
  rw [hx] at a0 a1 a2 a3 a4 ⊢
  rw [hy] at c0 c1 c2 c3 c4 ⊢
  have hin : (i : Int) < (n : Int) := by omega
  have hjn : (j : Int) < (n : Int) := by omega
  have h5 := own_W5 h3 hn i hi y
  have h6 := own_W5 h5 (by simpa using hn) j hj x
  obtain ⟨d0, d1, d2, d3, d4⟩ := own_at h5 (by simpa using hn) j hj
  obtain ⟨z, hz⟩ : ∃ z, (l.set i y).getD j default = z := ⟨_, rfl⟩
  rw [hz] at d0 d1 d2 d3 d4
  have hc6 : Chg (Sq B X) w (W5 (W5 w g (i * 5) y) g (j * 5) x) := ((W5_chg w g (i * 5) y).trans (W5_chg _ g (j * 5) x) fun _ _ h => h).mono fun k _ hk => by rw [hk]; exact ⟨hg, hgX⟩
  have hq6 : Qr b B f X (W5 (W5 w g (i * 5) y) g (j * 5) x) ((l.set i y).set j x) := by
    obtain ⟨v, q1, q2, q3, q4⟩ := h
    have e1 : w.cell? ⟨b, 0, none⟩ = some v := by rw [cell_of_row w b 0 _ _ _ q1]; rfl
    rw [e1] at h1
    obtain rfl := Option.some.inj h1
    have hne := own_ne q2 q1
    have hbg : b ≠ g := fun he => hne (by rw [he]; rfl)
    refine ⟨_, (((W5_chg w g (i * 5) y).trans (W5_chg _ g (j * 5) x) fun _ _ h => h).block b (lt_of_block q1) hbg).trans q1, ?_, by simpa using q3, q4.1, q4.2.1, q4.2.2.1, Nat.lt_of_lt_of_le q4.2.2.2 hc6.size⟩
    have : ((l.set i y).set j x).length = n := by simpa using hn
    rw [this]
    exact h6
  have HC6 := Lib.hid hc6; have HQ6 := Lib.hid hq6
  clear h h3 hn hx hy hsw h5 h6 hz hc6 hq6 hgX
  unfold W5 at d0 d1 d2 d3 d4 HC6 HQ6
  obtain ⟨t1, t2, t3, t4, t5⟩ := z
  obtain ⟨s1, k1, p1, l1, r1⟩ := x
  obtain ⟨s2, k2, p2, l2, r2⟩ := y
  simp only [] at a0 a1 a2 a3 a4 c0 c1 c2 c3 c4 d0 d1 d2 d3 d4 HC6 HQ6
  go_enter Try.func61, Try.ntmps61
  go_wp2
  go_region
  go_wp2
  go_returns
  exact ⟨rfl, HQ6.out.kept ((Chg.refl (fun _ => False) _).drew) (by simp), HC6.out.drew⟩

/-- a queue whose shares lie elsewhere now -/
theorem Qr.turn {w' : World} {v v' : Value} {l' : List Sh} (h1 : w.heap[b]? = some (.cells #[v, .func (.func f) #[] #[]] 53 (0, 0))) (hown : w'.ownsRow B 49 5 v' l'.length (svs l')) (hn : l'.length ≤ 100000) (hb : Far b B X v' w') (hk : w'.heap[b]? = w.heap[b]?) :
    Qr b B f X (w'.setCell ⟨b, 0, none⟩ v') l' := by
  have h2 := hk.trans h1
  refine ⟨v', ?_, ownsRow_setCell_other hown (own_ne hown h2) v', hn, hb.1, hb.2.1, hb.2.2.1, by simpa [World.setCell] using hb.2.2.2⟩
  rw [heap_setCell_same w' b 0 _ _ v' h2]
  rfl

set_option maxHeartbeats 1000000 in
theorem qpop_any (x : Sh) (h : Qr b B f X w (l ++ [x])) :
    Calls Try.prog 59 #[.pointer (some ⟨b, 0, none⟩)] w fun e w' => e = .returned (.iface 49 (sv x)) ∧ Qr b B f X w' l ∧ Chg (Sq B X) w w' := by
  obtain ⟨v, q1, q2, q3, q4⟩ := h
  have h1 : w.cell? ⟨b, 0, none⟩ = some v := by rw [cell_of_row w b 0 _ _ _ q1]; rfl
  have hf := frozen_of_row w b 0 _ _ q1
  obtain ⟨n, hn⟩ : ∃ n, l.length = n := ⟨_, rfl⟩
  have hn1 : (l ++ [x]).length = n + 1 := by simp [hn]
  rw [hn1] at q2 q3
  have hx : (l ++ [x]).getD n default = x := by rw [List.getD_eq_getElem?_getD, List.getElem?_append_right (by omega)]; simp [hn]
  rcases q2.2 with ⟨_, h0⟩ | ⟨g, cap, cur, rfl, hg, hh, hnc, hcm, hsz, htk⟩
  · omega
  obtain ⟨a0, a1, a2, a3, a4⟩ := own_at q2 hn1 n (by omega)
  rw [hx] at a0 a1 a2 a3 a4
  have hpop : w.ownsRow B 49 5 (.slice (some ⟨g, 0, none⟩) n cap) l.length (svs l) := by
    rw [hn]
    rw [svs_append] at q2
    exact ownsRow_pop (by rw [svs_length, hn]) q2
  obtain ⟨s1, kk1, p1, l1, r1⟩ := x
  have hca := Chg.alloc (fun _ => False) w (.cells #[.int .i64 s1, .int .i64 kk1, .int .i64 p1, .int .i64 l1, .bool r1] 49)
  have hnew := heap_alloc_new w (.cells #[.int .i64 s1, .int .i64 kk1, .int .i64 p1, .int .i64 l1, .bool r1] 49)
  have hown2 := hpop.alloc (.cells #[.int .i64 s1, .int .i64 kk1, .int .i64 p1, .int .i64 l1, .bool r1] 49)
  obtain ⟨W1, hW1⟩ : ∃ W1, w.alloc (.cells #[.int .i64 s1, .int .i64 kk1, .int .i64 p1, .int .i64 l1, .bool r1] 49) = W1 := ⟨_, rfl⟩
  rw [hW1] at hca hnew hown2
  have hc1 : Chg (Sq B X) w (W1.setCell ⟨b, 0, none⟩ (.slice (some ⟨g, 0, none⟩) n cap)) := (hca.mono (T := Sq B X) fun _ _ h => h.elim).trans (Chg.setCell W1 ⟨b, 0, none⟩ _) fun k _ hk => by rw [hk]; exact ⟨q4.1, q4.2.1⟩
  have hq1 : Qr b B f X (W1.setCell ⟨b, 0, none⟩ (.slice (some ⟨g, 0, none⟩) n cap)) l := Qr.turn q1 hown2 (by omega) ⟨q4.1, q4.2.1, q4.2.2.1, Nat.lt_of_lt_of_le q4.2.2.2 hca.size⟩ (hca.block b (lt_of_block q1) (by simp))
  have hnew2 : (W1.setCell ⟨b, 0, none⟩ (.slice (some ⟨g, 0, none⟩) n cap)).heap[w.heap.size]? = _ := (heap_setCell_other W1 ⟨b, 0, none⟩ w.heap.size _ (fun e => by have := lt_of_block q1; simp at e; omega)).trans hnew
  have z0 : (W1.setCell ⟨b, 0, none⟩ (.slice (some ⟨g, 0, none⟩) n cap)).cell? ⟨w.heap.size, 0, none⟩ = some (.int .i64 s1) := by rw [cell_of_row _ _ 0 _ _ _ hnew2]; rfl
  have z1 : (W1.setCell ⟨b, 0, none⟩ (.slice (some ⟨g, 0, none⟩) n cap)).cell? ⟨w.heap.size, 1, none⟩ = some (.int .i64 kk1) := by rw [cell_of_row _ _ 1 _ _ _ hnew2]; rfl
  have z2 : (W1.setCell ⟨b, 0, none⟩ (.slice (some ⟨g, 0, none⟩) n cap)).cell? ⟨w.heap.size, 2, none⟩ = some (.int .i64 p1) := by rw [cell_of_row _ _ 2 _ _ _ hnew2]; rfl
  have z3 : (W1.setCell ⟨b, 0, none⟩ (.slice (some ⟨g, 0, none⟩) n cap)).cell? ⟨w.heap.size, 3, none⟩ = some (.int .i64 l1) := by rw [cell_of_row _ _ 3 _ _ _ hnew2]; rfl
  have z4 : (W1.setCell ⟨b, 0, none⟩ (.slice (some ⟨g, 0, none⟩) n cap)).cell? ⟨w.heap.size, 4, none⟩ = some (.bool r1) := by rw [cell_of_row _ _ 4 _ _ _ hnew2]; rfl
  have HC := Lib.hid hc1; have HQ := Lib.hid hq1
  have k1 : W1.cell? ⟨b, 0, none⟩ = some (.slice (some ⟨g, 0, none⟩) (n + 1) cap) := by
    rw [World.cell?_of_block (w := w) (hca.block b (lt_of_block q1) (by simp))]; exact h1
  have k2 : W1.frozen? ⟨b, 0, none⟩ = false := by
    rw [World.frozen?_of_block (w := w) (hca.block b (lt_of_block q1) (by simp))]; exact hf
  have hb : ((n + 1 : Nat) : Int) ≤ 100000 := by omega
  obtain ⟨n1, hn1⟩ : ∃ n1, n + 1 = n1 := ⟨_, rfl⟩
  have e1 : (n1 : Int) - 1 = (n : Int) := by omega
  have e2 : wrap64 (n : Int) = (n : Int) := by unfold wrap64; omega
  have e3 : (n : Int) < (n1 : Int) := by omega
  have e4 : n ≤ cap := Nat.le_of_lt hnc
  rw [hn1] at h1 hb k1
  clear hc1 hq1 hpop hnew hnew2 hown2 hca q1 q2 q3 q4 hx hn htk hsz hcm hnc hh hg
  unfold sv
  simp only [] at a0 a1 a2 a3 a4 ⊢
  have e5 : n < n1 := by omega
  clear hn1
  go_enter Try.func59, Try.ntmps59
  go_wp2
  go_returns
  exact ⟨rfl, HQ.out, HC.out⟩

theorem Try.asShare (v : Value) (w : World) : (Instr.typeAssert (.iface 49 v) 20 49 false).run Try.prog w = .ok v w := by kernel_rfl

/-- append of one share, in a region that draws -/
theorem step_append_share {ops : Array Oper} {o : Oper} {a : Act} {W : World} {K : Act → World → Prop} {Q : Exit → Act → World → Prop} {E : Prop} (hgd : o.guard = none) (s x : Operand)
    (ho : o.op = .call { callee := .builtin .append, args := #[s, x], argTypes := #[38, 38] })
    (B : Nat) (v : Value) (l : List Sh) (y : Sh) (hs : a.eval s = v) (hown : W.ownsRow B 49 5 v l.length (svs l)) (G : Nat) (hx : a.eval x = .slice (some ⟨G, 0, none⟩) 1 1)
    (hblk : W.heap[G]? = some (.cells (svl y).toArray 49 (0, 0))) (hl : l.length ≤ 100000) (hB : B ≤ W.heap.size)
    (n1 : Nat) (hn1 : n1 = l.length + 1) (h : ∀ g cap w', w'.ownsRow B 49 5 (.slice (some ⟨g, 0, none⟩) n1 cap) (l ++ [y]).length (svs (l ++ [y])) → Chg (fun k => some k = v.ownBlock) W w' → (v.ownBlock = some g ∨ g = W.heap.size) → K (a.put o.dst (.slice (some ⟨g, 0, none⟩) n1 cap)) w') :
    if Region.wanted o (yielded ops a.tmps) = true then Oper.wp Try.prog o a W K Q else E := by
  subst hn1
  obtain ⟨i, hi, hz0, hz1, hz2⟩ := info_parts Try.infoShare
  refine step_append_lies W hgd s x 38 ho B 49 i (.agg #[.int .i64 0, .int .i64 0, .int .i64 0, .int .i64 0, .bool false]) 5 40 Try.underlying38 hi hz0 hz1 hz2 rfl (by decide) v l.length (svs l) hs hown ⟨G, 0, none⟩ 1 1 (svl y) hx rfl (World.news_of_block hblk)
    (fun u hu => svs_one [y] u (by simpa [svs] using hu)) (by decide) (by unfold maxLen; omega) (by omega) hB _ rfl fun g cap w' h2 h3 h4 _ => ?_
  exact h g cap w' (by rw [List.length_append, svs_append, List.length_singleton]; simpa [svs] using h2) (Chg.of_grown h3) h4

set_option maxHeartbeats 2000000 in
theorem qpush_any (x : Sh) (h : Qr b B f X w l) (hl : l.length < 100000) :
    Calls Try.prog 60 #[.pointer (some ⟨b, 0, none⟩), .iface 49 (sv x)] w fun e w' => e = .returned (.tuple #[]) ∧ Qr b B f X w' (l ++ [x]) ∧ Chg (Sq B X) w w' := by
  obtain ⟨v, q1, q2, q3, q4⟩ := h
  have h1 : w.cell? ⟨b, 0, none⟩ = some v := by rw [cell_of_row w b 0 _ _ _ q1]; rfl
  have hf := frozen_of_row w b 0 _ _ q1
  have hlt := lt_of_block q1
  have hne := own_ne q2 q1
  obtain ⟨s1, k1, p1, l1, r1⟩ := x
  have ho1 := q2.alloc (.cells #[.int .i64 s1, .int .i64 k1, .int .i64 p1, .int .i64 l1, .bool r1] 49)
  have hblk := heap_alloc_new w (.cells #[.int .i64 s1, .int .i64 k1, .int .i64 p1, .int .i64 l1, .bool r1] 49)
  obtain ⟨n1, hn1⟩ : ∃ n1, n1 = l.length + 1 := ⟨_, rfl⟩
  have HN1 := Lib.hid hn1
  clear hn1
  have hstep : ∀ g cap w', w'.ownsRow B 49 5 (.slice (some ⟨g, 0, none⟩) n1 cap) (l ++ [Sh.mk s1 k1 p1 l1 r1]).length (svs (l ++ [Sh.mk s1 k1 p1 l1 r1])) → Chg (fun k => some k = v.ownBlock) (w.alloc (.cells #[.int .i64 s1, .int .i64 k1, .int .i64 p1, .int .i64 l1, .bool r1] 49)).drew w' → (v.ownBlock = some g ∨ g = (w.alloc (.cells #[.int .i64 s1, .int .i64 k1, .int .i64 p1, .int .i64 l1, .bool r1] 49)).drew.heap.size) →
      w'.cell? ⟨b, 0, none⟩ = some v ∧ w'.frozen? ⟨b, 0, none⟩ = false ∧ Hid (Qr b B f X (w'.setCell ⟨b, 0, none⟩ (.slice (some ⟨g, 0, none⟩) n1 cap)) (l ++ [Sh.mk s1 k1 p1 l1 r1]) ∧ Chg (Sq B X) w (w'.setCell ⟨b, 0, none⟩ (.slice (some ⟨g, 0, none⟩) n1 cap))) := by
    intro g cap w' ho hc hlies
    have hca : Chg (fun k => some k = v.ownBlock) w w' := ((Chg.alloc _ w _).drew).trans hc fun _ _ h => h
    have hb2 := hca.block b hlt (fun he => hne he.symm)
    have hfar : Far b B X (.slice (some ⟨g, 0, none⟩) n1 cap) w' := by
      refine ⟨q4.1, q4.2.1, ?_, Nat.lt_of_lt_of_le q4.2.2.2 hca.size⟩
      have hX := q4.2.2.2
      rcases hlies with h | h
      · intro he
        exact q4.2.2.1 (by rw [h]; exact he)
      · intro he
        simp only [Value.ownBlock, Option.some.injEq] at he
        rw [h] at he
        simp [World.drew] at he
        omega
    refine ⟨?_, ?_, Lib.hid ⟨Qr.turn q1 ho (by simp; omega) hfar hb2, ?_⟩⟩
    · rw [World.cell?_of_block (w := w) hb2]; exact h1
    · rw [World.frozen?_of_block (w := w) hb2]; exact hf
    · refine (hca.mono (T := Sq B X) fun k _ hk => ⟨(q2.lt k hk.symm).1, fun he => q4.2.2.1 (by rw [← hk, he])⟩).trans (Chg.setCell w' ⟨b, 0, none⟩ _) fun k _ hk => by rw [hk]; exact ⟨q4.1, q4.2.1⟩
  have hBw : B ≤ w.heap.size := by have := q4.1; omega
  have hkeep : ∀ o, (w.alloc o).cell? ⟨b, 0, none⟩ = some v := fun o => by
    have : (w.alloc o).heap[b]? = w.heap[b]? := Below.heap_alloc w o b hlt
    rw [World.cell?_of_block (w := w) this]; exact h1
  have HST := Lib.hid hstep; have HO := Lib.hid ho1; have HB := Lib.hid hblk; have HBW := Lib.hid (show B ≤ (w.alloc (.cells #[.int .i64 s1, .int .i64 k1, .int .i64 p1, .int .i64 l1, .bool r1] 49)).drew.heap.size by simp [World.drew]; omega); have HL := Lib.hid (Nat.le_of_lt hl)
  clear hstep ho1 hblk hBw q1 q2 q3 q4 hlt hne hl
  unfold sv
  simp only []
  have has := Try.asShare
  go_enter Try.func60, Try.ntmps60
  go_wp2
  go_region_law ((refine step_append_share rfl (.tmp 8) (.tmp 11) rfl B v l (Sh.mk s1 k1 p1 l1 r1) rfl HO.out.drew w.heap.size rfl HB.out HL.out HBW.out n1 HN1.out ?_; intro g cap w2 ho2 hc2 hl2; obtain ⟨e1, e2, HQQ⟩ := HST.out _ _ w2 ho2 hc2 hl2; clear ho2 hc2 hl2))
  all_goals
    go_wp2
    go_returns
    exact ⟨rfl, HQQ.out.1, HQQ.out.2⟩

end

end Go.Proofs.Ytnijfkbnggdbnaa
