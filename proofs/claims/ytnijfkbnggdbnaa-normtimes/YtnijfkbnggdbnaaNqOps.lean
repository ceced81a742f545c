/- norm's queue is a heap; what its add and next do. THIS SPEAKS OF THE PROGRAM'S OWN TEXT. -/
import Derived.Test.YtnijfkbnggdbnaaNqSwap
namespace Go.Proofs.Ytnijfkbnggdbnaa
open Go.RowKit

section
variable {b B f X : Nat} {w : World} {l : List Sh}

theorem methLen (a : Addr) (w : World) : (method 183 50 (.pointer (some a)) "Len").run Try.prog w = .ok (57, .pointer (some a)) w := by kernel_rfl
theorem methLess (a : Addr) (w : World) : (method 183 50 (.pointer (some a)) "Less").run Try.prog w = .ok (58, .pointer (some a)) w := by kernel_rfl
theorem methSwap (a : Addr) (w : World) : (method 183 50 (.pointer (some a)) "Swap").run Try.prog w = .ok (61, .pointer (some a)) w := by kernel_rfl
theorem methPush (a : Addr) (w : World) : (method 183 50 (.pointer (some a)) "Push").run Try.prog w = .ok (60, .pointer (some a)) w := by kernel_rfl
theorem methPop (a : Addr) (w : World) : (method 183 50 (.pointer (some a)) "Pop").run Try.prog w = .ok (59, .pointer (some a)) w := by kernel_rfl

/-- f is one of norm's two orders, and it is lt -/
def IsOrd (f : Nat) (lt : Sh → Sh → Bool) : Prop := (f = 31 ∨ f = 34) ∧ (∀ a c w, Calls Try.prog f #[sv a, sv c] w fun e w' => e = .returned (.bool (lt a c)) ∧ Chg (fun _ => False) w w') ∧ TotalOrd (noLess lt)
theorem isOrd_more : IsOrd 31 moreB := ⟨.inl rfl, nmore_any, moreB_ord⟩
theorem isOrd_great : IsOrd 34 greatB := ⟨.inr rfl, ngreat_any, greatB_ord⟩

theorem queue_hp {lt : Sh → Sh → Bool} (ho : IsOrd f lt) : HpA (.pointer (some ⟨b, 0, none⟩)) (Qr b B f X) lt (Sq B X) where
  len := fun w l h => ⟨_, methLen _ w, qlen_any h⟩
  less := fun w l h => ⟨_, methLess _ w, fun i j hi hj => qless_any ho.1 ho.2.1 h i j hi hj⟩
  swap := fun w l h => ⟨_, methSwap _ w, fun i j hi hj => qswap_any h i j hi hj⟩
  small := fun w l h => h.small
theorem queue_pushes (x : Sh) : HpAPushes (.pointer (some ⟨b, 0, none⟩)) (Qr b B f X) (Sq B X) (fun s => .iface 49 (sv s)) x := fun w l h hl => ⟨_, methPush _ w, qpush_any x h hl⟩
theorem queue_pops : HpAPops (.pointer (some ⟨b, 0, none⟩)) (Qr b B f X) (Sq B X) (fun s => .iface 49 (sv s)) := fun w l x h => ⟨_, methPop _ w, qpop_any x h⟩

/-- the queue that holds the shares l, in a heap's order -/
def Qh (b B f : Nat) (lt : Sh → Sh → Bool) (w : World) (l : List Sh) : Prop := (∃ v, w.heap[b]? = some (.cells #[v, .func (.func f) #[] #[]] 53 (0, 0)) ∧ w.ownsRow B 49 5 v l.length (svs l) ∧ l.length ≤ 100000 ∧ B ≤ b) ∧ Heap (noLess lt) l l.length
theorem Qh.of {lt : Sh → Sh → Bool} (h : Qr b B f X w l) (hh : Heap (noLess lt) l l.length) : Qh b B f lt w l := by
  obtain ⟨v, h1, h2, h3, h4⟩ := h
  exact ⟨⟨v, h1, h2, h3, h4.1⟩, hh⟩
theorem Qh.far {lt : Sh → Sh → Bool} (h : Qh b B f lt w l) (o : Obj) : Qr b B f w.heap.size (w.alloc o) l := by
  obtain ⟨⟨v, h1, h2, h3, h4⟩, _⟩ := h
  refine ⟨v, (Below.heap_alloc w o b (lt_of_block h1)).trans h1, h2.alloc o, h3, h4, ?_, ?_, by simp⟩
  · have := lt_of_block h1; omega
  · intro he; have := (h2.lt _ he).2; omega
theorem Qh.kept {S : Nat → Prop} {w' : World} {lt : Sh → Sh → Bool} (h : Qh b B f lt w l) (hc : Chg S w w') (hS : ∀ k, B ≤ k → k < w.heap.size → ¬ S k) : Qh b B f lt w' l := by
  obtain ⟨⟨v, h1, h2, h3, h4⟩, hh⟩ := h
  refine ⟨⟨v, (hc.block b (lt_of_block h1) (hS b h4 (lt_of_block h1))).trans h1, hc.own h2 ?_, h3, h4⟩, hh⟩
  intro k hk
  exact hS k (h2.lt k hk).1 (h2.lt k hk).2
theorem Qh.le {lt : Sh → Sh → Bool} (h : Qh b B f lt w l) : B ≤ b ∧ b < w.heap.size := by obtain ⟨⟨v, h1, h2, h3, h4⟩, hh⟩ := h; exact ⟨h4, lt_of_block h1⟩

set_option maxHeartbeats 1000000 in
theorem qadd_any {lt : Sh → Sh → Bool} (ho : IsOrd f lt) (x : Sh) (h : Qh b B f lt w l) (hl : l.length < 100000) :
    Calls Try.prog 32 #[.pointer (some ⟨b, 0, none⟩), sv x] w fun e w' => e = .returned (.tuple #[]) ∧ ∃ l', Qh b B f lt w' l' ∧ l'.Perm (x :: l) ∧ Chg (fun k => B ≤ k) w w' := by
  have hp : ∀ o, Calls Try.prog 36 #[.iface 50 (.pointer (some ⟨b, 0, none⟩)), .iface 49 (sv x)] (w.alloc o) fun e w' => e = .returned (.tuple #[]) ∧ ∃ l', Qh b B f lt w' l' ∧ l'.Perm (x :: l) ∧ Chg (fun k => B ≤ k) w w' := by
    intro o
    refine (hpA_push ho.2.2 (queue_hp ho) x (queue_pushes x) (w.alloc o) l (h.far o) hl h.2).mono ?_
    rintro e w' ⟨rfl, l', h1, h2, h3, h4⟩
    exact ⟨rfl, l', Qh.of h1 h3, h2, (Chg.alloc (fun k => B ≤ k) w o).trans h4 fun _ _ hk => hk.1⟩
  have HP := Lib.hid hp
  clear hp h hl ho
  obtain ⟨s1, k1, p1, l1, r1⟩ := x
  unfold sv at HP ⊢
  simp only [] at HP ⊢
  go_enter Try.func32, Try.ntmps32
  go_wp2_with fail
  refine (HP.out _).mono ?_
  rintro e w2 ⟨rfl, hh⟩
  have HH := Lib.hid hh
  clear hh HP
  go_wp2
  go_returns
  exact ⟨rfl, HH.out⟩

theorem zeroShare (W : World) : (zeroValue 49).run Try.prog W = .ok (.agg #[.int .i64 0, .int .i64 0, .int .i64 0, .int .i64 0, .bool false]) W := by kernel_rfl

set_option maxHeartbeats 1000000 in
theorem qnext_any {lt : Sh → Sh → Bool} (ho : IsOrd f lt) (h : Qh b B f lt w l) (hl : 0 < l.length) :
    Calls Try.prog 33 #[.pointer (some ⟨b, 0, none⟩)] w fun e w' => ∃ x l', e = .returned (sv x) ∧ Qh b B f lt w' l' ∧ l.Perm (x :: l') ∧ (∀ y ∈ l', noLess lt x y) ∧ Chg (fun k => B ≤ k) w w' := by
  have hp : Calls Try.prog 37 #[.iface 50 (.pointer (some ⟨b, 0, none⟩))] (w.alloc (.cells #[.int .i64 0, .int .i64 0, .int .i64 0, .int .i64 0, .bool false] 49)) fun e w' => ∃ x l', e = .returned (.iface 49 (sv x)) ∧ (Qr b B f w.heap.size w' l' ∧ Heap (noLess lt) l' l'.length) ∧ l.Perm (x :: l') ∧ (∀ y ∈ l', noLess lt x y) ∧ Chg (fun k => B ≤ k) w w' ∧
      w'.heap[w.heap.size]? = some (.cells #[.int .i64 0, .int .i64 0, .int .i64 0, .int .i64 0, .bool false] 49 (0, 0)) ∧ B ≤ w.heap.size := by
    refine (hpA_pop ho.2.2 (queue_hp ho) queue_pops _ l (h.far _) hl h.2).mono ?_
    rintro e w' ⟨x, l', rfl, h1, h2, h3, h4, h5⟩
    refine ⟨x, l', rfl, ⟨h1, h4⟩, h2, h3, (Chg.alloc (fun k => B ≤ k) w _).trans h5 fun _ _ hk => hk.1, ?_, ?_⟩
    · exact (h5.block w.heap.size (by simp) (fun hk => hk.2 rfl)).trans (heap_alloc_new w _)
    · have := h.le; omega
  have HP := Lib.hid hp
  have has := Try.asShare
  have hz := zeroShare
  clear hp h hl ho
  go_enter Try.func33, Try.ntmps33
  go_wp2_with fail
  refine (HP.out).mono ?_
  rintro e w2 ⟨x, l', rfl, h1, h2, h3, h4, h5, h6⟩
  obtain ⟨s1, k1, p1, l1, r1⟩ := x
  obtain ⟨N, hN⟩ : ∃ N, w.heap.size = N := ⟨_, rfl⟩
  rw [hN] at h1 h5 h6 ⊢
  have z0 : w2.cell? ⟨N, 0, none⟩ = some (.int .i64 0) := by rw [cell_of_row _ _ 0 _ _ _ h5]; rfl
  have z1 : w2.cell? ⟨N, 1, none⟩ = some (.int .i64 0) := by rw [cell_of_row _ _ 1 _ _ _ h5]; rfl
  have z2 : w2.cell? ⟨N, 2, none⟩ = some (.int .i64 0) := by rw [cell_of_row _ _ 2 _ _ _ h5]; rfl
  have z3 : w2.cell? ⟨N, 3, none⟩ = some (.int .i64 0) := by rw [cell_of_row _ _ 3 _ _ _ h5]; rfl
  have z4 : w2.cell? ⟨N, 4, none⟩ = some (.bool false) := by rw [cell_of_row _ _ 4 _ _ _ h5]; rfl
  have f0 := frozen_of_row w2 N 0 _ _ h5
  have f1 := frozen_of_row w2 N 1 _ _ h5
  have f2 := frozen_of_row w2 N 2 _ _ h5
  have f3 := frozen_of_row w2 N 3 _ _ h5
  have f4 := frozen_of_row w2 N 4 _ _ h5
  have hb5 : (W5 w2 N 0 (Sh.mk s1 k1 p1 l1 r1)).heap[N]? = some (.cells #[.int .i64 s1, .int .i64 k1, .int .i64 p1, .int .i64 l1, .bool r1] 49 (0, 0)) := by
    unfold W5
    rw [heap_setCell_same _ N (0 + 4) _ _ _ (heap_setCell_same _ N (0 + 3) _ _ _ (heap_setCell_same _ N (0 + 2) _ _ _ (heap_setCell_same _ N (0 + 1) _ _ _ (heap_setCell_same w2 N 0 _ _ _ h5))))]
    rfl
  have hc5 := W5_chg w2 N 0 (Sh.mk s1 k1 p1 l1 r1)
  have hq5 := h1.1.kept hc5 (fun k hk he => hk.2 he)
  have HF := Lib.hid (show Qh b B f lt (W5 w2 N 0 (Sh.mk s1 k1 p1 l1 r1)) l' ∧ l.Perm (Sh.mk s1 k1 p1 l1 r1 :: l') ∧ (∀ y ∈ l', noLess lt (Sh.mk s1 k1 p1 l1 r1) y) ∧ Chg (fun k => B ≤ k) w (W5 w2 N 0 (Sh.mk s1 k1 p1 l1 r1)) from
    ⟨Qh.of hq5 h1.2, h2, h3, h4.trans hc5 fun k _ hk => by rw [hk]; exact h6⟩)
  have y0 : (w2.setCell ⟨N, 0, none⟩ (.int .i64 s1)).cell? ⟨N, 0, none⟩ = some (.int .i64 s1) := by rw [cell_of_row _ _ 0 _ _ _ (heap_setCell_same w2 N 0 _ _ _ h5)]; rfl
  have y1 : ((w2.setCell ⟨N, 0, none⟩ (.int .i64 s1)).setCell ⟨N, 1, none⟩ (.int .i64 k1)).cell? ⟨N, 1, none⟩ = some (.int .i64 k1) := by rw [cell_of_row _ _ 1 _ _ _ (heap_setCell_same _ N 1 _ _ _ (heap_setCell_same w2 N 0 _ _ _ h5))]; rfl
  have y2 : (((w2.setCell ⟨N, 0, none⟩ (.int .i64 s1)).setCell ⟨N, 1, none⟩ (.int .i64 k1)).setCell ⟨N, 2, none⟩ (.int .i64 p1)).cell? ⟨N, 2, none⟩ = some (.int .i64 p1) := by rw [cell_of_row _ _ 2 _ _ _ (heap_setCell_same _ N 2 _ _ _ (heap_setCell_same _ N 1 _ _ _ (heap_setCell_same w2 N 0 _ _ _ h5)))]; rfl
  have y3 : ((((w2.setCell ⟨N, 0, none⟩ (.int .i64 s1)).setCell ⟨N, 1, none⟩ (.int .i64 k1)).setCell ⟨N, 2, none⟩ (.int .i64 p1)).setCell ⟨N, 3, none⟩ (.int .i64 l1)).cell? ⟨N, 3, none⟩ = some (.int .i64 l1) := by rw [cell_of_row _ _ 3 _ _ _ (heap_setCell_same _ N 3 _ _ _ (heap_setCell_same _ N 2 _ _ _ (heap_setCell_same _ N 1 _ _ _ (heap_setCell_same w2 N 0 _ _ _ h5))))]; rfl
  have y4 : (((((w2.setCell ⟨N, 0, none⟩ (.int .i64 s1)).setCell ⟨N, 1, none⟩ (.int .i64 k1)).setCell ⟨N, 2, none⟩ (.int .i64 p1)).setCell ⟨N, 3, none⟩ (.int .i64 l1)).setCell ⟨N, 4, none⟩ (.bool r1)).cell? ⟨N, 4, none⟩ = some (.bool r1) := by rw [cell_of_row _ _ 4 _ _ _ (heap_setCell_same _ N 4 _ _ _ (heap_setCell_same _ N 3 _ _ _ (heap_setCell_same _ N 2 _ _ _ (heap_setCell_same _ N 1 _ _ _ (heap_setCell_same w2 N 0 _ _ _ h5)))))]; rfl
  clear h1 h2 h3 h4 h5 h6 hN hb5 hc5 hq5 HP
  unfold W5 at HF
  simp only [Nat.zero_add] at HF
  unfold sv
  simp only []
  go_wp2
  refine bodyPost_ret (v := sv (Sh.mk s1 k1 p1 l1 r1)) (by simp [results, Try.results33, go_sem, y0, y1, y2, y3, y4]; try rfl) rfl ?_
  exact ⟨Sh.mk s1 k1 p1 l1 r1, l', rfl, HF.out⟩

end

end Go.Proofs.Ytnijfkbnggdbnaa
