/- LanesLists: one list for all is the same list for each context. -/
import Derived.Test.YtokeoebhmjefoaaLnBack
namespace Go.Proofs.Ytokeoebhmjefoaa
open Go.RowKit

/-- the same list for each context -/
def allM (m : Md) (q : List Int) : Md := ⟨m.log, false, List.replicate 256 q⟩
theorem all_right {m : Md} {q : List Int} (h : m.right) (ho : m.one = true) (hc : m.cs = [q]) : (allM m q).right := by
  refine ⟨h.1, by unfold allM; rw [if_neg (by simp)]; exact List.length_replicate, fun l hl => ?_⟩
  have : l = q := List.eq_of_mem_replicate hl
  subst this
  rcases h.2.2 l (by rw [hc]; simp) with ⟨_, h1⟩ | h1
  · rw [ho] at h1; simp at h1
  · exact .inr h1
theorem all_at {m : Md} {q : List Int} (h : m.right) (ho : m.one = true) (hc : m.cs = [q]) (c : Int) : m.atL c = (allM m q).atL c := by
  by_cases hr : 0 ≤ c ∧ c ≤ 255
  · unfold Md.atL
    rw [if_pos (show m.right ∧ 0 ≤ c ∧ c ≤ 255 from ⟨h, hr⟩), if_pos (show (allM m q).right ∧ 0 ≤ c ∧ c ≤ 255 from ⟨all_right h ho hc, hr⟩), if_pos ho, hc]
    have h1 : (allM m q).one = false := rfl
    rw [if_neg (by rw [h1]; simp)]
    have h2 : (allM m q).cs = List.replicate 256 q := rfl
    rw [h2, List.getD_eq_getElem?_getD, List.getD_eq_getElem?_getD, List.getElem?_replicate, if_pos (by omega)]
    rfl
  · rw [atL_not fun hh => hr hh.2, atL_not fun hh => hr hh.2]
theorem all_fits {m : Md} {q : List Int} {xs : List Nat} (h : m.fits xs) (ho : m.one = true) (hc : m.cs = [q]) : (allM m q).fits xs := by
  refine ⟨all_right h.1 ho hc, fun i hi => ?_⟩
  have := h.2 i hi
  unfold Md.fitAt at this ⊢
  rw [all_at h.1 ho hc] at this
  exact this
/-- the first c are laid -/
def fillV (qv : Value) (c : Nat) : List Value := List.replicate c qv ++ List.replicate (256 - c) (.slice none 0 0)
theorem fillV_get (qv : Value) (c i : Nat) : (fillV qv c)[i]? = if i < c then some qv else if i < c + (256 - c) then some (.slice none 0 0) else none := by
  unfold fillV
  rw [List.getElem?_append]
  simp only [List.length_replicate, List.getElem?_replicate]
  by_cases h : i < c
  · rw [if_pos h, if_pos h, if_pos h]
  · rw [if_neg h, if_neg h]
    by_cases h2 : i < c + (256 - c)
    · rw [if_pos h2, if_pos (by omega)]
    · rw [if_neg h2, if_neg (by omega)]
theorem fillV_set (qv : Value) (c : Nat) (h : c < 256) : (fillV qv c).set c qv = fillV qv (c + 1) := by
  have hl : (fillV qv c).length = 256 := by unfold fillV; rw [List.length_append, List.length_replicate, List.length_replicate]; omega
  apply List.ext_getElem?
  intro i
  by_cases hi : i = c
  · subst hi
    rw [List.getElem?_set_self (by omega), fillV_get, if_pos (by omega)]
  · rw [List.getElem?_set_ne (by omega), fillV_get, fillV_get]
    by_cases h1 : i < c
    · rw [if_pos h1, if_pos (show i < c + 1 by omega)]
    · rw [if_neg h1, if_neg (show ¬ i < c + 1 by omega), show c + (256 - c) = 256 by omega, show c + 1 + (256 - (c + 1)) = 256 by omega]
theorem fillV_len (qv : Value) (c : Nat) (h : c ≤ 256) : (fillV qv c).length = 256 := by unfold fillV; rw [List.length_append, List.length_replicate, List.length_replicate]; omega
theorem fillV_zero (qv : Value) : fillV qv 0 = nils := by unfold fillV nils; rw [List.replicate_zero, List.nil_append]
/-- behind the making of the empty lists -/
def LnAt (W2 : World) (log : Int) (s5 : Value) (wx : World) : Prop := ∃ G G5, s5 = .pointer (some ⟨G5, 0, none⟩) ∧ Mb wx G5 log false (.slice (some ⟨G, 0, none⟩) 256 256) ∧ RowV wx G nils ∧ W2.heap.size ≤ G ∧ W2.heap.size ≤ G5 ∧ Chg (fun _ => False) W2 wx

theorem lnA {W : World} {Z : Array Value} {log : Int} (hZ : Z.toList = nils) :
    LnAt W log (.pointer (some ⟨W.heap.size + 1, 0, none⟩)) ((W.alloc (.cells Z 41)).alloc (.cells #[.int .i64 log, .bool false, .slice (some ⟨W.heap.size, 0, none⟩) 256 256] 24)).drew := by
  have c1 := Chg.alloc (fun _ => False) W (.cells Z 41)
  have c2 := Chg.alloc (fun _ => False) (W.alloc (.cells Z 41)) (.cells #[.int .i64 log, .bool false, .slice (some ⟨W.heap.size, 0, none⟩) 256 256] 24)
  exact ⟨W.heap.size, W.heap.size + 1, rfl, heap_alloc2_new W _ _, (rowZ hZ W).kept c2.drew (by simp), Nat.le_refl _, by omega, (c1.trans c2 fun _ _ h => h).drew⟩
theorem lnB {W : World} {Z : Array Value} {log : Int} (hZ : Z.toList = nils) :
    LnAt W log (.pointer (some ⟨W.heap.size, 0, none⟩)) ((W.alloc (.cells #[.int .i64 log, .bool false, .slice (some ⟨W.heap.size + 1, 0, none⟩) 256 256] 24)).alloc (.cells Z 41)).drew := by
  have c1 := Chg.alloc (fun _ => False) W (.cells #[.int .i64 log, .bool false, .slice (some ⟨W.heap.size + 1, 0, none⟩) 256 256] 24)
  have c2 := Chg.alloc (fun _ => False) (W.alloc (.cells #[.int .i64 log, .bool false, .slice (some ⟨W.heap.size + 1, 0, none⟩) 256 256] 24)) (.cells Z 41)
  have hr := rowZ hZ (W.alloc (.cells #[.int .i64 log, .bool false, .slice (some ⟨W.heap.size + 1, 0, none⟩) 256 256] 24))
  rw [show (W.alloc (.cells #[.int .i64 log, .bool false, .slice (some ⟨W.heap.size + 1, 0, none⟩) 256 256] 24)).heap.size = W.heap.size + 1 by simp] at hr
  exact ⟨W.heap.size + 1, W.heap.size, rfl, heap_alloc2_old W _ _, hr, by omega, Nat.le_refl _, (c1.trans c2 fun _ _ h => h).drew⟩

set_option maxRecDepth 20000 in
set_option maxHeartbeats 8000000 in
theorem lnlists_any (v : Value) (xs : List Nat) (w : World) (hb : RdB w v xs) (hx : ∀ x ∈ xs, x < 256) :
    Calls Try.prog 8 #[v] w fun e w' => Says w e w' := by
  have HAW := Lib.hid (awake17_any w)
  obtain ⟨ab, pb, rfl⟩ := hb.form
  have HB0 := Lib.hid hb; have HX := Lib.hid hx
  obtain ⟨N, hN⟩ : ∃ N, xs.length = N := ⟨_, rfl⟩
  rw [hN] at HB0 ⊢
  have HN := Lib.hid hN
  clear hb hx hN
  go_enter Try.func8, Try.ntmps8
  go_wp2_with fail
  refine HAW.out.mono ?_
  rintro e w1 ⟨rfl, hc1⟩
  have HC1 := Lib.hid hc1
  clear hc1 HAW
  by_cases hbig : 60 < N
  · have d1 : decide (60 < (N : Int)) = true := decide_eq_true (by omega)
    go_wp2
    go_ret
    exact ⟨rfl, HC1.out⟩
  have d1 : decide (60 < (N : Int)) = false := decide_eq_false (by omega)
  by_cases h0 : N = 0
  · subst h0
    go_wp2
    go_ret
    exact ⟨rfl, HC1.out⟩
  have hne0 : ((N : Int) == 0) = false := by simp; omega
  have hNI : (N : Int) ≤ 60 := by omega
  have hof := r16of_any (.slice ab N pb) xs true w1 (HB0.out.kept HC1.out (by simp)) HX.out (by rw [HN.out]; omega) (by rw [HN.out]; omega)
  have hfit := ofM_fits xs true HX.out (by rw [HN.out]; omega) (by rw [HN.out]; omega)
  have hlg := ofM_log xs true HX.out (by rw [HN.out]; omega) (by rw [HN.out]; omega)
  obtain ⟨M, hM⟩ : ∃ M, ofM xs true = M := ⟨_, rfl⟩
  rw [hM] at hof hfit hlg
  have hok : lnOk M xs := ⟨hfit, by rw [HN.out]; omega⟩
  have HOF := Lib.hid hof; have HOK := Lib.hid hok; have HM := Lib.hid hM
  have hf64 := hfit.1.fit64
  have HLE := Lib.hid (show ∀ W cv u ys, RdLL W cv M.cs → RdB W u ys → (∀ y ∈ ys, y < 256) → ys.length < 1000000 → Calls Try.prog 11 #[mdv M cv, u] W fun e w' => ∃ p, e = .returned (.tuple #[p, .int .i64 (lnErr M ys)]) ∧ RdB w' p (lnEnc M ys) ∧ RoomOk p ∧ Chg (fun _ => False) W w' from fun W cv u ys hW hb hy hl => lencode_any _ _ M ys W ⟨cv, rfl, hW⟩ hf64 hb hy hl)
  have HLD := Lib.hid (show ∀ W cv u ys (k : Int), RdLL W cv M.cs → RdB W u ys → (∀ y ∈ ys, y < 256) → ys.length < 1000000 → (0 ≤ k ∧ k ≤ 1000000) → Calls Try.prog 16 #[mdv M cv, u, .int .i64 k] W fun e w' => ∃ y, e = .returned (.tuple #[y, .int .i64 ((errOf (lnRes M ys k) : Nat) : Int)]) ∧ RdB w' y (outOf (lnRes M ys k)) ∧ Chg (fun _ => False) W w' from fun W cv u ys k hW hb hy hl hk => ldecode_any _ _ M ys k W ⟨cv, rfl, hW⟩ hf64 hb hy hl (by omega))
  have HLB := Lib.hid (show ∀ W cv u ys, RdLL W cv M.cs → RdB W u ys → (∀ y ∈ ys, y < 256) → ys.length < 1000000 → Calls Try.prog 15 #[mdv M cv, u] W fun e w' => e = .returned (.int .i64 ((lnBits M ys : Nat) : Int)) ∧ Chg (fun _ => False) W w' from fun W cv u ys hW hb hy hl => lbits_any _ _ M ys W ⟨cv, rfl, hW⟩ hf64 hb hy hl)
  have hmdv : ∀ cv, mdv M cv = .agg #[.int .i64 M.log, .bool M.one, cv] := fun cv => rfl
  have hz : M.one = true ∧ ∃ q, M.cs = [q] := by rw [← hM]; unfold ofM; rw [if_pos rfl]; exact ⟨rfl, _, rfl⟩
  obtain ⟨hz1, q, hz2⟩ := hz
  have hafit := all_fits hfit hz1 hz2
  have haok : lnOk (allM M q) xs := ⟨hafit, by rw [HN.out]; omega⟩
  have hpay : payL M xs = payL (allM M q) xs := payL_congr xs rfl (all_at hfit.1 hz1 hz2)
  have haenc : lnEnc (allM M q) xs = lnEnc M xs := by unfold lnEnc; rw [if_pos hok, if_pos haok, hpay]
  have haerr : lnErr (allM M q) xs = 0 := by unfold lnErr; rw [if_pos haok]
  have habit : lnBits (allM M q) xs = lnBits M xs := by unfold lnBits; rw [if_pos hok, if_pos haok, hpay]
  have haback := ln_back haok HX.out
  rw [haenc] at haback
  have ha64 := hafit.1.fit64
  have HAE := Lib.hid (show ∀ W cv u, RdLL W cv (List.replicate 256 q) → RdB W u xs → Calls Try.prog 11 #[.agg #[.int .i64 M.log, .bool false, cv], u] W fun e w' => ∃ p, e = .returned (.tuple #[p, .int .i64 0]) ∧ RdB w' p (lnEnc M xs) ∧ RoomOk p ∧ Chg (fun _ => False) W w' from fun W cv u hW hb => by
    have := lencode_any (mdv (allM M q) cv) u (allM M q) xs W ⟨cv, rfl, hW⟩ ha64 hb HX.out (by rw [HN.out]; omega)
    rw [haerr, haenc] at this
    exact this)
  have HAD := Lib.hid (show ∀ W cv u, RdLL W cv (List.replicate 256 q) → RdB W u (lnEnc M xs) → Calls Try.prog 16 #[.agg #[.int .i64 M.log, .bool false, cv], u, .int .i64 (N : Int)] W fun e w' => ∃ y, e = .returned (.tuple #[y, .int .i64 0]) ∧ RdB w' y xs ∧ Chg (fun _ => False) W w' from fun W cv u hW hb => by
    obtain ⟨hpl, hpx⟩ := enc_len60 hok HX.out (by rw [HN.out]; omega)
    have := ldecode_any (mdv (allM M q) cv) u (allM M q) (lnEnc M xs) (xs.length : Int) W ⟨cv, rfl, hW⟩ ha64 hb hpx hpl (by rw [HN.out]; omega)
    rw [haback, HN.out] at this
    exact this)
  have HAB := Lib.hid (show ∀ W cv u, RdLL W cv (List.replicate 256 q) → RdB W u xs → Calls Try.prog 15 #[.agg #[.int .i64 M.log, .bool false, cv], u] W fun e w' => e = .returned (.int .i64 ((lnBits M xs : Nat) : Int)) ∧ Chg (fun _ => False) W w' from fun W cv u hW hb => by
    have := lbits_any (mdv (allM M q) cv) u (allM M q) xs W ⟨cv, rfl, hW⟩ ha64 hb HX.out (by rw [HN.out]; omega)
    rw [habit] at this
    exact this)
  have HPX := Lib.hid (enc_len60 hok HX.out (by rw [HN.out]; omega)).2
  have HER := Lib.hid (show lnErr M xs = 0 from by unfold lnErr; rw [if_pos hok])
  have HZ2 := Lib.hid hz2
  clear hafit haok hpay haenc haerr habit haback ha64 hz1
  obtain ⟨log, hlog⟩ : ∃ log, M.log = log := ⟨_, rfl⟩
  obtain ⟨on, hon⟩ : ∃ on, M.one = on := ⟨_, rfl⟩
  obtain ⟨nc, hnc⟩ : ∃ nc, M.cs.length = nc := ⟨_, rfl⟩
  simp only [hmdv, hlog, hon] at HLE HLD HLB HAE HAD HAB
  rw [hlog] at hlg
  obtain ⟨hlg0, hlg1⟩ := hlg
  have HLOG := Lib.hid hlog
  clear hof hfit hok hM hf64
  go_wp2_with fail
  refine HOF.out.mono ?_
  rintro e w2 ⟨u, rfl, hm2, hc2⟩
  obtain ⟨cv, rfl, hl2⟩ := hm2
  obtain ⟨am, pm, rfl⟩ := hl2.form
  rw [hmdv, hlog, hon, hnc]
  rw [hnc] at hl2
  have hca := Chg.alloc (fun _ => False) w2 (.cells #[.int .i64 log, .bool on, .slice am nc pm] 24)
  have hmb : Mb _ _ log on (.slice am nc pm) := heap_alloc_new w2 (.cells #[.int .i64 log, .bool on, .slice am nc pm] 24)
  obtain ⟨W2, hW2⟩ : ∃ W2, w2.alloc (.cells #[.int .i64 log, .bool on, .slice am nc pm] 24) = W2 := ⟨_, rfl⟩
  rw [hW2] at hca hmb
  obtain ⟨gm, hgm⟩ : ∃ gm, w2.heap.size = gm := ⟨_, rfl⟩
  rw [hgm] at hmb
  have HK := Lib.hid (show ∀ W W' : World, (Mb W gm log on (.slice am nc pm) ∧ RdLL W (.slice am nc pm) M.cs ∧ RdB W (.slice ab N pb) xs ∧ Chg (fun _ => False) w W) → Chg (fun _ => False) W W' → (Mb W' gm log on (.slice am nc pm) ∧ RdLL W' (.slice am nc pm) M.cs ∧ RdB W' (.slice ab N pb) xs ∧ Chg (fun _ => False) w W') from fun W W' ⟨h1, h2, h3, h4⟩ hc => ⟨h1.kept hc (by simp), h2.kept hc, h3.kept hc (by simp), h4.trans hc fun _ _ h => h⟩)
  have HS2 := Lib.hid (show Mb W2 gm log on (.slice am nc pm) ∧ RdLL W2 (.slice am nc pm) M.cs ∧ RdB W2 (.slice ab N pb) xs ∧ Chg (fun _ => False) w W2 from by
    have hcw := (HC1.out.trans hc2 fun _ _ h => h).trans hca fun _ _ h => h
    exact ⟨hmb, hl2.kept hca, HB0.out.kept hcw (by simp), hcw⟩)
  obtain ⟨b0, b1, b2⟩ := HS2.out.1.cells
  clear hl2 hc2 hca hmb hmdv hlog hon hnc HOF HC1 HB0
  have hz2 := HZ2.out
  have hll0 := HS2.out.2.1
  rw [hz2] at hll0
  have hn1 : nc = 1 := by obtain ⟨_, _, he⟩ := hll0.form; simp at he; exact he.2.1
  subst hn1
  obtain ⟨gc, oc, qv, rfl, hqc, hqr⟩ := hll0.room 0 (by simp)
  rw [List.getD_cons_zero] at hqr
  obtain ⟨aq, cq, rfl⟩ := hqr.1.form
  obtain ⟨nq, hnq⟩ : ∃ nq, q.length = nq := ⟨_, rfl⟩
  rw [hnq] at hqc hqr
  have HQR := Lib.hid hqr; have HQC := Lib.hid hqc
  obtain ⟨Z, hZ, hmk⟩ := makeLists
  have HZ := Lib.hid hZ
  clear hZ hll0 hqr hqc hnq hz2 HZ2 HLD
  go_wp2
  go_cut [5] from 25 to 28 (fun s5 wx => LnAt W2 log s5 wx)
  case first =>
    have hgl := HS2.out.1.lt
    have x1 : ∀ o, (W2.alloc o).cell? ⟨gm, 0, none⟩ = some (.int .i64 log) := fun o => (HS2.out.1.kept (Chg.alloc (fun _ => False) W2 o) (by simp)).cells.1
    have x2 : ∀ o p, ((W2.alloc o).alloc p).cell? ⟨gm, 0, none⟩ = some (.int .i64 log) := fun o p => ((HS2.out.1.kept (Chg.alloc (fun _ => False) W2 o) (by simp)).kept (Chg.alloc (fun _ => False) _ p) (by simp)).cells.1
    go_region
    all_goals (go_wp2_with fail; go_meet)
    all_goals first | exact lnA HZ.out | exact lnB HZ.out
  case rest =>
  obtain ⟨G, G5, rfl, hm5, hrow, hG, hG5, hcc⟩ := hcut
  have hne5 : G ≠ G5 := fun he => by
    rw [he] at hrow
    have := hrow.symm.trans hm5
    simp at this
  have hW2l : gm < W2.heap.size := HS2.out.1.lt
  have HF := Lib.hid (show G ≠ G5 ∧ W2.heap.size ≤ G ∧ W2.heap.size ≤ G5 from ⟨hne5, hG, hG5⟩)
  have HR0 := Lib.hid (show RowV wc G (fillV (.slice aq nq cq) 0) ∧ Mb wc G5 log false (.slice (some ⟨G, 0, none⟩) 256 256) ∧ Chg (fun _ => False) W2 wc from ⟨by rw [fillV_zero]; exact hrow, hm5, hcc⟩)
  clear hm5 hrow hG hG5 hcc hne5 hmk HZ b0 b1 b2
  go_wp2
  go_loopw [6] (fun o6 wr => ∃ c : Nat, c ≤ 256 ∧ o6 = .int .i64 (c : Int) ∧ RowV wr G (fillV (.slice aq nq cq) c) ∧ Mb wr G5 log false (.slice (some ⟨G, 0, none⟩) 256 256) ∧ Chg (fun _ => False) W2 wr) (fun o6 _ => 256 - (intOf o6).toNat)
  case atStart => exact ⟨0, Nat.zero_le _, rfl, HR0.out⟩
  case round =>
    clear HR0
    obtain ⟨c, hc, rfl, hrow, hm5, hcc⟩ := hrel
    by_cases hlt : c < 256
    · obtain ⟨m0, m1, m2⟩ := (HK.out _ _ HS2.out hcc).1.cells
      obtain ⟨n0, n1, n2⟩ := hm5.cells
      have hq0 : wr.cell? ⟨gc, oc + 0, none⟩ = some (.slice aq nq cq) := by
        have hb := hcc.block gc (block_lt_of_cell HQC.out) (by simp)
        rw [World.cell?_of_block (w := W2) (a := ⟨gc, oc + 0, none⟩) hb]; exact HQC.out
      have hq1 : wr.cell? ⟨gc, oc, none⟩ = some (.slice aq nq cq) := hq0
      have hgc := hrow.cell c (by rw [fillV_len _ _ hc]; exact hlt)
      have hgf := hrow.free c
      have hset := hrow.set c (.slice aq nq cq)
      rw [fillV_set _ c hlt] at hset
      have hsc := Chg.setCell wr ⟨G, c, none⟩ (.slice aq nq cq)
      have hm6 := hm5.kept hsc (by have := HF.out.1; simp; omega)
      have hc6 : Chg (fun _ => False) W2 (wr.setCell ⟨G, c, none⟩ (.slice aq nq cq)) := hcc.trans hsc fun k hk he => by have := HF.out.2.1; simp at he; omega
      obtain ⟨gv, hgv⟩ : ∃ gv, (fillV (.slice aq nq cq) c).getD c undef = gv := ⟨_, rfl⟩
      rw [hgv] at hgc
      have HSET := Lib.hid (show RowV _ G (fillV (.slice aq nq cq) (c + 1)) ∧ Mb _ G5 log false (.slice (some ⟨G, 0, none⟩) 256 256) ∧ Chg (fun _ => False) W2 _ from ⟨hset, hm6, hc6⟩)
      have hcI : (c : Int) < 256 := by omega
      clear hrow hm5 hcc hset hsc hm6 hc6 hgv
      go_wp2
      go_region
      go_wp2
      go_roundw
      case rel => exact ⟨c + 1, by omega, by go_num, HSET.out.1, HSET.out.2.1, HSET.out.2.2.drew⟩
      case measure => simp [intOf]; omega
    · obtain rfl : c = 256 := by omega
      have hfull : fillV (.slice aq nq cq) 256 = List.replicate 256 (.slice aq nq cq) := by unfold fillV; rw [Nat.sub_self, List.replicate_zero, List.append_nil]
      rw [hfull] at hrow
      have hall : RdLL wr (.slice (some ⟨G, 0, none⟩) 256 256) (List.replicate 256 q) := by
        refine .inr ⟨G, 0, 256, by rw [List.length_replicate], fun j hj => ⟨.slice aq nq cq, ?_, ?_⟩⟩
        · rw [List.length_replicate] at hj
          rw [Nat.zero_add, hrow.cell j (by rw [List.length_replicate]; exact hj), List.getD_eq_getElem?_getD, List.getElem?_replicate, if_pos hj]; rfl
        · rw [List.length_replicate] at hj
          rw [List.getD_eq_getElem?_getD, List.getElem?_replicate, if_pos hj]
          exact HQR.out.kept hcc (by simp)
      have HK2 := Lib.hid (show ∀ W W' : World, (Mb W G5 log false (.slice (some ⟨G, 0, none⟩) 256 256) ∧ RdLL W (.slice (some ⟨G, 0, none⟩) 256 256) (List.replicate 256 q)) → Chg (fun _ => False) W W' → (Mb W' G5 log false (.slice (some ⟨G, 0, none⟩) 256 256) ∧ RdLL W' (.slice (some ⟨G, 0, none⟩) 256 256) (List.replicate 256 q)) from fun W W' ⟨h1, h2⟩ hc => ⟨h1.kept hc (by simp), h2.kept hc⟩)
      have HS3 := Lib.hid (HK.out _ _ HS2.out hcc)
      have HT3 := Lib.hid (show Mb wr G5 log false (.slice (some ⟨G, 0, none⟩) 256 256) ∧ RdLL wr (.slice (some ⟨G, 0, none⟩) 256 256) (List.replicate 256 q) from ⟨hm5, hall⟩)
      have hle := HLE.out wr _ _ xs HS3.out.2.1 HS3.out.2.2.1 HX.out (by rw [HN.out]; omega)
      rw [HER.out] at hle
      obtain ⟨P, hP⟩ : ∃ P, lnEnc M xs = P := ⟨_, rfl⟩
      obtain ⟨B, hB⟩ : ∃ B, lnBits M xs = B := ⟨_, rfl⟩
      rw [hP] at hle HAE HAD HPX
      rw [hB] at HAB
      have HLB2 := Lib.hid (show ∀ W, RdLL W (.slice (some ⟨gc, oc, none⟩) 1 pm) M.cs → RdB W (.slice ab N pb) xs → Calls Try.prog 15 #[.agg #[.int .i64 log, .bool on, .slice (some ⟨gc, oc, none⟩) 1 pm], .slice ab N pb] W fun e w' => e = .returned (.int .i64 ((B : Nat) : Int)) ∧ Chg (fun _ => False) W w' from fun W h1 h2 => by
        have := HLB.out W _ _ xs h1 h2 HX.out (by rw [HN.out]; omega)
        rw [hB] at this
        exact this)
      have HLE3 := Lib.hid hle
      obtain ⟨m0, m1, m2⟩ := HS3.out.1.cells
      clear hfull hrow hm5 hcc hall hle hP hB HLE HLB HS2 HQR HQC HF HER
      go_wp2_with fail
      refine HLE3.out.mono ?_
      rintro e w4 ⟨p, rfl, hp, _, hc4⟩
      obtain ⟨ap, cp, rfl⟩ := hp.form
      have HS4 := Lib.hid (HK.out _ _ HS3.out hc4); have HT4 := Lib.hid (HK2.out _ _ HT3.out hc4); have HP4 := Lib.hid hp
      clear m0 m1 m2 hc4 hp HS3 HT3 HLE3
      obtain ⟨n0, n1, n2⟩ := HT4.out.1.cells
      go_wp2_with fail
      refine (HAE.out w4 _ _ HT4.out.2 HS4.out.2.2.1).mono ?_
      rintro e w5 ⟨p2, rfl, hp2, _, hc5⟩
      obtain ⟨ap2, cp2, rfl⟩ := hp2.form
      have HS5 := Lib.hid (HK.out _ _ HS4.out hc5); have HT5 := Lib.hid (HK2.out _ _ HT4.out hc5); have HP5 := Lib.hid (HP4.out.kept hc5 (by simp)); have HQ5 := Lib.hid hp2
      clear n0 n1 n2 hc5 hp2 HS4 HT4 HP4 HAE
      obtain ⟨n0, n1, n2⟩ := HT5.out.1.cells
      go_wp2_with fail
      refine (HAD.out w5 _ _ HT5.out.2 HP5.out).mono ?_
      rintro e w6 ⟨y, rfl, hy, hc6⟩
      obtain ⟨ay, cy, rfl⟩ := hy.form
      rw [HN.out] at hy ⊢
      have HS6 := Lib.hid (HK.out _ _ HS5.out hc6); have HT6 := Lib.hid (HK2.out _ _ HT5.out hc6); have HP6 := Lib.hid (HP5.out.kept hc6 (by simp)); have HQ6 := Lib.hid (HQ5.out.kept hc6 (by simp)); have HY6 := Lib.hid hy
      clear n0 n1 n2 hc6 hy HS5 HT5 HP5 HQ5 HAD
      obtain ⟨m0, m1, m2⟩ := HS6.out.1.cells
      obtain ⟨n0, n1, n2⟩ := HT6.out.1.cells
      have hdr := (Chg.refl (fun _ => False) w6).drew
      have HSA := Lib.hid (show Calls Try.prog 14 #[.slice ap P.length cp, .slice ap2 P.length cp2] w6.drew fun e w' => e = .returned (.bool true) ∧ w6.drew = w' from by
        have := same_any _ _ P P w6.drew (HP6.out.kept hdr (by simp)) (HQ6.out.kept hdr (by simp)) HPX.out HPX.out
        rw [decide_eq_true rfl] at this
        exact this)
      have HSB := Lib.hid (show Calls Try.prog 14 #[.slice ay N cy, .slice ab N pb] w6.drew fun e w' => e = .returned (.bool true) ∧ w6.drew = w' from by
        have := same_any _ _ xs xs w6.drew (HY6.out.kept hdr (by simp)) (HS6.out.2.2.1.kept hdr (by simp)) HX.out HX.out
        rw [decide_eq_true rfl] at this
        exact this)
      have HS7 := Lib.hid (HK.out _ _ HS6.out hdr); have HT7 := Lib.hid (HK2.out _ _ HT6.out hdr)
      clear hdr HP6 HQ6 HY6
      go_wp2
      go_region_held3 (fun W => W.cell? ⟨gm, 0, none⟩ = some (.int .i64 log) ∧ W.cell? ⟨gm, 1, none⟩ = some (.bool on) ∧ W.cell? ⟨gm, 2, none⟩ = some (.slice (some ⟨gc, oc, none⟩) 1 pm) ∧ W.cell? ⟨G5, 0, none⟩ = some (.int .i64 log) ∧ W.cell? ⟨G5, 1, none⟩ = some (.bool false) ∧ W.cell? ⟨G5, 2, none⟩ = some (.slice (some ⟨G, 0, none⟩) 256 256)) (first | exact ⟨m0, m1, m2, n0, n1, n2⟩ | exact ⟨q0, q1, q2, s0, s1, s2⟩ | exact ⟨r0, r1, r2, t0, t1, t2⟩) (first
        | (go_at_call 14; with_reducible refine Calls.mono HSA.out ?_; rintro e w8 ⟨rfl, rfl⟩)
        | (go_at_call 14; with_reducible refine Calls.mono HSB.out ?_; rintro e w8 ⟨rfl, rfl⟩)
        | (go_at_call 15; with_reducible refine Calls.mono (HLB2.out w6.drew HS7.out.2.1 HS7.out.2.2.1) ?_; rintro e w9 ⟨rfl, hc9⟩; have HS9 := Lib.hid (HK.out _ _ HS7.out hc9); have HT9 := Lib.hid (HK2.out _ _ HT7.out hc9); obtain ⟨q0, q1, q2⟩ := HS9.out.1.cells; obtain ⟨s0, s1, s2⟩ := HT9.out.1.cells; clear hc9)
        | (go_at_call 15; with_reducible refine Calls.mono (HAB.out w9 _ _ HT9.out.2 HS9.out.2.2.1) ?_; rintro e w10 ⟨rfl, hc10⟩; have HS10 := Lib.hid (HK.out _ _ HS9.out hc10); have HT10 := Lib.hid (HK2.out _ _ HT9.out hc10); obtain ⟨r0, r1, r2⟩ := HS10.out.1.cells; obtain ⟨t0, t1, t2⟩ := HT10.out.1.cells; clear hc10))
      go_wp2
      go_ret
      exact ⟨rfl, HS10.out.2.2.2⟩

end Go.Proofs.Ytokeoebhmjefoaa
