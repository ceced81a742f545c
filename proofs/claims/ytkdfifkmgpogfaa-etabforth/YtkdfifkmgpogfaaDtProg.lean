/- What dtab's Of, Step and Whole tell. THIS SPEAKS OF THE PROGRAM'S OWN TEXT. -/
import Derived.Test.YtkdfifkmgpogfaaDtProgC
import Derived.Test.YtkdfifkmgpogfaaApCells
import Derived.Test.YtkdfifkmgpogfaaBase3
import Derived.Deep.RegionHeld3
namespace Go.Proofs.Ytkdfifkmgpogfaa
open Go.RowKit

theorem cown_ne {w : World} {B b : Nat} {v : Value} {n : Nat} {xs : List Value} {cs : Array Value} {fr : Nat × Nat} (h : w.ownsRow B 48 3 v n xs) (hb : w.heap[b]? = some (.cells cs 67 fr)) : v.ownBlock ≠ some b := by
  intro he
  rcases h.2 with ⟨rfl, rfl⟩ | ⟨g, cap, cur, rfl, _, hg, _⟩
  · cases he
  · simp only [Value.ownBlock, Option.some.injEq] at he
    subst he
    rw [hb] at hg
    simp at hg

/-- append of one cell, in a region that draws -/
theorem step_append_cell {ops : Array Oper} {o : Oper} {a : Act} {W : World} {K : Act → World → Prop} {Q : Exit → Act → World → Prop} {E : Prop} (hgd : o.guard = none) (s x : Operand)
    (ho : o.op = .call { callee := .builtin .append, args := #[s, x], argTypes := #[42, 42] })
    (B : Nat) (v : Value) (l : List Cl) (y : Cl) (hs : a.eval s = v) (hown : W.ownsRow B 48 3 v l.length (cvs l)) (G : Nat) (hx : a.eval x = .slice (some ⟨G, 0, none⟩) 1 1)
    (hblk : W.heap[G]? = some (.cells (cv y).toArray 48 (0, 0))) (hl : l.length ≤ 100000) (hB : B ≤ W.heap.size)
    (n1 : Nat) (hn1 : n1 = l.length + 1) (h : ∀ g cap w', w'.ownsRow B 48 3 (.slice (some ⟨g, 0, none⟩) n1 cap) (l ++ [y]).length (cvs (l ++ [y])) → Chg (fun k => some k = v.ownBlock) W w' → K (a.put o.dst (.slice (some ⟨g, 0, none⟩) n1 cap)) w') :
    if Region.wanted o (yielded ops a.tmps) = true then Oper.wp Try.prog o a W K Q else E := by
  subst hn1
  obtain ⟨i, hi, hz0, hz1, hz2⟩ := info_parts Try.infoCell
  refine step_append_lies W hgd s x 42 ho B 48 i (.agg #[.int .u8 0, .int .i64 0, .int .i64 0]) 3 24 Try.underlying42 hi hz0 hz1 hz2 rfl (by decide) v l.length (cvs l) hs hown ⟨G, 0, none⟩ 1 1 (cv y) hx rfl (World.news_of_block hblk)
    (fun u hu => cvs_one [y] u (by simpa [cvs] using hu)) (by decide) (by unfold maxLen; omega) (by omega) hB _ rfl fun g cap w' h2 h3 _ _ => ?_
  exact h g cap w' (by rw [List.length_append, cvs_append, List.length_singleton]; simpa [cvs] using h2) (Chg.of_grown h3)

theorem count_take (xs : List Nat) (u : Nat) : ∀ p, p ≤ xs.length → countTo (fun a => decide (xs.getD a 0 = u)) p = (xs.take p).count u
  | 0, _ => by simp [countTo]
  | p + 1, h => by
    have ih := count_take xs u p (by omega)
    have ht : xs.take (p + 1) = xs.take p ++ [xs.getD p 0] := by
      rw [List.take_succ_eq_append_getElem (by omega), List.getD_eq_getElem?_getD, List.getElem?_eq_getElem (by omega)]; rfl
    rw [countTo, ih, ht, List.count_append]
    by_cases he : xs.getD p 0 = u
    · rw [he]; simp
    · simp only [decide_eq_true_eq, he, if_false]
      rw [List.count_singleton]
      simpa [List.getD_eq_getElem?_getD] using he

/-- the cells of the first p places -/
def OutD (f : Nat → Nat) (k p : Nat) (out : List Cl) : Prop := out.length = p ∧ ∀ a, a < p → ∃ s d, s < 256 ∧ d < f s ∧ placeF f 256 s (f s + d) = a ∧ out.getD a cl0 = cellOf k s (f s + d)
theorem OutD.step {f : Nat → Nat} {k p : Nat} {out : List Cl} (h : OutD f k p out) {s d : Nat} (hs : s < 256) (hd : d < f s) (hp : placeF f 256 s (f s + d) = p) : OutD f k (p + 1) (out ++ [cellOf k s (f s + d)]) := by
  refine ⟨by rw [List.length_append, h.1]; rfl, fun a ha => ?_⟩
  by_cases hap : a = p
  · subst hap
    refine ⟨s, d, hs, hd, hp, ?_⟩
    rw [List.getD_eq_getElem?_getD, List.getElem?_append_right (by rw [h.1]; exact Nat.le_refl _), h.1, Nat.sub_self]; rfl
  · obtain ⟨t, e, h1, h2, h3, h4⟩ := h.2 a (by omega)
    refine ⟨t, e, h1, h2, h3, ?_⟩
    rw [← h4, List.getD_eq_getElem?_getD, List.getElem?_append_left (by rw [h.1]; omega), ← List.getD_eq_getElem?_getD]
theorem OutD.all {f : Nat → Nat} {k : Nat} {out : List Cl} (hs : sumTo f 256 = 2 ^ k) (h : OutD f k (2 ^ k) out) : IsDtab f k out := by
  refine ⟨h.1, fun s d hs1 hd => ?_⟩
  have hr := place_room (f := f) (N := 256) hs1 hd
  rw [hs] at hr
  obtain ⟨t, e, h1, h2, h3, h4⟩ := h.2 _ hr
  obtain ⟨rfl, rfl⟩ := place_inj h1 hs1 h2 hd h3
  exact h4

theorem OwnC.mono {w : World} {base base' : Nat} {v : Value} {l : List Cl} (h : OwnC w base v l) (hb : base' ≤ base) : OwnC w base' v l := by
  obtain ⟨g, off, cap, rfl, h1, h2⟩ := h
  exact ⟨g, off, cap, rfl, Nat.le_trans hb h1, h2⟩
/-- Of tells its cells, in memory of their own -/
def DtabNew (w : World) (q : List Int) (e : Ending) (w' : World) : Prop :=
  ∃ v', e = .returned (.tuple #[v', .int .i64 (if logI (totalI q) = 0 then 1 else 0)]) ∧ (logI (totalI q) ≠ 0 → ∃ l, OwnC w' w.heap.size v' l ∧ IsDtab (fq q) (logI (totalI q)) l) ∧ (logI (totalI q) = 0 → RdC w' v' []) ∧ Chg (fun _ => False) w w'

set_option maxHeartbeats 1000000 in
theorem dof_new (v : Value) (q : List Int) (w : World) (h : RdI w v q) (hb : ∀ z ∈ q, -9223372036854775808 ≤ z ∧ z ≤ 9223372036854775807) (hl : q.length < 100000000000) :
    Calls Try.prog 17 #[v] w fun e w' => DtabNew w q e w' := by
  have hsp := sof_any v q w h hb hl
  unfold SpreadSays at hsp
  by_cases hk : logI (totalI q) = 0
  · obtain ⟨ao, cap, rfl⟩ := h.form
    have HSP := Lib.hid hsp; have HK := Lib.hid hk
    clear hb hl hk h hsp
    go_enter Try.func17, Try.ntmps17
    go_wp2_with fail
    refine HSP.out.mono ?_
    rintro e w1 ⟨v1, rfl, -, h2, hc⟩
    rw [if_pos HK.out]
    have HC := Lib.hid hc
    clear hc h2 HSP
    go_wp2
    go_ret2
    exact ⟨_, by rw [if_pos HK.out]; rfl, fun h => absurd HK.out h, fun _ => .inl ⟨rfl, none, 0, rfl⟩, HC.out⟩
  · have hq := normQ_of hk
    have hlog := fun W (hc : Chg (fun _ => False) w W) => slog_any v q W (h.kept hc (by simp)) hb hl
    obtain ⟨ao, cap, rfl⟩ := h.form
    obtain ⟨g, off, rfl, hcell⟩ := hq.cells h
    have HSP := Lib.hid hsp; have HK := Lib.hid hk; have HLOG := Lib.hid hlog; have HCELL := Lib.hid hcell
    obtain ⟨k, hke⟩ : ∃ k, logI (totalI q) = k := ⟨_, rfl⟩
    rw [hke] at hq HLOG HSP
    have hk12 : (k : Int) ≤ 12 := by have := hq.2.2.2.2; omega
    have hlenq : (q.length : Int) = 256 := by have := hq.1; omega
    have hsum := hq.sum
    have HQ := Lib.hid (show sumTo (fq q) 256 = 2 ^ k ∧ (∀ s, fq q s ≤ 4096) ∧ k ≤ 12 ∧ 2 ^ k ≤ 4096 ∧ 1 ≤ k from ⟨hsum, hq.le, hq.2.2.2.2, hq.size, hq.2.2.2.1⟩)
    obtain ⟨n, hn⟩ : ∃ n, q.length = n := ⟨_, rfl⟩
    rw [hn] at HSP HLOG hlenq ⊢
    obtain ⟨f, hf⟩ : ∃ f, fq q = f := ⟨_, rfl⟩
    rw [hf] at HSP HCELL HQ
    have HF := Lib.hid hf; have HKE := Lib.hid hke
    obtain ⟨L, hL⟩ : ∃ L, 2 ^ k = L := ⟨_, rfl⟩
    have HL := Lib.hid hL
    have hL4 : (L : Int) ≤ 4096 := by have := HQ.out.2.2.2.1; omega
    have hkk : ¬ k = 0 := by have := HQ.out.2.2.2.2; omega
    obtain ⟨Z, hZ, hzero⟩ := zeroCounts
    have HZ := Lib.hid hZ
    clear hb hl hk h hsp hlog hcell hq hsum hn hf hke hL hZ
    go_enter Try.func17, Try.ntmps17
    go_wp2_with fail
    refine HSP.out.mono ?_
    rintro e w1 ⟨v1, rfl, h1, -, hc1⟩
    obtain ⟨sl, hos, hsp⟩ := h1 hkk
    rw [if_neg hkk]
    obtain ⟨asl, psl, rfl⟩ := hos.rd.form
    have hsl : sl.length = L := by rw [hsp.len, HQ.out.1, HL.out]
    have HOS := Lib.hid hos.rd; have HSPR := Lib.hid hsp; have HC1 := Lib.hid hc1; have HSL := Lib.hid hsl
    rw [hsl] at HOS ⊢
    clear HSP hos hsp hc1 hsl hkk h1
    go_wp2_with fail
    refine (HLOG.out w1 HC1.out).mono ?_
    rintro e w2 ⟨rfl, hc2⟩
    have HC2 := Lib.hid (HC1.out.trans hc2 fun _ _ h => h)
    have HOS2 := Lib.hid (HOS.out.kept hc2 (by simp))
    clear HOS HLOG hc2
    obtain ⟨i, hi, hz0, hz1, hz2⟩ := info_parts Try.infoCell
    go_wp2_with (at_make; refine wpList_make_own w2 rfl _ _ 42 rfl w2.heap.size 48 i (.agg #[.int .u8 0, .int .i64 0, .int .i64 0]) 3 Try.underlying42 hi hz0 hz1 .i64 .i64 (L : Int) L rfl rfl rfl (by rw [hz2]; omega) (by unfold maxLen; omega) (Nat.le_refl _) ?_)
    intro w3 ho hg3
    have hc3 : Chg (fun _ => False) w2 w3 := (Chg.of_grown hg3).mono fun k _ hk => by simp at hk
    have hm4 : RowI (w3.alloc (.cells Z.toArray 67)) w3.heap.size 67 (cnt (sl.take 0)) := by
      rw [List.take_zero, cnt_nil]; unfold RowI; rw [← HZ.out]; exact heap_alloc_new w3 _
    have hc4 := Chg.alloc (fun _ => False) w3 (.cells Z.toArray 67)
    have ho4 := ho.alloc (.cells Z.toArray 67)
    obtain ⟨W4, hW4⟩ : ∃ W4, w3.alloc (.cells Z.toArray 67) = W4 := ⟨_, rfl⟩
    rw [hW4] at hm4 hc4 ho4
    have hlt4 := hm4.lt
    have hge4 := hc3.size
    obtain ⟨GM, hGM⟩ : ∃ GM, w3.heap.size = GM := ⟨_, rfl⟩
    rw [hGM] at hm4 hlt4 hge4
    obtain ⟨G0, hG0⟩ : ∃ G0, w2.heap.size = G0 := ⟨_, rfl⟩
    rw [hG0] at ho4 hge4 ⊢
    have ST := Lib.hid (show RowI W4 GM 67 (cnt (sl.take 0)) ∧ Chg (fun _ => False) w2 W4 ∧ W4.ownsRow G0 48 3 (.slice (some ⟨G0, 0, none⟩) 0 L) 0 [] from ⟨hm4, hc3.trans hc4 fun _ _ h => h, ho4⟩)
    have HG := Lib.hid (show w2.heap.size = G0 ∧ G0 ≤ GM from ⟨hG0, hge4⟩)
    have hsx : ∀ x ∈ sl, x < 256 := fun x hx => by
      obtain ⟨p, hp, rfl⟩ := List.getElem_of_mem hx
      have := HSPR.out.is (p := p) (s := sl.getD p 0) hp rfl
      rw [List.getD_eq_getElem?_getD, List.getElem?_eq_getElem hp] at this
      exact this.1
    have HSX := Lib.hid hsx
    clear hm4 hc4 ho4 hc3 ho hg3 hlt4 hge4 hG0 hsx
    go_wp2
    clear hGM hW4
    go_loopw [7, 26] (fun o7 o26 wr => ∃ (p : Nat) (out : List Cl), p ≤ L ∧ o26 = .int .i64 (p : Int) ∧ wr.ownsRow G0 48 3 o7 p (cvs out) ∧ OutD f k p out ∧ RowI wr GM 67 (cnt (sl.take p)) ∧ (∃ gg cc, o7 = .slice (some ⟨gg, 0, none⟩) p cc) ∧ Chg (fun _ => False) w2 wr) (fun _ o26 _ => L - (intOf o26).toNat)
    case atStart => exact ⟨0, [], Nat.zero_le _, rfl, ST.out.2.2, ⟨rfl, fun a ha => by omega⟩, ST.out.1, ⟨G0, L, rfl⟩, ST.out.2.1⟩
    case round =>
      obtain ⟨p, out, hp, rfl, hown, hout, hmet, ⟨gg, cc, rfl⟩, hc⟩ := hrel
      clear ST
      by_cases hlt : p < L
      · have hltI : (p : Int) < (L : Int) := by omega
        obtain ⟨gs, offs, rfl, hscell⟩ := (HOS2.out.kept hc (by simp)).at p (by rw [HSL.out]; exact hlt)
        have hsp := HSPR.out.is (p := p) (s := sl.getD p 0) (by rw [HSL.out]; exact hlt) rfl
        have hts := cnt_take_succ sl p (by rw [HSL.out]; exact hlt) hsp.1
        have hgd := cnt_getD (sl.take p) (sl.getD p 0) hsp.1
        obtain ⟨s, hse⟩ : ∃ s, sl.getD p 0 = s := ⟨_, rfl⟩
        rw [hse] at hscell hsp hts hgd
        obtain ⟨hs, d, hd, hpl⟩ := hsp
        have hnth := HSPR.out.nth hs hd
        rw [hpl, count_take sl s p (by rw [HSL.out]; exact hp)] at hnth
        rw [hnth] at hgd
        have hF4 := HQ.out.2.1 s
        have hqc := fun W (hcw : Chg (fun _ => False) w2 W) => HCELL.out W (HC2.out.trans hcw fun _ _ h => h) s hs
        have hsle := f_le (f := f) (R := k) HQ.out.1 hs
        have hcl := fun W => dcell_any s (f s + d) k W (by omega) (by rw [Nat.pow_succ]; omega) HQ.out.2.2.1
        have hout2 := hout.step hs hd hpl
        obtain ⟨F, hF⟩ : ∃ F, f s = F := ⟨_, rfl⟩
        rw [hF] at hqc hcl hout2 hd hF4
        obtain ⟨J, hJ⟩ : ∃ J, F + d = J := ⟨_, rfl⟩
        have hJI : (F : Int) + (d : Int) = (J : Int) := by omega
        rw [hJ] at hcl hout2
        obtain ⟨y, hy⟩ : ∃ y, cellOf k s J = y := ⟨_, rfl⟩
        rw [hy] at hcl hout2
        have hmc := hmet.cell s (by rw [cnt_length]; exact hs)
        rw [hgd] at hmc
        have hmf := hmet.free s
        have hm2 := hmet.set s ((d : Int) + 1)
        rw [hgd] at hts
        rw [← hts] at hm2
        have hqw := hqc wr hc
        have hwJ : IntKind.i64.wrap (J : Int) = (J : Int) := by rw [IntKind.wrap_i64]; omega
        have hsn : (s : Int) < (n : Int) := by omega
        have hsI : (s : Int) < 256 := by omega
        have hdI : (d : Int) ≤ 4096 := by omega
        have hFI : (F : Int) ≤ 4096 := by omega
        obtain ⟨S, I, Ba⟩ := y
        simp only [] at hcl
        have HCL := Lib.hid hcl; have HOWN := Lib.hid hown; have HMET := Lib.hid hmet; have HC := Lib.hid hc; have HQC := Lib.hid hqc; have HO2 := Lib.hid hout2; have HM2 := Lib.hid hm2; have HS := Lib.hid hs; have HOL := Lib.hid hout.1; have HGD := Lib.hid hgd; have HTS := Lib.hid hts
        obtain ⟨p1, hp1⟩ : ∃ p1, p1 = out.length + 1 := ⟨_, rfl⟩
        have HP1 := Lib.hid hp1
        have hp1I : (p : Int) + 1 = (p1 : Int) := by rw [hp1, hout.1]; omega
        clear hcl hown hmet hc hqc hout2 hm2 hs hout hgd hts hnth hd hpl hse hF hJ hy hp hF4 hsle hp1
        go_wp2
        go_region_held3 (fun W => W.cell? ⟨g, off + s, none⟩ = some (.int .i64 (F : Int)) ∧ W.cell? ⟨GM, s, none⟩ = some (.int .i64 (d : Int))) (first | exact ⟨hqw, hmc⟩ | exact ⟨z0, z1⟩ | exact ⟨z4 _, z5 _⟩ | exact ⟨z2, z3⟩) (first
          | (go_at_call 32; refine (HCL.out _).mono ?_; rintro e w5 ⟨rfl, hc5⟩; have hc6 := (Chg.refl (fun _ => False) wr).drew.trans hc5 fun _ _ h => h; have hm5 := HMET.out.kept hc6 (fun h => h); have z0 := HQC.out w5 (HC.out.trans hc6 fun _ _ h => h); have z1 := hm5.cell s (by rw [cnt_length]; exact HS.out); rw [HGD.out] at z1; have z4 := fun ob => HQC.out (w5.alloc ob) ((HC.out.trans hc6 fun _ _ h => h).trans (Chg.alloc (fun _ => False) w5 ob) fun _ _ h => h); have z5 := fun ob => (hm5.kept (Chg.alloc (fun _ => False) w5 ob) (fun h => h)).cell s (by rw [cnt_length]; exact HS.out); rw [HGD.out] at z5; have HO5 := Lib.hid (hc6.own HOWN.out (fun _ _ h => h)); have HM5 := Lib.hid hm5; have HC5 := Lib.hid (HC.out.trans hc6 fun _ _ h => h); clear hc5 hc6 hm5)
          | (refine step_append_cell rfl (.tmp 30) (.tmp 42) rfl G0 (.slice (some ⟨gg, 0, none⟩) p cc) out ⟨S, I, Ba⟩ rfl (by rw [HOL.out]; exact HO5.out.alloc _) w5.heap.size rfl (heap_alloc_new w5 _) (by rw [HOL.out]; omega) (by have h1 := HC5.out.size; have h2 := HG.out.1; have h3 := (Chg.alloc (fun _ => False) w5 (.cells #[.int .u8 (S : Int), .int .i64 I, .int .i64 Ba] 48)).size; omega) p1 HP1.out ?_; intro g8 c8 w8 ho8 hc8; have hn8 : gg ≠ GM := (fun he => cown_ne HO5.out HM5.out (by rw [he]; rfl)); have hge := (HO5.out.lt gg rfl).1; have hm8 := (HM5.out.kept (Chg.alloc (fun _ => False) w5 _) (fun h => h)).kept hc8 (fun he => by simp only [Value.ownBlock, Option.some.injEq] at he; omega); have hc9 := ((HC5.out.trans (Chg.alloc (fun _ => False) w5 _) fun _ _ h => h).trans hc8 fun q hq he => by simp only [Value.ownBlock, Option.some.injEq] at he; have h2 := HG.out.1; omega); have z2 := HQC.out w8 hc9; have z3 := hm8.cell s (by rw [cnt_length]; exact HS.out); rw [HGD.out] at z3; have HO8 := Lib.hid ho8; have HM8 := Lib.hid hm8; have HC9 := Lib.hid hc9; clear ho8 hc8 hm8 hc9 hge hn8))
        have hmf8 := HM8.out.free s
        have hm9 := HM8.out.set s ((d : Int) + 1)
        rw [← HTS.out] at hm9
        have hc10 := HC9.out.trans (Chg.setCell w8 ⟨GM, s, none⟩ (.int .i64 ((d : Int) + 1))) fun q hq he => by simp only [] at he; have h2 := HG.out; omega
        have ho10 := (Chg.setCell w8 ⟨GM, s, none⟩ (.int .i64 ((d : Int) + 1))).own HO8.out (fun k hk he => by
          have := cown_ne HO8.out HM8.out
          simp only [] at he
          rw [he] at hk
          exact this hk)
        have HM9 := Lib.hid hm9; have HC10 := Lib.hid hc10; have HO10 := Lib.hid ho10
        clear hm9 hc10 ho10
        go_wp2
        go_roundw
        case rel =>
          refine ⟨p + 1, out ++ [⟨S, I, Ba⟩], by omega, by go_num, ?_, HO2.out, HM9.out, ⟨g8, c8, by rw [HP1.out, HOL.out]⟩, HC10.out⟩
          have h9 := HO10.out
          rw [List.length_append, HOL.out] at h9
          exact h9
        case measure => simp [intOf]; omega
      · obtain rfl : p = L := by omega
        have hdt : IsDtab f k out := OutD.all HQ.out.1 (by rw [HL.out]; exact hout)
        have hL0 : 0 < p := by rw [← HL.out]; exact Nat.two_pow_pos k
        have how : OwnC wr w.heap.size (.slice (some ⟨gg, 0, none⟩) p cc) out := by
          have h9 := hown
          rw [← hout.1] at h9
          have h10 := OwnC.of_own h9 (by rw [hout.1]; exact hL0)
          rw [hout.1] at h10
          exact h10.mono (by have := HC2.out.size; have := HG.out.1; omega)
        have HD := Lib.hid hdt; have HW := Lib.hid how; have HC9 := Lib.hid (HC2.out.trans hc fun _ _ h => h)
        have hltp : ¬ p < p := by omega
        clear hdt how hown hout hmet hc hlt
        go_wp2
        go_ret2
        exact ⟨_, by rw [if_neg HK.out]; rfl, fun _ => ⟨out, HW.out, by rw [HKE.out, HF.out]; exact HD.out⟩, fun h => absurd h HK.out, HC9.out⟩

theorem dof_any (v : Value) (q : List Int) (w : World) (h : RdI w v q) (hb : ∀ z ∈ q, -9223372036854775808 ≤ z ∧ z ≤ 9223372036854775807) (hl : q.length < 100000000000) :
    Calls Try.prog 17 #[v] w fun e w' => DtabSays w q e w' :=
  (dof_new v q w h hb hl).mono fun e w' ⟨v', h1, h2, h3, h4⟩ => ⟨v', h1, fun hk => by
    obtain ⟨l, ho, hd⟩ := h2 hk
    exact ⟨l, ho.rd, hd⟩, h3, h4⟩

end Go.Proofs.Ytkdfifkmgpogfaa
