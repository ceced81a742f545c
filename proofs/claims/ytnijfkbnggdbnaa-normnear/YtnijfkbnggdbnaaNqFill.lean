/- What norm's fill and thin do. THIS SPEAKS OF THE PROGRAM'S OWN TEXT. -/
import Derived.Test.YtnijfkbnggdbnaaNqDiv
import Derived.Test.YtnijfkbnggdbnaaNqOps
namespace Go.Proofs.Ytnijfkbnggdbnaa
open Go.RowKit

/-- a queue that is made -/
theorem qh_new (w : World) (f : Nat) (lt : Sh → Sh → Bool) : Qh w.heap.size w.heap.size f lt (w.alloc (.cells #[.slice none 0 0, .func (.func f) #[] #[]] 53)) [] :=
  ⟨⟨_, heap_alloc_new w _, World.ownsRow_nil _ _ _ _, Nat.zero_le _, Nat.le_refl _⟩, fun k h0 hk => absurd hk (by simp)⟩

/-- the first ones that were not raised -/
def calm (l : List Sh) : List Sh := l.filter fun s => !s.rai
theorem calm_take (l : List Sh) (k : Nat) (hk : k < l.length) : calm (l.take (k + 1)) = calm (l.take k) ++ (if (l.getD k default).rai = true then [] else [l.getD k default]) := by
  unfold calm
  rw [List.take_succ_eq_append_getElem hk, List.filter_append, List.getD_eq_getElem?_getD, List.getElem?_eq_getElem hk]
  simp only [Option.getD_some]
  congr 1
  cases h : l[k].rai <;> simp [h]
theorem calm_length (l : List Sh) : (calm l).length ≤ l.length := List.length_filter_le ..
theorem calm_waits (c : List Int) (size n : Int) (hl : c.length = 256) : Waits c size n (had0 c size n) (calm (shTo c size n 256)) := by
  refine ⟨(shTo_nodup c size n 256).filter _, fun y => ?_⟩
  unfold calm
  rw [List.mem_filter, mem_shTo]
  constructor
  · rintro ⟨⟨i, h1, h2, h3⟩, h4⟩
    refine ⟨i, h1, h2, ?_, h3⟩
    rw [had_at i (by omega)]
    rw [h3, mkSh_rai] at h4
    simpa using h4
  · rintro ⟨i, h1, h2, h3, h4⟩
    refine ⟨⟨i, h1, h2, h4⟩, ?_⟩
    rw [had_at i (by omega)] at h3
    rw [h4, mkSh_rai, h3]; rfl
/-- a gift: who is neediest has a count, and comes next -/
theorem gave_needy {c : List Int} {size n : Int} (hl : c.length = 256) (k : Nat) (hk : k < cntN (rest0 c size n) (had0 c size n)) {p : List Int × List Bool} (hp : p = giveN (rest0 c size n) k (qBase c size n) (had0 c size n)) :
    ∃ s, s < 256 ∧ c.getD s 0 ≠ 0 ∧ p.2.getD s false = false ∧ needyTo (rest0 c size n) p.2 256 = some s ∧ p.1.length = 256 ∧ p.2.length = 256 := by
  have g := gave (rest := rest0 c size n) (q := qBase c size n) (had := had0 c size n) (by simp [rest0, hl]) (by simp [qBase, hl]) (by simp [had0, hl]) k (by omega)
  rw [← hp] at g
  obtain ⟨s, h1, h2, h3, g2⟩ := gave_step (by simp [rest0, hl]) g hk
  refine ⟨s, h2, fun h0 => ?_, h3, h1, g.len1, g.len2⟩
  have hso := g2.some s h2 ?_ ?_
  · rw [rest_at s (by omega), h0] at hso; simp at hso
  · cases hh : (had0 c size n).getD s false with
    | false => rfl
    | true => have := g.keep s hh; rw [this] at h3; cases h3
  · simp only; rw [bset_getD _ _ _ _ (by rw [g.len2]; exact h2), if_pos rfl]

theorem Try.symShare (a b c d e : Value) (W : World) : (Instr.field 49 (.agg #[a, b, c, d, e]) 0).run Try.prog W = .ok a W := by kernel_rfl

set_option maxHeartbeats 4000000 in
theorem nfill_any (v u : Value) (c : List Int) (size n : Int) (B0 miss : Nat) (w : World) (hl : c.length = 256) (hu : w.ownsRow B0 49 5 u (shTo c size n 256).length (svs (shTo c size n 256))) (hv : OwnI w 0 v (qBase c size n)) (hm : miss ≤ cntN (rest0 c size n) (had0 c size n)) (hmb : miss ≤ 100000)
    (hqb : ∀ x ∈ qBase c size n, 0 ≤ x ∧ x ≤ 1000000) :
    Calls Try.prog 22 #[v, u, .int .i64 (miss : Int)] w fun e w' => e = .returned (.tuple #[]) ∧ OwnI w' 0 v (giveN (rest0 c size n) miss (qBase c size n) (had0 c size n)).1 ∧ Chg (fun k => some k = v.ownBlock) w w' := by
  obtain ⟨L, hL⟩ : ∃ L, shTo c size n 256 = L := ⟨_, rfl⟩
  have hLl := shTo_length c size n 256
  have hwt := calm_waits c size n hl
  rw [hL] at hu hLl hwt
  obtain ⟨m, hmm⟩ : ∃ m, L.length = m := ⟨_, rfl⟩
  rw [hmm] at hu hLl
  obtain ⟨ao, cap, rfl⟩ := own_form hu
  have hmI : (m : Int) ≤ 256 := by omega
  have hsI : (miss : Int) ≤ 100000 := by omega
  obtain ⟨gv, ov, capv, rfl, hgv1, hgv2, hgv3⟩ := hv
  have hv : OwnI w 0 (.slice (some ⟨gv, ov, none⟩) (qBase c size n).length capv) (qBase c size n) := ⟨gv, ov, capv, rfl, hgv1, hgv2, hgv3⟩
  have hq256 : (qBase c size n).length = 256 := by simp [qBase, hl]
  rw [hq256] at hv ⊢
  have hcq := Chg.alloc (fun _ => False) w (.cells #[.slice none 0 0, .func (.func 31) #[] #[]] 53)
  have hq0 := qh_new w 31 moreB
  have HU := Lib.hid hu; have HV := Lib.hid hv; have HM := Lib.hid hm; have HL := Lib.hid hl; have HWT := Lib.hid hwt; have HMM := Lib.hid hmm; have HCQ := Lib.hid hcq; have HQ0 := Lib.hid hq0; have HGV := Lib.hid hgv2; have HQB := Lib.hid hqb
  obtain ⟨G, hG⟩ : ∃ G, w.heap.size = G := ⟨_, rfl⟩
  rw [hG] at HQ0 HGV
  have HG := Lib.hid hG
  clear hu hv hm hl hwt hmm hL hLl hcq hq0 hgv1 hgv2 hgv3 hq256 hqb hmb
  go_enter Try.func22, Try.ntmps22
  go_wp2
  clear hG
  go_loopw [13] (fun o13 wr => ∃ (k : Nat) (l : List Sh), k ≤ m ∧ o13 = .int .i64 (k : Int) ∧ Qh G G 31 moreB wr l ∧ l.Perm (calm (L.take k)) ∧ Chg (fun _ => False) w wr) (fun o13 _ => m - (intOf o13).toNat)
  case atStart => exact ⟨0, [], Nat.zero_le _, rfl, HQ0.out, by simp [calm], HCQ.out⟩
  case round =>
    clear HQ0 HCQ
    obtain ⟨k, l, hk, rfl, hq, hp, hc⟩ := hrel
    have hll : l.length ≤ 256 := by rw [hp.length_eq]; have := calm_length (L.take k); rw [List.length_take, HMM.out] at this; omega
    by_cases hlt : k < m
    · have hown := hc.own HU.out (by simp)
      rw [← HMM.out] at hown
      obtain ⟨g, cap', he, c0, c1, c2, c3, c4⟩ := own_rd hown k (by rw [HMM.out]; exact hlt)
      simp only [Value.slice.injEq] at he
      obtain ⟨rfl, -, -⟩ := he
      have hct := calm_take L k (by rw [HMM.out]; exact hlt)
      obtain ⟨⟨sy, ct, pl, lf, ra⟩, hs⟩ : ∃ s, L.getD k default = s := ⟨_, rfl⟩
      rw [hs] at c0 c1 c2 c3 c4 hct
      simp only [] at c0 c1 c2 c3 c4 hct
      have hca := Chg.alloc (fun _ => False) wr (.cells #[.int .i64 sy, .int .i64 ct, .int .i64 pl, .int .i64 lf, .bool ra] 49)
      have hqa := hq.kept hca (by simp)
      have hkm : (k : Int) < (m : Int) := by omega
      cases ra with
      | true =>
        rw [if_pos rfl, List.append_nil] at hct
        have HF := Lib.hid (show Qh G G 31 moreB (wr.alloc (.cells #[.int .i64 sy, .int .i64 ct, .int .i64 pl, .int .i64 lf, .bool true] 49)) l ∧ l.Perm (calm (L.take (k + 1))) ∧ Chg (fun _ => False) w (wr.alloc (.cells #[.int .i64 sy, .int .i64 ct, .int .i64 pl, .int .i64 lf, .bool true] 49)) from ⟨hqa, by rw [hct]; exact hp, hc.trans hca fun _ _ h => h⟩)
        clear hq hp hc hll hown hct hs hca hqa
        go_wp2
        go_roundw
        case rel => exact ⟨k + 1, l, by omega, by go_num, HF.out⟩
        case measure => simp [intOf]; omega
      | false =>
        rw [if_neg (by simp)] at hct
        have hadd := qadd_any isOrd_more (Sh.mk sy ct pl lf false) hqa (by omega)
        have hcw := hc.trans hca fun _ _ h => h
        have HADD := Lib.hid hadd; have HCW := Lib.hid hcw; have HP := Lib.hid hp; have HCT := Lib.hid hct
        unfold sv at HADD
        simp only [] at HADD
        clear hq hp hc hll hown hct hs hca hqa hadd hcw
        go_wp2_with fail
        refine (HADD.out).mono ?_
        rintro e w2 ⟨rfl, l2, hq2, hp2, hc2⟩
        have HF := Lib.hid (show Qh G G 31 moreB w2 l2 ∧ l2.Perm (calm (L.take (k + 1))) ∧ Chg (fun _ => False) w w2 from ⟨hq2, by
            rw [HCT.out]
            exact (hp2.trans (HP.out.cons _)).trans (List.perm_append_comm (l₁ := [Sh.mk sy ct pl lf false])), HCW.out.trans hc2 fun q hq he => by have := HG.out; omega⟩)
        clear hq2 hp2 hc2 HADD HCW HP HCT
        go_wp2
        go_roundw
        case rel => exact ⟨k + 1, l2, by omega, by go_num, HF.out⟩
        case measure => simp [intOf]; omega
    · obtain rfl : k = m := by omega
      rw [List.take_of_length_le (by rw [HMM.out]; exact Nat.le_refl _)] at hp
      have hw0 := HWT.out.perm hp
      have hv0 := HV.out.kept hc (by simp)
      have hc0 := hc.mono (T := fun k => some k = Value.ownBlock (.slice (some ⟨gv, ov, none⟩) 256 capv)) fun _ _ h => h.elim
      have HS := Lib.hid (show Qh G G 31 moreB wr l ∧ Waits c size n (giveN (rest0 c size n) 0 (qBase c size n) (had0 c size n)).2 l ∧ OwnI wr 0 (.slice (some ⟨gv, ov, none⟩) 256 capv) (giveN (rest0 c size n) 0 (qBase c size n) (had0 c size n)).1 ∧ Chg (fun k => some k = Value.ownBlock (.slice (some ⟨gv, ov, none⟩) 256 capv)) w wr from ⟨hq, hw0, hv0, hc0⟩)
      clear hq hp hc hll hw0 hv0 hc0 HWT HU HMM hlt hk hmI
      obtain ⟨wa, hwa⟩ : ∃ wa, wr = wa := ⟨_, rfl⟩
      rw [hwa] at HS ⊢
      clear hwa
      go_wp2
      go_loopw [25] (fun o25 wr => ∃ (j : Nat) (l : List Sh), j ≤ miss ∧ o25 = .int .i64 (j : Int) ∧ Qh G G 31 moreB wr l ∧ Waits c size n (giveN (rest0 c size n) j (qBase c size n) (had0 c size n)).2 l ∧ OwnI wr 0 (.slice (some ⟨gv, ov, none⟩) 256 capv) (giveN (rest0 c size n) j (qBase c size n) (had0 c size n)).1 ∧ Chg (fun k => some k = Value.ownBlock (.slice (some ⟨gv, ov, none⟩) 256 capv)) w wr) (fun o25 _ => miss - (intOf o25).toNat)
      case atStart => exact ⟨0, l, Nat.zero_le _, rfl, HS.out⟩
      case round =>
        clear HS
        obtain ⟨j, l, hj, rfl, hq, hwt, hv, hc⟩ := hrel
        by_cases hlt : j < miss
        · obtain ⟨p, hp⟩ : ∃ p, p = giveN (rest0 c size n) j (qBase c size n) (had0 c size n) := ⟨_, rfl⟩
          obtain ⟨s, hs1, hs2, hs3, hs4, hs5, hs6⟩ := gave_needy HL.out j (by have := HM.out; omega) hp
          have hgs : giveN (rest0 c size n) (j + 1) (qBase c size n) (had0 c size n) = (p.1.set s (p.1.getD s 0 + 1), p.2.set s true) := by rw [giveN_succ, ← hp, giveStep_some hs4]
          have hg := gave (rest := rest0 c size n) (q := qBase c size n) (had := had0 c size n) (by simp [rest0, HL.out]) (by simp [qBase, HL.out]) (by simp [had0, HL.out]) j (by have := HM.out; omega)
          rw [← hp] at hg hwt hv
          have hval := hg.val s hs1
          have hqs := HQB.out _ (getD_mem (cs := qBase c size n) (k := s) (by simp [qBase, HL.out]; exact hs1))
          have hb : 0 ≤ p.1.getD s 0 ∧ p.1.getD s 0 ≤ 1000001 := by rw [hval]; split <;> omega
          have hl0 : 0 < l.length := List.length_pos_of_mem ((hwt.mem _).2 ⟨s, hs1, hs2, hs3, rfl⟩)
          have hnx := qnext_any isOrd_more hq hl0
          have HNX := Lib.hid hnx; have HWT := Lib.hid hwt; have HV := Lib.hid hv; have HC := Lib.hid hc; have HGS := Lib.hid hgs; have HS1 := Lib.hid hs1; have HS4 := Lib.hid (show c.getD s 0 ≠ 0 ∧ p.2.getD s false = false ∧ needyTo (rest0 c size n) p.2 256 = some s ∧ p.1.length = 256 ∧ p.2.length = 256 from ⟨hs2, hs3, hs4, hs5, hs6⟩); have HB := Lib.hid hb
          have hjm : (j : Int) < (miss : Int) := by omega
          clear hp hs1 hs2 hs3 hs4 hs5 hs6 hgs hg hwt hv hval hqs hb hl0 hnx hq hc
          go_wp2_with fail
          refine (HNX.out).mono ?_
          rintro e w2 ⟨x, l2, rfl, hq2, hp2, hle2, hc2⟩
          obtain ⟨hs2, hs3, hs4, hs5, hs6⟩ := HS4.out
          obtain ⟨hsym, hwt2⟩ := HWT.out.next HL.out hs6 hp2 hle2 HS1.out hs2 hs3 hs4
          have hv2 := HV.out.kept hc2 (fun k hk => by simp only [Value.ownBlock, Option.some.injEq] at hk; have := HGV.out; omega)
          have hst := hv2.store s (by rw [hs5]; exact HS1.out) (p.1.getD s 0 + 1)
          obtain ⟨g', o', cap', he, -, hgl, hcl, hfr⟩ := hv2
          simp only [Value.slice.injEq, Option.some.injEq, Addr.mk.injEq, and_true] at he
          obtain ⟨⟨rfl, rfl⟩, -, rfl⟩ := he
          have z0 := hcl s (by rw [hs5]; exact HS1.out)
          have z1 := hfr s
          have hc3 : Chg (fun k => some k = Value.ownBlock (.slice (some ⟨gv, ov, none⟩) 256 capv)) w (w2.setCell ⟨gv, ov + s, none⟩ (.int .i64 (p.1.getD s 0 + 1))) :=
            (HC.out.trans hc2 fun q hq he => by have := HG.out; omega).trans (Chg.setCell w2 ⟨gv, ov + s, none⟩ _) fun q hq he => by rw [he]; rfl
          have hq3 : Qh G G 31 moreB (w2.setCell ⟨gv, ov + s, none⟩ (.int .i64 (p.1.getD s 0 + 1))) l2 := hq2.kept (Chg.setCell w2 ⟨gv, ov + s, none⟩ _) fun q hq _ he => by have := HGV.out; simp at he; omega
          obtain ⟨z, hz⟩ : ∃ z, p.1.getD s 0 = z := ⟨_, rfl⟩
          have hb := HB.out
          have hgs := HGS.out
          rw [hz] at z0 hst hc3 hq3 hb hgs
          have hb0 := hb.1
          have hb1 := hb.2
          obtain ⟨sy, ct, pl, lf, ra⟩ := x
          simp only [] at hsym
          subst hsym
          have HF := Lib.hid (show Qh G G 31 moreB (w2.setCell ⟨gv, ov + s, none⟩ (.int .i64 (z + 1))) l2 ∧ Waits c size n (giveN (rest0 c size n) (j + 1) (qBase c size n) (had0 c size n)).2 l2 ∧ OwnI (w2.setCell ⟨gv, ov + s, none⟩ (.int .i64 (z + 1))) 0 (.slice (some ⟨gv, ov, none⟩) 256 capv) (giveN (rest0 c size n) (j + 1) (qBase c size n) (had0 c size n)).1 ∧ Chg (fun k => some k = Value.ownBlock (.slice (some ⟨gv, ov, none⟩) 256 capv)) w (w2.setCell ⟨gv, ov + s, none⟩ (.int .i64 (z + 1))) from
            ⟨hq3, by rw [hgs]; exact hwt2, by rw [hgs]; exact hst, hc3⟩)
          have hs256 : (s : Int) < 256 := by have := HS1.out; omega
          have hsy := Try.symShare
          rw [show sv (Sh.mk (s : Int) ct pl lf ra) = .agg #[.int .i64 (s : Int), .int .i64 ct, .int .i64 pl, .int .i64 lf, .bool ra] from rfl]
          clear hq2 hp2 hle2 hc2 hs2 hs3 hs4 hs5 hs6 hwt2 hst hgl hcl hfr hc3 hq3 hz hb hgs HNX HWT HV HC HGS HS4 HB
          go_wp2
          go_roundw
          case rel => exact ⟨j + 1, l2, by omega, by go_num, HF.out⟩
          case measure => simp [intOf]; omega
        · obtain rfl : j = miss := by omega
          have HV := Lib.hid hv; have HC := Lib.hid hc
          clear hq hwt hv hc
          go_wp2
          go_returns
          exact ⟨rfl, HV.out, HC.out⟩

end Go.Proofs.Ytnijfkbnggdbnaa
