/- Texts that other texts of this claim rest on, one behind the other (NqFill NqThin NmProg MdProgA MdRefC CxProg MdProgB ApAt CxMathB RowBy MdProgC NmRefC LgRef CxRefW MdRefD). -/
import Derived.Test.YthghlfghdmifoaaBase2
import Derived.BigQuiet
import Derived.Deep.RegionHeld3
import Derived.Maps.AppendAt
/- What norm's fill and thin do. THIS SPEAKS OF THE PROGRAM'S OWN TEXT. -/
namespace Go.Proofs.Ythghlfghdmifoaa
open Go.RowKit

/-- a queue that is made -/
theorem qh_new (w : World) (f : Nat) (lt : Sh → Sh → Bool) : Qh w.heap.size w.heap.size f lt (w.alloc (.cells #[.slice none 0 0, .func (.func f) #[] #[]] 83)) [] :=
  ⟨⟨_, heap_alloc_new w _, World.ownsRow_nil _ _ _ _, Nat.zero_le _, Nat.le_refl _⟩, fun k h0 hk => absurd hk (by simp)⟩

/-- the first ones that were not raised -/
def calm (l : List Sh) : List Sh := l.filter fun s => !s.rai
theorem calm_take (l : List Sh) (k : Nat) (hk : k < l.length) : calm (l.take (k + 1)) = calm (l.take k) ++ (if (l.getD k default).rai = true then [] else [l.getD k default]) := by
  unfold calm
  rw [List.take_succ_eq_append_getElem hk, List.filter_append, List.getD_eq_getElem?_getD, List.getElem?_eq_getElem hk]
  simp only [Option.getD_some]
  congr 1
  cases h : l[k].rai <;> simp [h]
theorem calm_length (l : List Sh) : (calm l).length ≤ l.length := List.length_filter_le ..
theorem calm_waits (c : List Int) (size n : Int) (hl : c.length = 256) : Waits c size n (had0 c size n) (calm (shTo c size n 256)) := by
  refine ⟨(shTo_nodup c size n 256).filter _, fun y => ?_⟩
  unfold calm
  rw [List.mem_filter, mem_shTo]
  constructor
  · rintro ⟨⟨i, h1, h2, h3⟩, h4⟩
    refine ⟨i, h1, h2, ?_, h3⟩
    rw [had_at i (by omega)]
    rw [h3, mkSh_rai] at h4
    simpa using h4
  · rintro ⟨i, h1, h2, h3, h4⟩
    refine ⟨⟨i, h1, h2, h4⟩, ?_⟩
    rw [had_at i (by omega)] at h3
    rw [h4, mkSh_rai, h3]; rfl
/-- a gift: who is neediest has a count, and comes next -/
theorem gave_needy {c : List Int} {size n : Int} (hl : c.length = 256) (k : Nat) (hk : k < cntN (rest0 c size n) (had0 c size n)) {p : List Int × List Bool} (hp : p = giveN (rest0 c size n) k (qBase c size n) (had0 c size n)) :
    ∃ s, s < 256 ∧ c.getD s 0 ≠ 0 ∧ p.2.getD s false = false ∧ needyTo (rest0 c size n) p.2 256 = some s ∧ p.1.length = 256 ∧ p.2.length = 256 := by
  have g := gave (rest := rest0 c size n) (q := qBase c size n) (had := had0 c size n) (by simp [rest0, hl]) (by simp [qBase, hl]) (by simp [had0, hl]) k (by omega)
  rw [← hp] at g
  obtain ⟨s, h1, h2, h3, g2⟩ := gave_step (by simp [rest0, hl]) g hk
  refine ⟨s, h2, fun h0 => ?_, h3, h1, g.len1, g.len2⟩
  have hso := g2.some s h2 ?_ ?_
  · rw [rest_at s (by omega), h0] at hso; simp at hso
  · cases hh : (had0 c size n).getD s false with
    | false => rfl
    | true => have := g.keep s hh; rw [this] at h3; cases h3
  · simp only; rw [bset_getD _ _ _ _ (by rw [g.len2]; exact h2), if_pos rfl]

theorem Try.symShare (a b c d e : Value) (W : World) : (Instr.field 79 (.agg #[a, b, c, d, e]) 0).run Try.prog W = .ok a W := by kernel_rfl

set_option maxHeartbeats 4000000 in
set_option maxRecDepth 100000 in
theorem nfill_any (v u : Value) (c : List Int) (size n : Int) (B0 miss : Nat) (w : World) (hl : c.length = 256) (hu : w.ownsRow B0 79 5 u (shTo c size n 256).length (svs (shTo c size n 256))) (hv : OwnI w 0 v (qBase c size n)) (hm : miss ≤ cntN (rest0 c size n) (had0 c size n)) (hmb : miss ≤ 100000)
    (hqb : ∀ x ∈ qBase c size n, 0 ≤ x ∧ x ≤ 1000000) :
    Calls Try.prog 68 #[v, u, .int .i64 (miss : Int)] w fun e w' => e = .returned (.tuple #[]) ∧ OwnI w' 0 v (giveN (rest0 c size n) miss (qBase c size n) (had0 c size n)).1 ∧ Chg (fun k => some k = v.ownBlock) w w' := by
  obtain ⟨L, hL⟩ : ∃ L, shTo c size n 256 = L := ⟨_, rfl⟩
  have hLl := shTo_length c size n 256
  have hwt := calm_waits c size n hl
  rw [hL] at hu hLl hwt
  obtain ⟨m, hmm⟩ : ∃ m, L.length = m := ⟨_, rfl⟩
  rw [hmm] at hu hLl
  obtain ⟨ao, cap, rfl⟩ := own_form hu
  have hmI : (m : Int) ≤ 256 := by omega
  have hsI : (miss : Int) ≤ 100000 := by omega
  obtain ⟨gv, ov, capv, rfl, hgv1, hgv2, hgv3⟩ := hv
  have hv : OwnI w 0 (.slice (some ⟨gv, ov, none⟩) (qBase c size n).length capv) (qBase c size n) := ⟨gv, ov, capv, rfl, hgv1, hgv2, hgv3⟩
  have hq256 : (qBase c size n).length = 256 := by simp [qBase, hl]
  rw [hq256] at hv ⊢
  have hcq := Chg.alloc (fun _ => False) w (.cells #[.slice none 0 0, .func (.func 71) #[] #[]] 83)
  have hq0 := qh_new w 71 moreB
  have HU := Lib.hid hu; have HV := Lib.hid hv; have HM := Lib.hid hm; have HL := Lib.hid hl; have HWT := Lib.hid hwt; have HMM := Lib.hid hmm; have HCQ := Lib.hid hcq; have HQ0 := Lib.hid hq0; have HGV := Lib.hid hgv2; have HQB := Lib.hid hqb
  obtain ⟨G, hG⟩ : ∃ G, w.heap.size = G := ⟨_, rfl⟩
  rw [hG] at HQ0 HGV
  have HG := Lib.hid hG
  clear hu hv hm hl hwt hmm hL hLl hcq hq0 hgv1 hgv2 hgv3 hq256 hqb hmb
  go_enter Try.func68, Try.ntmps68
  go_wp2
  clear hG
  go_loopw [13] (fun o13 wr => ∃ (k : Nat) (l : List Sh), k ≤ m ∧ o13 = .int .i64 (k : Int) ∧ Qh G G 71 moreB wr l ∧ l.Perm (calm (L.take k)) ∧ Chg (fun _ => False) w wr) (fun o13 _ => m - (intOf o13).toNat)
  case atStart => exact ⟨0, [], Nat.zero_le _, rfl, HQ0.out, by simp [calm], HCQ.out⟩
  case round =>
    clear HQ0 HCQ
    obtain ⟨k, l, hk, rfl, hq, hp, hc⟩ := hrel
    have hll : l.length ≤ 256 := by rw [hp.length_eq]; have := calm_length (L.take k); rw [List.length_take, HMM.out] at this; omega
    by_cases hlt : k < m
    · have hown := hc.own HU.out (by simp)
      rw [← HMM.out] at hown
      obtain ⟨g, cap', he, c0, c1, c2, c3, c4⟩ := own_rd hown k (by rw [HMM.out]; exact hlt)
      simp only [Value.slice.injEq] at he
      obtain ⟨rfl, -, -⟩ := he
      have hct := calm_take L k (by rw [HMM.out]; exact hlt)
      obtain ⟨⟨sy, ct, pl, lf, ra⟩, hs⟩ : ∃ s, L.getD k default = s := ⟨_, rfl⟩
      rw [hs] at c0 c1 c2 c3 c4 hct
      simp only [] at c0 c1 c2 c3 c4 hct
      have hca := Chg.alloc (fun _ => False) wr (.cells #[.int .i64 sy, .int .i64 ct, .int .i64 pl, .int .i64 lf, .bool ra] 79)
      have hqa := hq.kept hca (by simp)
      have hkm : (k : Int) < (m : Int) := by omega
      cases ra with
      | true =>
        rw [if_pos rfl, List.append_nil] at hct
        have HF := Lib.hid (show Qh G G 71 moreB (wr.alloc (.cells #[.int .i64 sy, .int .i64 ct, .int .i64 pl, .int .i64 lf, .bool true] 79)) l ∧ l.Perm (calm (L.take (k + 1))) ∧ Chg (fun _ => False) w (wr.alloc (.cells #[.int .i64 sy, .int .i64 ct, .int .i64 pl, .int .i64 lf, .bool true] 79)) from ⟨hqa, by rw [hct]; exact hp, hc.trans hca fun _ _ h => h⟩)
        clear hq hp hc hll hown hct hs hca hqa
        go_wp2
        go_roundw
        case rel => exact ⟨k + 1, l, by omega, by go_num, HF.out⟩
        case measure => simp [intOf]; omega
      | false =>
        rw [if_neg (by simp)] at hct
        have hadd := qadd_any isOrd_more (Sh.mk sy ct pl lf false) hqa (by omega)
        have hcw := hc.trans hca fun _ _ h => h
        have HADD := Lib.hid hadd; have HCW := Lib.hid hcw; have HP := Lib.hid hp; have HCT := Lib.hid hct
        unfold sv at HADD
        simp only [] at HADD
        clear hq hp hc hll hown hct hs hca hqa hadd hcw
        go_wp2_with fail
        refine (HADD.out).mono ?_
        rintro e w2 ⟨rfl, l2, hq2, hp2, hc2⟩
        have HF := Lib.hid (show Qh G G 71 moreB w2 l2 ∧ l2.Perm (calm (L.take (k + 1))) ∧ Chg (fun _ => False) w w2 from ⟨hq2, by
            rw [HCT.out]
            exact (hp2.trans (HP.out.cons _)).trans (List.perm_append_comm (l₁ := [Sh.mk sy ct pl lf false])), HCW.out.trans hc2 fun q hq he => by have := HG.out; omega⟩)
        clear hq2 hp2 hc2 HADD HCW HP HCT
        go_wp2
        go_roundw
        case rel => exact ⟨k + 1, l2, by omega, by go_num, HF.out⟩
        case measure => simp [intOf]; omega
    · obtain rfl : k = m := by omega
      rw [List.take_of_length_le (by rw [HMM.out]; exact Nat.le_refl _)] at hp
      have hw0 := HWT.out.perm hp
      have hv0 := HV.out.kept hc (by simp)
      have hc0 := hc.mono (T := fun k => some k = Value.ownBlock (.slice (some ⟨gv, ov, none⟩) 256 capv)) fun _ _ h => h.elim
      have HS := Lib.hid (show Qh G G 71 moreB wr l ∧ Waits c size n (giveN (rest0 c size n) 0 (qBase c size n) (had0 c size n)).2 l ∧ OwnI wr 0 (.slice (some ⟨gv, ov, none⟩) 256 capv) (giveN (rest0 c size n) 0 (qBase c size n) (had0 c size n)).1 ∧ Chg (fun k => some k = Value.ownBlock (.slice (some ⟨gv, ov, none⟩) 256 capv)) w wr from ⟨hq, hw0, hv0, hc0⟩)
      clear hq hp hc hll hw0 hv0 hc0 HWT HU HMM hlt hk hmI
      obtain ⟨wa, hwa⟩ : ∃ wa, wr = wa := ⟨_, rfl⟩
      rw [hwa] at HS ⊢
      clear hwa
      go_wp2
      go_loopw [25] (fun o25 wr => ∃ (j : Nat) (l : List Sh), j ≤ miss ∧ o25 = .int .i64 (j : Int) ∧ Qh G G 71 moreB wr l ∧ Waits c size n (giveN (rest0 c size n) j (qBase c size n) (had0 c size n)).2 l ∧ OwnI wr 0 (.slice (some ⟨gv, ov, none⟩) 256 capv) (giveN (rest0 c size n) j (qBase c size n) (had0 c size n)).1 ∧ Chg (fun k => some k = Value.ownBlock (.slice (some ⟨gv, ov, none⟩) 256 capv)) w wr) (fun o25 _ => miss - (intOf o25).toNat)
      case atStart => exact ⟨0, l, Nat.zero_le _, rfl, HS.out⟩
      case round =>
        clear HS
        obtain ⟨j, l, hj, rfl, hq, hwt, hv, hc⟩ := hrel
        by_cases hlt : j < miss
        · obtain ⟨p, hp⟩ : ∃ p, p = giveN (rest0 c size n) j (qBase c size n) (had0 c size n) := ⟨_, rfl⟩
          obtain ⟨s, hs1, hs2, hs3, hs4, hs5, hs6⟩ := gave_needy HL.out j (by have := HM.out; omega) hp
          have hgs : giveN (rest0 c size n) (j + 1) (qBase c size n) (had0 c size n) = (p.1.set s (p.1.getD s 0 + 1), p.2.set s true) := by rw [giveN_succ, ← hp, giveStep_some hs4]
          have hg := gave (rest := rest0 c size n) (q := qBase c size n) (had := had0 c size n) (by simp [rest0, HL.out]) (by simp [qBase, HL.out]) (by simp [had0, HL.out]) j (by have := HM.out; omega)
          rw [← hp] at hg hwt hv
          have hval := hg.val s hs1
          have hqs := HQB.out _ (getD_mem (cs := qBase c size n) (k := s) (by simp [qBase, HL.out]; exact hs1))
          have hb : 0 ≤ p.1.getD s 0 ∧ p.1.getD s 0 ≤ 1000001 := by rw [hval]; split <;> omega
          have hl0 : 0 < l.length := List.length_pos_of_mem ((hwt.mem _).2 ⟨s, hs1, hs2, hs3, rfl⟩)
          have hnx := qnext_any isOrd_more hq hl0
          have HNX := Lib.hid hnx; have HWT := Lib.hid hwt; have HV := Lib.hid hv; have HC := Lib.hid hc; have HGS := Lib.hid hgs; have HS1 := Lib.hid hs1; have HS4 := Lib.hid (show c.getD s 0 ≠ 0 ∧ p.2.getD s false = false ∧ needyTo (rest0 c size n) p.2 256 = some s ∧ p.1.length = 256 ∧ p.2.length = 256 from ⟨hs2, hs3, hs4, hs5, hs6⟩); have HB := Lib.hid hb
          have hjm : (j : Int) < (miss : Int) := by omega
          clear hp hs1 hs2 hs3 hs4 hs5 hs6 hgs hg hwt hv hval hqs hb hl0 hnx hq hc
          go_wp2_with fail
          refine (HNX.out).mono ?_
          rintro e w2 ⟨x, l2, rfl, hq2, hp2, hle2, hc2⟩
          obtain ⟨hs2, hs3, hs4, hs5, hs6⟩ := HS4.out
          obtain ⟨hsym, hwt2⟩ := HWT.out.next HL.out hs6 hp2 hle2 HS1.out hs2 hs3 hs4
          have hv2 := HV.out.kept hc2 (fun k hk => by simp only [Value.ownBlock, Option.some.injEq] at hk; have := HGV.out; omega)
          have hst := hv2.store s (by rw [hs5]; exact HS1.out) (p.1.getD s 0 + 1)
          obtain ⟨g', o', cap', he, -, hgl, hcl, hfr⟩ := hv2
          simp only [Value.slice.injEq, Option.some.injEq, Addr.mk.injEq, and_true] at he
          obtain ⟨⟨rfl, rfl⟩, -, rfl⟩ := he
          have z0 := hcl s (by rw [hs5]; exact HS1.out)
          have z1 := hfr s
          have hc3 : Chg (fun k => some k = Value.ownBlock (.slice (some ⟨gv, ov, none⟩) 256 capv)) w (w2.setCell ⟨gv, ov + s, none⟩ (.int .i64 (p.1.getD s 0 + 1))) :=
            (HC.out.trans hc2 fun q hq he => by have := HG.out; omega).trans (Chg.setCell w2 ⟨gv, ov + s, none⟩ _) fun q hq he => by rw [he]; rfl
          have hq3 : Qh G G 71 moreB (w2.setCell ⟨gv, ov + s, none⟩ (.int .i64 (p.1.getD s 0 + 1))) l2 := hq2.kept (Chg.setCell w2 ⟨gv, ov + s, none⟩ _) fun q hq _ he => by have := HGV.out; simp at he; omega
          obtain ⟨z, hz⟩ : ∃ z, p.1.getD s 0 = z := ⟨_, rfl⟩
          have hb := HB.out
          have hgs := HGS.out
          rw [hz] at z0 hst hc3 hq3 hb hgs
          have hb0 := hb.1
          have hb1 := hb.2
          obtain ⟨sy, ct, pl, lf, ra⟩ := x
          simp only [] at hsym
          subst hsym
          have HF := Lib.hid (show Qh G G 71 moreB (w2.setCell ⟨gv, ov + s, none⟩ (.int .i64 (z + 1))) l2 ∧ Waits c size n (giveN (rest0 c size n) (j + 1) (qBase c size n) (had0 c size n)).2 l2 ∧ OwnI (w2.setCell ⟨gv, ov + s, none⟩ (.int .i64 (z + 1))) 0 (.slice (some ⟨gv, ov, none⟩) 256 capv) (giveN (rest0 c size n) (j + 1) (qBase c size n) (had0 c size n)).1 ∧ Chg (fun k => some k = Value.ownBlock (.slice (some ⟨gv, ov, none⟩) 256 capv)) w (w2.setCell ⟨gv, ov + s, none⟩ (.int .i64 (z + 1))) from
            ⟨hq3, by rw [hgs]; exact hwt2, by rw [hgs]; exact hst, hc3⟩)
          have hs256 : (s : Int) < 256 := by have := HS1.out; omega
          have hsy := Try.symShare
          rw [show sv (Sh.mk (s : Int) ct pl lf ra) = .agg #[.int .i64 (s : Int), .int .i64 ct, .int .i64 pl, .int .i64 lf, .bool ra] from rfl]
          clear hq2 hp2 hle2 hc2 hs2 hs3 hs4 hs5 hs6 hwt2 hst hgl hcl hfr hc3 hq3 hz hb hgs HNX HWT HV HC HGS HS4 HB
          go_wp2
          go_roundw
          case rel => exact ⟨j + 1, l2, by omega, by go_num, HF.out⟩
          case measure => simp [intOf]; omega
        · obtain rfl : j = miss := by omega
          have HV := Lib.hid hv; have HC := Lib.hid hc
          clear hq hwt hv hc
          go_wp2
          go_returns
          exact ⟨rfl, HV.out, HC.out⟩

end Go.Proofs.Ythghlfghdmifoaa

/- What norm's thin does. THIS SPEAKS OF THE PROGRAM'S OWN TEXT. -/
namespace Go.Proofs.Ythghlfghdmifoaa
open Go.RowKit

theorem all_gives (c : List Int) (size n : Int) (hl : c.length = 256) (h0 : ∀ x ∈ c, 0 ≤ x) : Gives c size n (qBase c size n) (shTo c size n 256) := by
  refine ⟨shTo_nodup c size n 256, fun y => ?_⟩
  rw [mem_shTo]
  constructor
  · rintro ⟨i, h1, h2, h3⟩; exact ⟨i, h1, h2, by rw [gives_base hl h0 i h1 h2]; exact h3⟩
  · rintro ⟨i, h1, h2, h3⟩; exact ⟨i, h1, h2, by rw [← gives_base hl h0 i h1 h2]; exact h3⟩
theorem Gives.perm {c : List Int} {size n : Int} {q : List Int} {l l' : List Sh} (h : Gives c size n q l) (hp : l'.Perm l) : Gives c size n q l' :=
  ⟨hp.nodup_iff.2 h.nd, fun y => by rw [hp.mem_iff]; exact h.mem y⟩

set_option maxHeartbeats 4000000 in
set_option maxRecDepth 100000 in
theorem nthin_any (v u : Value) (c : List Int) (size n : Int) (B0 over : Nat) (w : World) (hl : c.length = 256) (h0 : ∀ x ∈ c, 0 ≤ x) (hu : w.ownsRow B0 79 5 u (shTo c size n 256).length (svs (shTo c size n 256))) (hv : OwnI w 0 v (qBase c size n)) (hmb : over ≤ 100000)
    (hT : Took c (qBase c size n) 0 (qBase c size n)) (hpo : (pos c : Int) ≤ tot (qBase c size n) - (over : Int)) (hqb : ∀ x ∈ qBase c size n, 0 ≤ x ∧ x ≤ 1000000) :
    Calls Try.prog 69 #[v, u, .int .i64 (over : Int)] w fun e w' => e = .returned (.tuple #[]) ∧ OwnI w' 0 v (takeN c over (qBase c size n)) ∧ Chg (fun k => some k = v.ownBlock) w w' := by
  have hgv := all_gives c size n hl h0
  obtain ⟨L, hL⟩ : ∃ L, shTo c size n 256 = L := ⟨_, rfl⟩
  have hLl := shTo_length c size n 256
  rw [hL] at hu hLl hgv
  obtain ⟨m, hmm⟩ : ∃ m, L.length = m := ⟨_, rfl⟩
  rw [hmm] at hu hLl
  obtain ⟨ao, cap, rfl⟩ := own_form hu
  have hmI : (m : Int) ≤ 256 := by omega
  have hsI : (over : Int) ≤ 100000 := by omega
  obtain ⟨gv, ov, capv, rfl, hgv1, hgv2, hgv3⟩ := hv
  have hv : OwnI w 0 (.slice (some ⟨gv, ov, none⟩) (qBase c size n).length capv) (qBase c size n) := ⟨gv, ov, capv, rfl, hgv1, hgv2, hgv3⟩
  have hq256 : (qBase c size n).length = 256 := by simp [qBase, hl]
  rw [hq256] at hv ⊢
  obtain ⟨q0, hq0e⟩ : ∃ q0, qBase c size n = q0 := ⟨_, rfl⟩
  rw [hq0e] at hv hT hpo hqb hgv ⊢
  have hcq := Chg.alloc (fun _ => False) w (.cells #[.slice none 0 0, .func (.func 74) #[] #[]] 83)
  have hq0 := qh_new w 74 greatB
  have HU := Lib.hid hu; have HV := Lib.hid hv; have HT := Lib.hid hT; have HPO := Lib.hid hpo; have HL := Lib.hid hl; have HGI := Lib.hid hgv; have HMM := Lib.hid hmm; have HCQ := Lib.hid hcq; have HQ0 := Lib.hid hq0; have HGV := Lib.hid hgv2; have HQB := Lib.hid (show ∀ s, s < 256 → q0.getD s 0 ≤ 1000000 from fun s hs => (hqb _ (getD_mem (cs := q0) (k := s) (by rw [← hq0e, hq256]; exact hs))).2)
  obtain ⟨G, hG⟩ : ∃ G, w.heap.size = G := ⟨_, rfl⟩
  rw [hG] at HQ0 HGV
  have HG := Lib.hid hG
  clear hu hv hT hpo hl hgv hmm hL hLl hcq hq0 hgv1 hgv2 hgv3 hq256 hqb hmb h0 hq0e
  go_enter Try.func69, Try.ntmps69
  go_wp2
  clear hG
  go_loopw [14] (fun o14 wr => ∃ (k : Nat) (l : List Sh), k ≤ m ∧ o14 = .int .i64 (k : Int) ∧ Qh G G 74 greatB wr l ∧ l.Perm (L.take k) ∧ Chg (fun _ => False) w wr) (fun o14 _ => m - (intOf o14).toNat)
  case atStart => exact ⟨0, [], Nat.zero_le _, rfl, HQ0.out, by simp, HCQ.out⟩
  case round =>
    clear HQ0 HCQ
    obtain ⟨k, l, hk, rfl, hq, hp, hc⟩ := hrel
    have hll : l.length ≤ 256 := by rw [hp.length_eq, List.length_take]; omega
    by_cases hlt : k < m
    · have hown := hc.own HU.out (by simp)
      rw [← HMM.out] at hown
      obtain ⟨g, cap', he, c0, c1, c2, c3, c4⟩ := own_rd hown k (by rw [HMM.out]; exact hlt)
      simp only [Value.slice.injEq] at he
      obtain ⟨rfl, -, -⟩ := he
      have hct : L.take (k + 1) = L.take k ++ [L.getD k default] := by rw [List.take_succ_eq_append_getElem (by rw [HMM.out]; exact hlt), List.getD_eq_getElem?_getD, List.getElem?_eq_getElem (by rw [HMM.out]; exact hlt)]; rfl
      obtain ⟨⟨sy, ct, pl, lf, ra⟩, hs⟩ : ∃ s, L.getD k default = s := ⟨_, rfl⟩
      rw [hs] at c0 c1 c2 c3 c4 hct
      simp only [] at c0 c1 c2 c3 c4
      have hca := Chg.alloc (fun _ => False) wr (.cells #[.int .i64 sy, .int .i64 ct, .int .i64 pl, .int .i64 lf, .bool ra] 79)
      have hqa := hq.kept hca (by simp)
      have hkm : (k : Int) < (m : Int) := by omega
      have hadd := qadd_any isOrd_great (Sh.mk sy ct pl lf ra) hqa (by omega)
      have hcw := hc.trans hca fun _ _ h => h
      have HADD := Lib.hid hadd; have HCW := Lib.hid hcw; have HP := Lib.hid hp; have HCT := Lib.hid hct
      unfold sv at HADD
      simp only [] at HADD
      clear hq hp hc hll hown hct hs hca hqa hadd hcw
      go_wp2_with fail
      refine (HADD.out).mono ?_
      rintro e w2 ⟨rfl, l2, hq2, hp2, hc2⟩
      have HF := Lib.hid (show Qh G G 74 greatB w2 l2 ∧ l2.Perm (L.take (k + 1)) ∧ Chg (fun _ => False) w w2 from ⟨hq2, by
          rw [HCT.out]
          exact (hp2.trans (HP.out.cons _)).trans (List.perm_append_comm (l₁ := [Sh.mk sy ct pl lf ra])), HCW.out.trans hc2 fun q hq he => by have := HG.out; omega⟩)
      clear hq2 hp2 hc2 HADD HCW HP HCT
      go_wp2
      go_roundw
      case rel => exact ⟨k + 1, l2, by omega, by go_num, HF.out⟩
      case measure => simp [intOf]; omega
    · obtain rfl : k = m := by omega
      rw [List.take_of_length_le (by rw [HMM.out]; exact Nat.le_refl _)] at hp
      have hw0 := HGI.out.perm hp
      have hv0 := HV.out.kept hc (by simp)
      have hc0 := hc.mono (T := fun k => some k = Value.ownBlock (.slice (some ⟨gv, ov, none⟩) 256 capv)) fun _ _ h => h.elim
      have HS := Lib.hid (show Qh G G 74 greatB wr l ∧ l.length ≤ 256 ∧ Gives c size n (takeN c 0 q0) l ∧ OwnI wr 0 (.slice (some ⟨gv, ov, none⟩) 256 capv) (takeN c 0 q0) ∧ Chg (fun k => some k = Value.ownBlock (.slice (some ⟨gv, ov, none⟩) 256 capv)) w wr from ⟨hq, hll, hw0, hv0, hc0⟩)
      clear hq hp hc hll hw0 hv0 hc0 HGI HU HMM hlt hk hmI
      obtain ⟨wa, hwa⟩ : ∃ wa, wr = wa := ⟨_, rfl⟩
      rw [hwa] at HS ⊢
      clear hwa
      go_wp2
      go_loopw [23] (fun o23 wr => ∃ (j : Nat) (l : List Sh), j ≤ over ∧ o23 = .int .i64 (j : Int) ∧ Qh G G 74 greatB wr l ∧ l.length ≤ 256 ∧ Gives c size n (takeN c j q0) l ∧ OwnI wr 0 (.slice (some ⟨gv, ov, none⟩) 256 capv) (takeN c j q0) ∧ Chg (fun k => some k = Value.ownBlock (.slice (some ⟨gv, ov, none⟩) 256 capv)) w wr) (fun o23 _ => over - (intOf o23).toNat)
      case atStart => exact ⟨0, l, Nat.zero_le _, rfl, HS.out⟩
      case round =>
        clear HS
        obtain ⟨j, l, hj, rfl, hq, hll, hwt, hv, hc⟩ := hrel
        by_cases hlt : j < over
        · have htk := took HL.out HT.out j (by have := HPO.out; omega)
          have hts : takeN c (j + 1) q0 = takeStep c (takeN c j q0) := takeN_succ c j q0
          obtain ⟨p, hp⟩ : ∃ p, takeN c j q0 = p := ⟨_, rfl⟩
          rw [hp] at htk hts hwt hv
          obtain ⟨hR, h1R, -⟩ := took_step HL.out htk (by have := HPO.out; rw [htk.sum]; omega)
          have hcR : c.getD (richTo p c 255) 0 ≠ 0 := by have := (htk.low _ hR).2.1 (by omega); omega
          have hpl := htk.len
          have htop := htk.top _ hR
          have hqb := HQB.out _ hR
          have hl0 : 0 < l.length := List.length_pos_of_mem ((hwt.mem _).2 ⟨_, hR, hcR, rfl⟩)
          have hnx := qnext_any isOrd_great hq hl0
          have htse : takeStep c p = p.set (richTo p c 255) (p.getD (richTo p c 255) 0 - 1) := rfl
          have HNX := Lib.hid hnx; have HWT := Lib.hid hwt; have HV := Lib.hid hv; have HC := Lib.hid hc; have HTS := Lib.hid hts; have HTE := Lib.hid htse
          obtain ⟨s, hs⟩ : ∃ s, richTo p c 255 = s := ⟨_, rfl⟩
          obtain ⟨z, hz⟩ : ∃ z, p.getD s 0 = z := ⟨_, rfl⟩
          rw [hs, hz] at HTE h1R htop
          rw [hs] at hR hcR hqb
          have hz1 : z ≤ 1000000 := by omega
          have HSS := Lib.hid (show richTo p c 255 = s ∧ p.getD s 0 = z ∧ s < 256 ∧ c.getD s 0 ≠ 0 ∧ p.length = 256 ∧ l.length ≤ 256 from ⟨hs, hz, hR, hcR, hpl, hll⟩)
          have hs256 : (s : Int) < 256 := by omega
          have hjm : (j : Int) < (over : Int) := by omega
          clear hp htk hts hwt hv hcR hpl htop hqb hl0 hnx hq hc htse hs hz hR hll
          go_wp2_with fail
          refine (HNX.out).mono ?_
          rintro e w2 ⟨x, l2, rfl, hq2, hp2, hle2, hc2⟩
          obtain ⟨hs, hz, hR, hcR, hpl, hll⟩ := HSS.out
          obtain ⟨hxe, hwt2⟩ := HWT.out.next hpl hp2 hle2 (by rw [hs]; exact hcR)
          rw [hs] at hxe
          have hsym : x.sym = (s : Int) := by rw [hxe, upSh_sym]
          have hplc : x.plc = z := by rw [hxe, upSh_plc, hz]
          have hl2 : l2.length + 1 ≤ 256 := by have := hp2.length_eq; rw [List.length_cons] at this; omega
          obtain ⟨sy, ct, pl, lf, ra⟩ := x
          simp only [] at hsym hplc hwt2
          subst hsym
          subst hplc
          have hca := Chg.alloc (fun _ => False) w2 (.cells #[.int .i64 (s : Int), .int .i64 ct, .int .i64 (pl - 1), .int .i64 lf, .bool ra] 79)
          have hnew := heap_alloc_new w2 (.cells #[.int .i64 (s : Int), .int .i64 ct, .int .i64 (pl - 1), .int .i64 lf, .bool ra] 79)
          obtain ⟨W1, hW1⟩ : ∃ W1, w2.alloc (.cells #[.int .i64 (s : Int), .int .i64 ct, .int .i64 (pl - 1), .int .i64 lf, .bool ra] 79) = W1 := ⟨_, rfl⟩
          rw [hW1] at hca hnew
          have hv2 := (HV.out.kept hc2 (fun k hk => by simp only [Value.ownBlock, Option.some.injEq] at hk; have := HGV.out; omega)).kept hca (by simp)
          have hst := hv2.store s (by rw [hpl]; exact hR) (pl - 1)
          obtain ⟨g', o', cap', he, -, hgl, hcl, hfr⟩ := hv2
          simp only [Value.slice.injEq, Option.some.injEq, Addr.mk.injEq, and_true] at he
          obtain ⟨⟨rfl, rfl⟩, -, rfl⟩ := he
          have z0 := hcl s (by rw [hpl]; exact hR)
          have z1 := hfr s
          rw [hz] at z0
          have d0 : W1.cell? ⟨w2.heap.size, 0, none⟩ = some (.int .i64 (s : Int)) := by rw [cell_of_row _ _ 0 _ _ _ hnew]; rfl
          have d2 : W1.cell? ⟨w2.heap.size, 2, none⟩ = some (.int .i64 (pl - 1)) := by rw [cell_of_row _ _ 2 _ _ _ hnew]; rfl
          have hgw : gv < w2.heap.size := by have := hc2.size; have := HC.out.size; have := HGV.out; have := HG.out; omega
          have hnew2 : (W1.setCell ⟨gv, ov + s, none⟩ (.int .i64 (pl - 1))).heap[w2.heap.size]? = _ := (heap_setCell_other W1 ⟨gv, ov + s, none⟩ w2.heap.size _ (fun e => by simp at e; omega)).trans hnew
          have f0 : (W1.setCell ⟨gv, ov + s, none⟩ (.int .i64 (pl - 1))).cell? ⟨w2.heap.size, 0, none⟩ = some (.int .i64 (s : Int)) := by rw [cell_of_row _ _ 0 _ _ _ hnew2]; rfl
          have f1 : (W1.setCell ⟨gv, ov + s, none⟩ (.int .i64 (pl - 1))).cell? ⟨w2.heap.size, 1, none⟩ = some (.int .i64 ct) := by rw [cell_of_row _ _ 1 _ _ _ hnew2]; rfl
          have f2 : (W1.setCell ⟨gv, ov + s, none⟩ (.int .i64 (pl - 1))).cell? ⟨w2.heap.size, 2, none⟩ = some (.int .i64 (pl - 1)) := by rw [cell_of_row _ _ 2 _ _ _ hnew2]; rfl
          have f3 : (W1.setCell ⟨gv, ov + s, none⟩ (.int .i64 (pl - 1))).cell? ⟨w2.heap.size, 3, none⟩ = some (.int .i64 lf) := by rw [cell_of_row _ _ 3 _ _ _ hnew2]; rfl
          have f4 : (W1.setCell ⟨gv, ov + s, none⟩ (.int .i64 (pl - 1))).cell? ⟨w2.heap.size, 4, none⟩ = some (.bool ra) := by rw [cell_of_row _ _ 4 _ _ _ hnew2]; rfl
          have hc3 : Chg (fun k => some k = Value.ownBlock (.slice (some ⟨gv, ov, none⟩) 256 capv)) w (W1.setCell ⟨gv, ov + s, none⟩ (.int .i64 (pl - 1))) :=
            ((HC.out.trans hc2 fun q hq he => by have := HG.out; omega).trans hca fun _ _ h => h.elim).trans (Chg.setCell W1 ⟨gv, ov + s, none⟩ _) fun q hq he => by rw [he]; rfl
          have hq3 : Qh G G 74 greatB (W1.setCell ⟨gv, ov + s, none⟩ (.int .i64 (pl - 1))) l2 := (hq2.kept hca (by simp)).kept (Chg.setCell W1 ⟨gv, ov + s, none⟩ _) fun q hq _ he => by have := HGV.out; simp at he; omega
          have hadd := qadd_any isOrd_great (Sh.mk (s : Int) ct (pl - 1) lf ra) hq3 (by omega)
          have HADD := Lib.hid hadd; have HC3 := Lib.hid hc3; have HST := Lib.hid hst; have HWT2 := Lib.hid hwt2; have HL2 := Lib.hid hl2
          rw [show sv (Sh.mk (s : Int) ct pl lf ra) = .agg #[.int .i64 (s : Int), .int .i64 ct, .int .i64 pl, .int .i64 lf, .bool ra] from rfl]
          unfold sv at HADD
          simp only [] at HADD
          have hsy := Try.symShare
          have e1 : wrap64 (pl - 1) = pl - 1 := by unfold wrap64; omega
          clear hq2 hp2 hle2 hc2 hs hz hR hcR hpl hll hxe hwt2 hl2 hca hnew hst hgl hcl hfr hgw hnew2 hc3 hq3 hadd HNX HWT HV HC HSS
          go_wp2_with fail
          refine (HADD.out).mono ?_
          rintro e w4 ⟨rfl, l4, hq4, hp4, hc4⟩
          have HF := Lib.hid (show Qh G G 74 greatB w4 l4 ∧ l4.length ≤ 256 ∧ Gives c size n (takeN c (j + 1) q0) l4 ∧ OwnI w4 0 (.slice (some ⟨gv, ov, none⟩) 256 capv) (takeN c (j + 1) q0) ∧ Chg (fun k => some k = Value.ownBlock (.slice (some ⟨gv, ov, none⟩) 256 capv)) w w4 from
            ⟨hq4, by rw [hp4.length_eq, List.length_cons]; exact HL2.out, by rw [HTS.out]; exact HWT2.out.perm hp4, by
              rw [HTS.out, HTE.out]
              exact HST.out.kept hc4 (fun k hk => by simp only [Value.ownBlock, Option.some.injEq] at hk; have := HGV.out; omega),
              HC3.out.trans hc4 fun q hq he => by have := HG.out; omega⟩)
          clear hq4 hp4 hc4 HADD HC3 HST HWT2 HL2 HTS HTE
          go_wp2
          go_roundw
          case rel => exact ⟨j + 1, l4, by omega, by go_num, HF.out⟩
          case measure => simp [intOf]; omega
        · obtain rfl : j = over := by omega
          have HV := Lib.hid hv; have HC := Lib.hid hc
          clear hq hwt hv hc hll
          go_wp2
          go_returns
          exact ⟨rfl, HV.out, HC.out⟩

end Go.Proofs.Ythghlfghdmifoaa

/- What norm's Counts, Right and Log tell. THIS SPEAKS OF THE PROGRAM'S OWN TEXT. -/
namespace Go.Proofs.Ythghlfghdmifoaa
open Go.RowKit

set_option maxHeartbeats 1000000 in
set_option maxRecDepth 100000 in
theorem nmaybe_any (r : Int) (w : World) : Calls Try.prog 65 #[.int .i64 r] w fun e w' => e = .returned (.bool (decide (1 ≤ r ∧ r ≤ 12))) ∧ w' = w := by
  by_cases h1 : 1 ≤ r
  · by_cases h2 : r ≤ 12
    · rw [decide_eq_true ⟨h1, h2⟩]
      go_enter Try.func65, Try.ntmps65
      go_wp2
      go_ret
      exact ⟨rfl, rfl⟩
    · rw [decide_eq_false (fun h => h2 h.2)]
      go_enter Try.func65, Try.ntmps65
      go_wp2
      go_ret
      exact ⟨rfl, rfl⟩
  · rw [decide_eq_false (fun h => h1 h.1)]
    go_enter Try.func65, Try.ntmps65
    go_wp2
    go_ret
    exact ⟨rfl, rfl⟩

theorem log_of_total {t r : Int} (h1 : 1 ≤ r) (h2 : r ≤ 12) : (t = ((2 ^ r.toNat : Nat) : Int)) ↔ (0 < logI t ∧ ((logI t : Nat) : Int) = r) := by
  constructor
  · intro h
    rw [h, logI_pow (by omega) (by omega)]; omega
  · rintro ⟨h3, h4⟩
    rcases logI_spec t with h5 | ⟨_, h5⟩
    · omega
    · have : r.toNat = logI t := by omega
      rw [this]; exact h5

set_option maxHeartbeats 1000000 in
set_option maxRecDepth 100000 in
theorem nright_any (v : Value) (q : List Int) (r : Int) (w : World) (h : RdI w v q) (hb : ∀ z ∈ q, -9223372036854775808 ≤ z ∧ z ≤ 9223372036854775807) (hl : q.length < 100000000000) (hr : -9223372036854775808 ≤ r ∧ r ≤ 9223372036854775807) :
    Calls Try.prog 63 #[v, .int .i64 r] w fun e w' => e = .returned (.bool (decide (0 < logI (totalI q) ∧ ((logI (totalI q) : Nat) : Int) = r))) ∧ Chg (fun _ => False) w w' := by
  have hq : ∀ m, RdI (w.drewN m) v q := fun m => h.kept ((Chg.refl (fun _ => False) w).drewN m) (by simp)
  have HT := Lib.hid (show ∀ m, Calls Try.prog 24 #[v] (w.drewN m) fun e w' => e = .returned (.int .i64 (totalI q)) ∧ ∃ k, w' = (w.drewN m).drewN k from fun m => htotal_any v q (w.drewN m) (hq m) hb hl)
  have HMB := Lib.hid (nmaybe_any r)
  obtain ⟨ao, cap, rfl⟩ := h.form
  clear h hb hq
  have hle := logI_le (totalI q)
  have hsp := @log_of_total (totalI q) r
  have htl := totalI_le q
  obtain ⟨t, ht⟩ : ∃ t, totalI q = t := ⟨_, rfl⟩
  rw [ht] at HT htl hle hsp ⊢
  obtain ⟨ht0, ht1⟩ := htl
  obtain ⟨hr0, hr1⟩ := hr
  by_cases h1 : 1 ≤ r ∧ r ≤ 12
  · have hpw := pow12 (k := r.toNat) (by omega)
    have hsp := hsp h1.1 h1.2
    obtain ⟨k, rfl⟩ : ∃ k : Nat, r = (k : Int) := ⟨r.toNat, by omega⟩
    rw [Int.toNat_natCast] at hpw hsp
    obtain ⟨P, hP⟩ : ∃ P, 2 ^ k = P := ⟨_, rfl⟩
    have hPI : (2 : Int) ^ k = (P : Int) := by rw [← hP]; simp
    rw [hP] at hpw hsp
    have hpI : (P : Int) ≤ 4096 := by omega
    have hkI : (k : Int) ≤ 12 := h1.2
    have hD : decide (0 < logI t ∧ ((logI t : Nat) : Int) = (k : Int)) = (t == (P : Int)) := by
      rw [Bool.eq_iff_iff]; simp only [decide_eq_true_eq, beq_iff_eq]; exact hsp.symm
    rw [hD]
    rw [decide_eq_true h1] at HMB
    clear hsp hle ht h1 hD hP
    go_enter Try.func63, Try.ntmps63
    go_wp2
    go_quiet (first | (go_at_call 65; with_reducible exact Calls.quiet_of_same (HMB.out _)) | (go_at_call 24; with_reducible exact Calls.quiet_of (HT.out _)))
    go_wp2
    go_ret
    exact ⟨rfl, (Chg.refl _ _).drewN _⟩
  · rw [decide_eq_false h1] at HMB
    have hD : decide (0 < logI t ∧ ((logI t : Nat) : Int) = r) = false := decide_eq_false fun hh => h1 (by omega)
    rw [hD]
    clear hsp hle ht
    go_enter Try.func63, Try.ntmps63
    go_wp2
    go_quiet (first | (go_at_call 65; with_reducible exact Calls.quiet_of_same (HMB.out _)))
    go_wp2
    go_ret
    exact ⟨rfl, (Chg.refl _ _).drewN _⟩

theorem zc_le (size n : Int) (c : List Int) : zc size n c ≤ c.length := by
  induction c with
  | nil => simp [zc]
  | cons x r ih => simp only [zc, List.length_cons]; split <;> omega
theorem mem_le_tot (l : List Int) (h0 : ∀ x ∈ l, 0 ≤ x) : ∀ x ∈ l, x ≤ tot l := by
  induction l with
  | nil => simp
  | cons y r ih =>
    intro x hx
    have hn := tot_nonneg r fun z hz => h0 z (by simp [hz])
    have hy := h0 y (by simp)
    rcases List.mem_cons.1 hx with rfl | hx
    · simp only [tot]; omega
    · have := ih (fun z hz => h0 z (by simp [hz])) x hx
      simp only [tot]; omega
theorem base_right {c : List Int} {size : Int} (h : Fit c size) (hs : size ≤ 4096) : isRight (qBase c size (tot c)) ∧ tot (qBase c size (tot c)) ≤ 4352 ∧ ∀ x ∈ qBase c size (tot c), 0 ≤ x ∧ x ≤ 1000000 := by
  have hn := h.some
  have hb := base_sum size (tot c) c h.low
  have hp := sum_parts size (tot c) c
  have hr := tot_rest_nonneg size (tot c) hn c
  have hz := zc_le size (tot c) c
  rw [h.len] at hz
  have h1 : tot c * tot (q0L c size (tot c)) ≤ tot c * size := by omega
  have h2 := Int.le_of_mul_le_mul_left h1 hn
  have h0 : ∀ x ∈ qBase c size (tot c), 0 ≤ x := by
    intro x hx
    simp only [qBase, List.mem_map] at hx
    obtain ⟨y, hy, rfl⟩ := hx
    have hy0 := h.low y hy
    have := (div_parts y size (tot c) hn hy0 h.sz).1
    split <;> omega
  have ht : tot (qBase c size (tot c)) ≤ 4352 := by omega
  exact ⟨⟨by simp [qBase, h.len], h0, by omega⟩, ht, fun x hx => ⟨h0 x hx, by have := mem_le_tot _ h0 x hx; omega⟩⟩
theorem OwnI.rebase {w : World} {B B' : Nat} {v : Value} {l : List Int} (h : OwnI w B v l) (hb : ∀ k, v.ownBlock = some k → B' ≤ k) : OwnI w B' v l := by
  obtain ⟨g, off, cap, rfl, _, h2⟩ := h
  exact ⟨g, off, cap, rfl, hb g rfl, h2⟩
theorem OwnI.block {w : World} {B : Nat} {v : Value} {l : List Int} (h : OwnI w B v l) : ∀ k, v.ownBlock = some k → B ≤ k := by
  obtain ⟨g, off, cap, rfl, h1, _⟩ := h
  intro k hk
  simp only [Value.ownBlock, Option.some.injEq] at hk
  omega
theorem tot_pos_iff (c : List Int) (h0 : ∀ x ∈ c, 0 ≤ x) : 0 < tot c ↔ 0 < pos c := by
  induction c with
  | nil => simp [tot, pos]
  | cons x r ih =>
    have ih := ih fun z hz => h0 z (by simp [hz])
    have hx := h0 x (by simp)
    have hn := tot_nonneg r fun z hz => h0 z (by simp [hz])
    simp only [tot, pos]
    split <;> omega
theorem many_norm {c : List Int} {r : Int} (h1 : 1 ≤ r) (h2 : r ≤ 12) : normOk c r ↔ manyI c ≠ 0 ∧ (manyI c : Int) ≤ ((2 ^ r.toNat : Nat) : Int) := by
  unfold normOk manyI
  by_cases h : isRight c
  · rw [if_pos h]
    have hp := tot_pos_iff c h.2.1
    constructor
    · rintro ⟨_, h3, _, _, h4⟩; exact ⟨by omega, h4⟩
    · rintro ⟨h3, h4⟩; exact ⟨h, by omega, h1, h2, h4⟩
  · rw [if_neg h]
    exact ⟨fun hh => absurd hh.1 h, fun hh => absurd rfl hh.1⟩

set_option maxHeartbeats 2000000 in
set_option maxRecDepth 100000 in
theorem ncounts_room (v : Value) (c : List Int) (r : Int) (w : World) (h : RdI w v c) (hb : ∀ z ∈ c, -9223372036854775808 ≤ z ∧ z ≤ 9223372036854775807) (hl : c.length < 100000000000) (hr : -9223372036854775808 ≤ r ∧ r ≤ 9223372036854775807) :
    Calls Try.prog 53 #[v, .int .i64 r] w fun e w' => NormSays w c r e w' ∧ RoomE e := by
  have HMA := Lib.hid (hmany_any v c w h hb hl)
  have H := Lib.hid h; have HB := Lib.hid hb
  obtain ⟨hr0, hr1⟩ := hr
  by_cases h1 : 1 ≤ r ∧ r ≤ 12
  · have hmb := nmaybe_any r w
    rw [decide_eq_true h1] at hmb
    have HMB := Lib.hid hmb
    have hmn := many_norm (c := c) h1.1 h1.2
    have hml := manyI_le c
    have hpw := pow12 (k := r.toNat) (by omega)
    obtain ⟨k, rfl⟩ : ∃ k : Nat, r = (k : Int) := ⟨r.toNat, by omega⟩
    rw [Int.toNat_natCast] at hmn hpw
    have hnr : normR c (k : Int) = normC c ((2 ^ k : Nat) : Int) := by unfold normR; rw [Int.toNat_natCast]
    obtain ⟨P, hP⟩ : ∃ P, 2 ^ k = P := ⟨_, rfl⟩
    have hPI : (2 : Int) ^ k = (P : Int) := by rw [← hP]; simp
    have hP1 : 1 ≤ P := by rw [← hP]; exact Nat.two_pow_pos k
    have hfit : normOk c (k : Int) → Fit c (P : Int) := fun hh => by have := hh.fit; rw [Int.toNat_natCast, hP] at this; exact this
    rw [hP] at hmn hpw hnr
    have hpI : (P : Int) ≤ 4096 := by omega
    have hpI1 : 1 ≤ (P : Int) := by omega
    have hkI : (k : Int) ≤ 12 := h1.2
    obtain ⟨M, hM⟩ : ∃ M, manyI c = M := ⟨_, rfl⟩
    rw [hM] at hmn hml HMA
    obtain ⟨ao, cap, rfl⟩ := h.form
    have HMN := Lib.hid hmn; have HNR := Lib.hid hnr; have HFIT := Lib.hid hfit
    have hMI : (M : Int) ≤ 256 := by omega
    clear h hb h1 hmb hmn hml hnr hfit hP hM hpw hP1
    by_cases hok : M ≠ 0 ∧ (M : Int) ≤ (P : Int)
    · have hno : normOk c (k : Int) := HMN.out.2 hok
      have HNO := Lib.hid hno
      have hfit := HFIT.out hno
      have hbr := base_right hfit hpI
      have hgr := give_room hfit.low rfl hfit.some (size := (P : Int)) (c := c)
      have ht0 := hfit.took0
      have hgs := hfit.gaveSum
      have hmany := hfit.many
      have hll := lay_all c (P : Int) (tot c) hfit.len hfit.low (List.replicate 256 0) List.length_replicate (fun j => by rw [List.getD_eq_getElem?_getD, List.getElem?_replicate]; split <;> rfl)
      have hM0 : ¬ M = 0 := hok.1
      have hMP : M ≤ P := by omega
      have hMPI : decide ((P : Int) < (M : Int)) = false := decide_eq_false (by omega)
      have hMPn : ¬ P < M := by omega
      have HD := Lib.hid (show ∀ w', RdI w' (.slice ao c.length cap) c → Calls Try.prog 66 #[.slice ao c.length cap, .int .i64 (P : Int)] w' fun e w2 => ∃ u, e = .returned u ∧ w2.ownsRow w'.heap.size 79 5 u (shTo c (P : Int) (tot c) 256).length (svs (shTo c (P : Int) (tot c) 256)) ∧ Chg (fun _ => False) w' w2 from
        fun w' hw' => ndivide_any _ c (P : Int) (tot c) w' hw' HB.out hno.1 rfl hno.2.1 hpI1 hpI)
      have HFT := Lib.hid hfit; have HBR := Lib.hid hbr; have HGR := Lib.hid hgr; have HT0 := Lib.hid ht0; have HGS := Lib.hid hgs; have HMY := Lib.hid hmany; have HLL := Lib.hid hll
      clear hno hfit hbr hgr ht0 hgs hmany hll hok
      go_enter Try.func53, Try.ntmps53
      go_wp2_with fail
      refine HMB.out.mono ?_
      rintro e w1 ⟨rfl, rfl⟩
      go_wp2_with fail
      refine HMA.out.mono ?_
      rintro e w2 ⟨rfl, m0, rfl⟩
      have hc2 : Chg (fun _ => False) w1 (w1.drewN m0) := (Chg.refl _ _).drewN m0
      obtain ⟨w2, hw2⟩ : ∃ w2, w1.drewN m0 = w2 := ⟨_, rfl⟩
      rw [hw2] at hc2 ⊢
      have HC2 := Lib.hid hc2
      clear hw2 hc2 HMA HMB
      go_wp2_with fail
      refine (HD.out w2 (H.out.kept HC2.out (by simp))).mono ?_
      rintro e w3 ⟨u, rfl, hu3, hc3⟩
      have hsz3 : w2.heap.size ≤ w3.heap.size := hc3.size
      have htl := ntold_room u (shTo c (P : Int) (tot c) 256) w2.heap.size w3 hu3 (by have := shTo_length c (P : Int) (tot c) 256; omega) (fun s hs => by
        obtain ⟨i, h1, h2, h3⟩ := (mem_shTo c (P : Int) (tot c) 256 s).1 hs
        rw [h3, mkSh_sym]; omega) (List.replicate 256 0) rfl
      rw [HLL.out] at htl
      have HTL := Lib.hid htl; have HU3 := Lib.hid hu3; have HC3 := Lib.hid (HC2.out.trans hc3 fun _ _ h => h); have HSZ := Lib.hid hsz3
      clear hu3 hc3 hsz3 htl HD
      go_wp2_with fail
      refine HTL.out.mono ?_
      rintro e w4 ⟨q, rfl, hq4, hc4, hrm4⟩
      have HRM := Lib.hid hrm4
      clear hrm4
      have hu4 := hc4.own HU3.out (by simp)
      have HU4 := Lib.hid hu4; have HQ4 := Lib.hid hq4; have HC4 := Lib.hid (HC3.out.trans hc4 fun _ _ h => h)
      have hbq := hq4.block
      have HBQ := Lib.hid (show ∀ k, q.ownBlock = some k → w1.heap.size ≤ k from fun k hk => by have := hbq k hk; have := HC3.out.size; omega)
      have HTQ := Lib.hid (show ∀ m, Calls Try.prog 24 #[q] (w4.drewN m) fun e w' => e = .returned (.int .i64 (tot (qBase c (P : Int) (tot c)))) ∧ ∃ k, w' = (w4.drewN m).drewN k from fun m => by
        have hh := htotal_any q (qBase c (P : Int) (tot c)) (w4.drewN m) (hq4.rd.kept ((Chg.refl (fun _ => False) w4).drewN m) (by simp)) (fun z hz => by have := (HBR.out.2.2 z hz); omega) (by rw [HBR.out.1.1]; omega)
        have ht : totalI (qBase c (P : Int) (tot c)) = tot (qBase c (P : Int) (tot c)) := by unfold totalI; rw [if_pos HBR.out.1]
        rw [ht] at hh
        exact hh)
      obtain ⟨T, hT⟩ : ∃ T, tot (qBase c (P : Int) (tot c)) = T := ⟨_, rfl⟩
      have hTb : 0 ≤ T ∧ T ≤ 4352 := by rw [← hT]; exact ⟨tot_nonneg _ HBR.out.1.2.1, HBR.out.2.1⟩
      rw [hT] at HTQ
      have HTT := Lib.hid hT
      obtain ⟨hT0, hT1⟩ := hTb
      obtain ⟨ao4, cap4, hqf⟩ : ∃ ao4 cap4, q = .slice ao4 256 cap4 := by
        obtain ⟨g, off, cap, he, _⟩ := hq4
        exact ⟨_, _, by rw [he, HBR.out.1.1]⟩
      clear hu4 hq4 hc4 hbq hT HTL HU3 HC3
      have hw1 : IntKind.i64.wrap (P : Int) = (P : Int) := by rw [IntKind.wrap_i64]; omega
      have hw2 : IntKind.i64.wrap (T - (P : Int)) = T - (P : Int) := by rw [IntKind.wrap_i64]; omega
      by_cases hov : T < (P : Int)
      · obtain ⟨miss, hmiss⟩ : ∃ miss : Nat, (P : Int) - T = (miss : Int) := ⟨((P : Int) - T).toNat, by omega⟩
        have e1 : T - (P : Int) = - (miss : Int) := by omega
        have hfl := fun m => nfill_any q u c (P : Int) (tot c) w2.heap.size miss (w4.drewN m) HFT.out.len (((Chg.refl (fun _ => False) w4).drewN m).own HU4.out (by simp)) ((HQ4.out.kept ((Chg.refl (fun _ => False) w4).drewN m) (by simp)).mono (Nat.zero_le _))
          (by have := HGR.out; rw [HTT.out, hmiss] at this; simpa using this) (by omega) HBR.out.2.2
        have hres : normC c (P : Int) = (giveN (rest0 c (P : Int) (tot c)) miss (qBase c (P : Int) (tot c)) (had0 c (P : Int) (tot c))).1 := by
          have hg := HGS.out
          rw [HTT.out] at hg
          unfold normC
          rw [show (tot (gaveC c (P : Int) (tot c)) - (P : Int)).toNat = 0 by rw [hg]; omega]
          show gaveC c (P : Int) (tot c) = _
          unfold gaveC
          rw [HTT.out, show ((P : Int) - T).toNat = miss by omega]
        have HFL := Lib.hid hfl; have HRES := Lib.hid hres
        have hmI : (miss : Int) ≤ 4096 := by omega
        have hneg : decide (T - (P : Int) < 0) = true := decide_eq_true (by omega)
        have hwm : wrap64 (miss : Int) = (miss : Int) := by unfold wrap64; omega
        rw [e1] at hw2 hneg
        have hm0 : decide (-(miss : Int) < 0) = true := hneg
        have hmpos : 0 < miss := by omega
        clear hfl hres hov hmiss hneg
        subst hqf
        go_wp2
        go_quiet (first | (go_at_call 24; with_reducible exact Calls.quiet_of (HTQ.out _)))
        go_wp2_with fail
        refine (HFL.out _).mono ?_
        rintro e w5 ⟨rfl, hq5, hc5⟩
        have hc6 : Chg (fun _ => False) w1 w5 := (HC4.out.drewN nq).trans hc5 fun q hq he => by have := HBQ.out q he.symm; omega
        have HQ5 := Lib.hid (hq5.rebase HBQ.out); have HC6 := Lib.hid hc6
        clear hq5 hc5 hc6
        go_wp2
        go_ret2
        exact ⟨⟨_, by rw [if_pos HNO.out]; rfl, fun _ => by rw [HNR.out, HRES.out]; exact HQ5.out, fun hh => absurd HNO.out hh, HC6.out⟩, fun v x he => by cases he; exact HRM.out⟩
      · obtain ⟨over, hover⟩ : ∃ over : Nat, T - (P : Int) = (over : Int) := ⟨(T - (P : Int)).toNat, by omega⟩
        have hgb : gaveC c (P : Int) (tot c) = qBase c (P : Int) (tot c) := by
          unfold gaveC
          rw [HTT.out, show ((P : Int) - T).toNat = 0 by omega]
          rfl
        have htk := HT0.out
        rw [hgb] at htk
        have hres : normC c (P : Int) = takeN c over (qBase c (P : Int) (tot c)) := by
          unfold normC
          rw [hgb, HTT.out, show (T - (P : Int)).toNat = over by omega]
        have hfl := fun m => nthin_any q u c (P : Int) (tot c) w2.heap.size over (w4.drewN m) HFT.out.len HFT.out.low (((Chg.refl (fun _ => False) w4).drewN m).own HU4.out (by simp)) ((HQ4.out.kept ((Chg.refl (fun _ => False) w4).drewN m) (by simp)).mono (Nat.zero_le _))
          (by omega) htk (by rw [HTT.out]; have := HMY.out; omega) HBR.out.2.2
        have HFL := Lib.hid hfl; have HRES := Lib.hid hres
        have hmI : (over : Int) ≤ 4352 := by omega
        rw [hover] at hw2
        have hm0 : decide ((over : Int) < 0) = false := decide_eq_false (by omega)
        clear hfl hres hov hgb htk
        subst hqf
        go_wp2
        go_quiet (first | (go_at_call 24; with_reducible exact Calls.quiet_of (HTQ.out _)))
        go_wp2_with fail
        refine (HFL.out _).mono ?_
        rintro e w5 ⟨rfl, hq5, hc5⟩
        have hc6 : Chg (fun _ => False) w1 w5 := (HC4.out.drewN nq).trans hc5 fun q hq he => by have := HBQ.out q he.symm; omega
        have HQ5 := Lib.hid (hq5.rebase HBQ.out); have HC6 := Lib.hid hc6
        clear hq5 hc5 hc6
        go_wp2
        go_ret2
        exact ⟨⟨_, by rw [if_pos HNO.out]; rfl, fun _ => by rw [HNR.out, HRES.out]; exact HQ5.out, fun hh => absurd HNO.out hh, HC6.out⟩, fun v x he => by cases he; exact HRM.out⟩
    · have hno : ¬ normOk c (k : Int) := fun hh => hok (HMN.out.1 hh)
      have HNO := Lib.hid hno
      clear hno
      by_cases hM0 : M = 0
      · subst hM0
        go_enter Try.func53, Try.ntmps53
        go_wp2_with fail
        refine HMB.out.mono ?_
        rintro e w1 ⟨rfl, rfl⟩
        go_wp2_with fail
        refine HMA.out.mono ?_
        rintro e w2 ⟨rfl, m0, rfl⟩
        go_wp2
        go_ret2
        exact ⟨⟨_, by rw [if_neg HNO.out]; rfl, fun hh => absurd hh HNO.out, fun _ => .inl ⟨rfl, _, _, rfl⟩, (Chg.refl _ _).drewN _⟩, .of (Nat.le_refl _)⟩
      · have hgt : ¬ M ≤ P := fun hh => hok ⟨hM0, by omega⟩
        have hgI : (P : Int) < (M : Int) := by omega
        clear hok
        go_enter Try.func53, Try.ntmps53
        go_wp2_with fail
        refine HMB.out.mono ?_
        rintro e w1 ⟨rfl, rfl⟩
        go_wp2_with fail
        refine HMA.out.mono ?_
        rintro e w2 ⟨rfl, m0, rfl⟩
        go_wp2
        go_ret2
        exact ⟨⟨_, by rw [if_neg HNO.out]; rfl, fun hh => absurd hh HNO.out, fun _ => .inl ⟨rfl, _, _, rfl⟩, (Chg.refl _ _).drewN _⟩, .of (Nat.le_refl _)⟩
  · have hmb := nmaybe_any r w
    rw [decide_eq_false h1] at hmb
    have HMB := Lib.hid hmb
    have hno : ¬ normOk c r := fun hh => h1 ⟨hh.2.2.1, hh.2.2.2.1⟩
    have HNO := Lib.hid hno
    obtain ⟨ao, cap, rfl⟩ := h.form
    clear h hb h1 hmb hno
    go_enter Try.func53, Try.ntmps53
    go_wp2_with fail
    refine HMB.out.mono ?_
    rintro e w1 ⟨rfl, rfl⟩
    go_wp2
    go_ret2
    exact ⟨⟨_, by rw [if_neg HNO.out]; rfl, fun hh => absurd hh HNO.out, fun _ => .inl ⟨rfl, _, _, rfl⟩, Chg.refl _ _⟩, .of (Nat.le_refl _)⟩

theorem ncounts_any (v : Value) (c : List Int) (r : Int) (w : World) (h : RdI w v c) (hb : ∀ z ∈ c, -9223372036854775808 ≤ z ∧ z ≤ 9223372036854775807) (hl : c.length < 100000000000) (hr : -9223372036854775808 ≤ r ∧ r ≤ 9223372036854775807) :
    Calls Try.prog 53 #[v, .int .i64 r] w fun e w' => NormSays w c r e w' := (ncounts_room v c r w h hb hl hr).mono fun _ _ h => h.1

end Go.Proofs.Ythghlfghdmifoaa

/- What model's Right tells: every list is asked by a method value. THIS SPEAKS OF THE PROGRAM'S OWN TEXT (and of slices.IndexFunc and slices.ContainsFunc over lists). -/
namespace Go.Proofs.Ythghlfghdmifoaa
open Go.RowKit

theorem totalI_nil : totalI [] = 0 := by unfold totalI; rw [if_neg (fun h => by have := h.1; simp at this)]
theorem logI_zero : logI 0 = 0 := logI_none fun r _ _ he => by have := Nat.two_pow_pos r; omega

/-- a block of two fields: a number, and whether -/
def Kd (w : World) (g : Nat) (log : Int) (one : Bool) : Prop := w.heap[g]? = some (.cells #[.int .i64 log, .bool one] 55 (0, 0))
theorem Kd.made (w : World) (log : Int) (one : Bool) : Kd (w.alloc (.cells #[.int .i64 log, .bool one] 55)) w.heap.size log one := heap_alloc_new w _
theorem Kd.kept {S : Nat → Prop} {w w' : World} {g : Nat} {log : Int} {one : Bool} (h : Kd w g log one) (hc : Chg S w w') (hS : ¬ S g) : Kd w' g log one := (hc.block g (lt_of_block h) hS).trans h
theorem Kd.cells {w : World} {g : Nat} {log : Int} {one : Bool} (h : Kd w g log one) : w.cell? ⟨g, 0, none⟩ = some (.int .i64 log) ∧ w.cell? ⟨g, 1, none⟩ = some (.bool one) :=
  ⟨by rw [cell_of_row _ _ 0 _ _ _ h]; rfl, by rw [cell_of_row _ _ 1 _ _ _ h]; rfl⟩

set_option maxRecDepth 100000 in
theorem mbroken_any (log : Int) (one : Bool) (u : Value) (l : List Int) (w : World) (h : RdI w u l) (hb : ∀ z ∈ l, -9223372036854775808 ≤ z ∧ z ≤ 9223372036854775807) (hl : l.length < 100000000000) (h1 : 1 ≤ log) (h2 : log ≤ 12) :
    Calls Try.prog 41 #[.agg #[.int .i64 log, .bool (!one)], u] w fun e w' => e = .returned (.bool (decide (¬ okL log one l))) ∧ Chg (fun _ => False) w w' := by
  obtain ⟨ao, cap, rfl⟩ := h.form
  have hk := Kd.made w log (!one)
  have hc := Chg.alloc (fun _ => False) w (.cells #[.int .i64 log, .bool (!one)] 55)
  have hR := nright_any (.slice ao l.length cap) l log _ (h.kept hc (by simp)) hb hl (by omega)
  obtain ⟨may, hmay⟩ : ∃ may, (!one) = may := ⟨_, rfl⟩
  rw [hmay] at hk hc hR ⊢
  obtain ⟨W, hW⟩ : ∃ W, w.alloc (.cells #[.int .i64 log, .bool may] 55) = W := ⟨_, rfl⟩
  rw [hW] at hk hc hR
  obtain ⟨c0, c1⟩ := hk.cells
  have HC := Lib.hid hc; have HR := Lib.hid hR
  by_cases h0 : l = []
  · have hlg : logI (totalI l) = 0 := by rw [h0, totalI_nil, logI_zero]
    have hv : decide (¬ okL log one l) = !may := by
      have hi : okL log one l ↔ one = false := by
        unfold okL
        constructor
        · rintro (h3 | h3)
          · exact h3.2
          · omega
        · exact fun h3 => .inl ⟨h0, h3⟩
      rw [← hmay, Bool.not_not]
      cases one with
      | true => exact decide_eq_true (fun h3 => by simpa using hi.1 h3)
      | false => exact decide_eq_false (fun h3 => h3 (hi.2 rfl))
    rw [hv]
    have hlen : l.length = 0 := by rw [h0]; rfl
    rw [hlen]
    clear hk hc hR h hb hl hv hlg hlen h0 hmay
    go_enter Try.func41, Try.ntmps41
    go_wp2
    go_ret
    exact ⟨rfl, HC.out⟩
  · have hv : decide (¬ okL log one l) = !(decide (0 < logI (totalI l) ∧ ((logI (totalI l) : Nat) : Int) = log)) := by
      rw [← decide_not]
      refine decide_eq_decide.2 (not_congr ?_)
      unfold okL
      constructor
      · rintro (⟨h3, _⟩ | h3)
        · exact absurd h3 h0
        · exact ⟨by omega, h3⟩
      · exact fun h3 => .inr h3.2
    rw [hv]
    have hpos : 0 < l.length := List.length_pos_iff.2 h0
    obtain ⟨n, hn⟩ : ∃ n, l.length = n := ⟨_, rfl⟩
    rw [hn] at hpos HR ⊢
    obtain ⟨D, hD⟩ : ∃ D, decide (0 < logI (totalI l) ∧ ((logI (totalI l) : Nat) : Int) = log) = D := ⟨_, rfl⟩
    rw [hD] at HR ⊢
    have hne : ((n : Int) == 0) = false := by simp; omega
    have hn0 : ¬ n = 0 := by omega
    clear hk hc hR h hb hl hv h0 hn hD hmay
    go_enter Try.func41, Try.ntmps41
    go_wp2_with fail
    refine HR.out.mono ?_
    rintro e w1 ⟨rfl, hc1⟩
    have C1 := Lib.hid (HC.out.trans hc1 fun _ _ h => h)
    clear hc1
    go_wp2
    go_ret
    exact ⟨rfl, C1.out⟩

theorem mlistsN_any (one : Bool) (w : World) : Calls Try.prog 39 #[.bool one] w fun e w' => e = .returned (.int .i64 (if one then 1 else 256)) ∧ w' = w := by
  cases one with
  | true =>
    go_enter Try.func39, Try.ntmps39
    go_wp2
    go_ret
    exact ⟨rfl, rfl⟩
  | false =>
    go_enter Try.func39, Try.ntmps39
    go_wp2
    go_ret
    exact ⟨rfl, rfl⟩
theorem Try.entersBr (args : Array Value) (w : World) : (callFunc 41 args).run Try.prog w = .ok (.enter 41 args) w := by kernel_rfl

/-- the first list of which it is so, asked of each by a function that is handed in -/
def FirstOf (L : List (List Int)) (P : List Int → Prop) (r : Int) : Prop := (r = -1 ∧ ∀ j, j < L.length → ¬ P (L.getD j [])) ∨ ∃ k : Nat, r = (k : Int) ∧ k < L.length ∧ P (L.getD k [])

set_option maxRecDepth 20000 in
set_option maxHeartbeats 1000000 in
theorem mindex_any (m1 : Nat) (first : Value) (P : List Int → Prop) [DecidablePred P] (v : Value) (L : List (List Int)) (w : World) (h : RdLL w v L) (hl : L.length < 100000000000)
    (hm1 : ∀ args W, (callFunc m1 args).run Try.prog W = .ok (.enter m1 args) W)
    (hc : ∀ W u j, Chg (fun _ => False) w W → j < L.length → RdI W u (L.getD j []) → Calls Try.prog m1 #[first, u] W fun e W' => e = .returned (.bool (decide (P (L.getD j [])))) ∧ Chg (fun _ => False) W W') :
    Calls Try.prog 62 #[v, .func (.func m1) #[first] #[]] w fun e w' => ∃ r, e = .returned (.int .i64 r) ∧ FirstOf L P r ∧ Chg (fun _ => False) w w' := by
  obtain ⟨ao, cap, rfl⟩ := h.form
  have H := Lib.hid h; have HC := Lib.hid hc
  obtain ⟨n, hn⟩ : ∃ n, L.length = n := ⟨_, rfl⟩
  have HN := Lib.hid hn
  rw [hn] at hl ⊢
  have hlI : (n : Int) < 100000000000 := by omega
  clear h hc hn
  go_enter Try.func62, Try.ntmps62
  go_wp2
  go_loopw [4, 5, 8] (fun _ _ o8 wr => ∃ k : Nat, k ≤ n ∧ o8 = .int .i64 (k : Int) ∧ (∀ j, j < k → ¬ P (L.getD j [])) ∧ Chg (fun _ => False) w wr) (fun _ _ o8 _ => n - (intOf o8).toNat)
  case atStart => exact ⟨0, Nat.zero_le _, rfl, fun j hj => by omega, Chg.refl _ _⟩
  case round =>
    obtain ⟨k, hk, rfl, hno, hcg⟩ := hrel
    have NO := Lib.hid hno; have CG := Lib.hid hcg
    clear hno
    by_cases hkn : k < n
    · obtain ⟨g, off, u, rfl, hu1, hu2⟩ := (H.out.kept hcg).at k (by rw [HN.out]; exact hkn)
      have CL := Lib.hid (HC.out wr u k hcg (by rw [HN.out]; exact hkn) hu2)
      have hki : (k : Int) < (n : Int) := by omega
      clear hcg hu2
      go_wp2_with fail
      refine (CL.out).mono ?_
      rintro e w1 ⟨rfl, hc1⟩
      have C1 := Lib.hid (CG.out.trans hc1 fun _ _ h => h)
      clear hc1
      by_cases hp : P (L.getD k [])
      · rw [decide_eq_true hp]
        have HP := Lib.hid hp
        clear hp
        go_wp2
        go_ret
        exact ⟨_, rfl, .inr ⟨k, rfl, by rw [HN.out]; exact hkn, HP.out⟩, C1.out⟩
      · rw [decide_eq_false hp]
        have HP := Lib.hid hp
        clear hp
        go_wp2
        go_roundw
        case rel => exact ⟨k + 1, by omega, by go_num, fun j hj => by
          by_cases hjk : j = k
          · rw [hjk]; exact HP.out
          · exact NO.out j (by omega), C1.out⟩
        case measure => simp [intOf]; omega
    · obtain rfl : k = n := by omega
      clear hcg
      go_wp2
      go_ret
      exact ⟨_, rfl, .inl ⟨rfl, fun j hj => NO.out j (by rw [HN.out] at hj; exact hj)⟩, CG.out⟩

theorem mcontains_any (m1 : Nat) (first : Value) (P : List Int → Prop) [DecidablePred P] (v : Value) (L : List (List Int)) (w : World) (h : RdLL w v L) (hl : L.length < 100000000000)
    (hm1 : ∀ args W, (callFunc m1 args).run Try.prog W = .ok (.enter m1 args) W)
    (hc : ∀ W u j, Chg (fun _ => False) w W → j < L.length → RdI W u (L.getD j []) → Calls Try.prog m1 #[first, u] W fun e W' => e = .returned (.bool (decide (P (L.getD j [])))) ∧ Chg (fun _ => False) W W') :
    Calls Try.prog 40 #[v, .func (.func m1) #[first] #[]] w fun e w' => e = .returned (.bool (decide (∃ j, j < L.length ∧ P (L.getD j [])))) ∧ Chg (fun _ => False) w w' := by
  have IX := Lib.hid (mindex_any m1 first P v L w h hl hm1 hc)
  clear h hl hm1 hc
  go_enter Try.func40, Try.ntmps40
  go_wp2_with fail
  refine (IX.out).mono ?_
  rintro e w1 ⟨r, rfl, hr, hc1⟩
  have hv : decide (0 ≤ r) = decide (∃ j, j < L.length ∧ P (L.getD j [])) := by
    refine decide_eq_decide.2 ⟨fun h => ?_, fun ⟨j, h1, h2⟩ => ?_⟩
    · rcases hr with ⟨rfl, _⟩ | ⟨k, _, h1, h2⟩
      · omega
      · exact ⟨k, h1, h2⟩
    · rcases hr with ⟨_, h3⟩ | ⟨k, rfl, _⟩
      · exact absurd h2 (h3 j h1)
      · omega
  have C1 := Lib.hid hc1; have HV := Lib.hid hv
  clear hc1 hv hr
  go_wp2
  go_ret
  exact ⟨by rw [← HV.out]; rfl, C1.out⟩

set_option maxRecDepth 100000 in
set_option maxHeartbeats 2000000 in
theorem mright_any (v : Value) (m : Md) (w : World) (h : RdM w v m) (hf : m.fit64) : Calls Try.prog 15 #[v] w fun e w' => e = .returned (.bool (decide m.right)) ∧ Chg (fun _ => False) w w' := by
  obtain ⟨cv, rfl, hl⟩ := h
  obtain ⟨ao, cap, rfl⟩ := hl.form
  unfold mdv
  have hca := Chg.alloc (fun _ => False) w (.cells #[.int .i64 m.log, .bool m.one, .slice ao m.cs.length cap] 26)
  have hmb : Mb _ _ m.log m.one (.slice ao m.cs.length cap) := heap_alloc_new w (.cells #[.int .i64 m.log, .bool m.one, .slice ao m.cs.length cap] 26)
  have hl1 := hl.kept hca
  have HFA := Lib.hid hf.at
  obtain ⟨⟨hlo, hhi⟩, hlen, -⟩ := hf
  obtain ⟨D, hD⟩ : ∃ D, decide m.right = D := ⟨_, rfl⟩
  rw [hD]
  have HD := Lib.hid hD
  have HLS := Lib.hid (mlistsN_any m.one)
  obtain ⟨log, one, cs⟩ := m
  simp only [] at *
  obtain ⟨n, hn⟩ : ∃ n, cs.length = n := ⟨_, rfl⟩
  have HN := Lib.hid hn
  rw [hn] at hca hmb hl1 hlen ⊢
  obtain ⟨W1, hW1⟩ : ∃ W, w.alloc (.cells #[.int .i64 log, .bool one, .slice ao n cap] 26) = W := ⟨_, rfl⟩
  rw [hW1] at hca hmb hl1
  obtain ⟨b0, b1, b2⟩ := hmb.cells
  have HCA := Lib.hid hca
  by_cases g1 : log < 1
  · have hv : D = false := by rw [← HD.out]; exact decide_eq_false fun hh => by have := hh.1; simp only [] at this; omega
    subst hv
    have d1 : decide (log < 1) = true := decide_eq_true g1
    clear hl hmb hl1 hD hn hca
    go_enter Try.func15, Try.ntmps15
    go_wp2
    go_quiet (fail)
    go_wp2
    go_ret
    exact ⟨rfl, HCA.out.drewN _⟩
  have d1 : decide (log < 1) = false := decide_eq_false g1
  by_cases g2 : 12 < log
  · have hv : D = false := by rw [← HD.out]; exact decide_eq_false fun hh => by have := hh.1; simp only [] at this; omega
    subst hv
    have d2 : decide (12 < log) = true := decide_eq_true g2
    clear hl hmb hl1 hD hn hca
    go_enter Try.func15, Try.ntmps15
    go_wp2
    go_quiet (fail)
    go_wp2
    go_ret
    exact ⟨rfl, HCA.out.drewN _⟩
  have d2 : decide (12 < log) = false := decide_eq_false g2
  obtain ⟨NL, hNL⟩ : ∃ NL : Nat, NL = (if one then 1 else 256) := ⟨_, rfl⟩
  have hli : (if one = true then (1 : Int) else 256) = (NL : Int) := by rw [hNL]; split <;> rfl
  rw [hli] at HLS
  have hnl : NL ≤ 256 := by rw [hNL]; split <;> omega
  have HNL := Lib.hid hNL
  clear hNL hli
  by_cases g3 : n = NL
  · subst g3
    have e1 : ((n : Int) == (n : Int)) = true := by simp
    have HBI := Lib.hid (fun W2 (hW2 : Chg (fun _ => False) W1 W2) => mcontains_any 41 (.agg #[.int .i64 log, .bool (!one)]) (fun l => ¬ okL log one l) (.slice ao cs.length cap) cs W2 (by rw [HN.out]; exact hl1.kept hW2) (by rw [HN.out]; omega) Try.entersBr
      fun W u j _ hj hu => mbroken_any log one u _ W hu (HFA.out j hj).2 (HFA.out j hj).1 (by omega) (by omega))
    have hv : D = !(decide (∃ j, j < cs.length ∧ ¬ okL log one (cs.getD j []))) := by
      rw [← HD.out, ← decide_not]
      refine decide_eq_decide.2 ⟨fun hh => ?_, fun hh => ?_⟩
      · rintro ⟨j, hj, hk⟩
        exact hk (hh.at j hj)
      · refine ⟨by simp only []; omega, by simp only []; rw [HN.out, HNL.out], right_take (k := cs.length) (fun j hj => ?_) rfl⟩
        exact Decidable.byContradiction fun hk => hh ⟨j, hj, hk⟩
    obtain ⟨X, hX⟩ : ∃ X, decide (∃ j, j < cs.length ∧ ¬ okL log one (cs.getD j [])) = X := ⟨_, rfl⟩
    rw [hX] at hv HBI
    rw [HN.out] at HBI
    subst hv
    have HMB := Lib.hid hmb
    clear hl hmb hl1 hD hn hca hX
    go_enter Try.func15, Try.ntmps15
    go_wp2
    go_quiet (first | (go_at_call 39; with_reducible exact Calls.quiet_of_same (HLS.out _)))
    obtain ⟨W2, hW2⟩ : ∃ W2, W1.drewN nq = W2 := ⟨_, rfl⟩
    have hc2 : Chg (fun _ => False) W1 W2 := by rw [← hW2]; exact (Chg.refl _ _).drewN _
    rw [hW2]
    have hmb2 := HMB.out.kept hc2 (by simp)
    obtain ⟨x0, x1, x2⟩ := hmb2.cells
    have hk := Kd.made W2 log (!one)
    have hc3 := Chg.alloc (fun _ => False) W2 (.cells #[.int .i64 log, .bool (!one)] 55)
    have hmb3 := hmb2.kept hc3 (by simp)
    obtain ⟨W3, hW3⟩ : ∃ W3, W2.alloc (.cells #[.int .i64 log, .bool (!one)] 55) = W3 := ⟨_, rfl⟩
    rw [hW3] at hk hc3 hmb3
    obtain ⟨k0, k1⟩ := hk.cells
    obtain ⟨y0, y1, y2⟩ := hmb3.cells
    have HBW := Lib.hid (HBI.out W3 (hc2.trans hc3 fun _ _ h => h))
    have HC3 := Lib.hid ((HCA.out.trans hc2 fun _ _ h => h).trans hc3 fun _ _ h => h)
    clear hk hc3 hmb3 hmb2 hc2 hW2 b0 b1 b2 hW1
    go_wp2_with fail
    with_reducible refine Calls.mono HBW.out ?_
    rintro e w5 ⟨rfl, hc5⟩
    have C5 := Lib.hid (HC3.out.trans hc5 fun _ _ h => h)
    clear hc5
    go_wp2
    go_ret
    exact ⟨rfl, C5.out⟩
  · have hv : D = false := by
      rw [← HD.out]
      refine decide_eq_false fun hh => g3 ?_
      have := hh.2.1
      simp only [] at this
      rw [← HN.out, this, HNL.out]
    subst hv
    have e1 : ((n : Int) == (NL : Int)) = false := by simp; omega
    have g4 : ¬ (n : Int) = (NL : Int) := by omega
    clear hl hmb hl1 hD hn hca
    go_enter Try.func15, Try.ntmps15
    go_wp2
    go_quiet (first | (go_at_call 39; with_reducible exact Calls.quiet_of_same (HLS.out _)))
    go_wp2
    go_ret
    exact ⟨rfl, HCA.out.drewN _⟩

end Go.Proofs.Ythghlfghdmifoaa

/- What the document's own model (puncheonref16) tells: Fits. -/
namespace Go.Proofs.Ythghlfghdmifoaa
open Go.RowKit

theorem r6at_nat (v : Value) (xs : List Nat) (k : Nat) (w : World) (h : RdB w v xs) (hx : ∀ x ∈ xs, x < 256) (hl : xs.length < 10000000000) (hk : k < xs.length) :
    Calls Try.prog 46 #[v, .int .i64 (k : Int)] w fun e w' => e = .returned (.int .i64 (((0 :: xs).getD k 0 : Nat) : Int)) ∧ Chg (fun _ => False) w w' := by
  have := r6at_any v xs (k : Int) w h hx hl (by omega)
  rw [atI_nat xs k hk] at this
  exact this

set_option maxHeartbeats 4000000 in
theorem r16fits_any (v u : Value) (m : Md) (xs : List Nat) (w : World) (h : RdM w v m) (hf : m.fit64) (hb : RdB w u xs) (hx : ∀ x ∈ xs, x < 256) (hl : xs.length < 10000000000) :
    Calls Try.prog 21 #[v, u] w fun e w' => e = .returned (.bool (decide (m.fits xs))) ∧ Chg (fun _ => False) w w' := by
  obtain ⟨cv, rfl, h1⟩ := h
  obtain ⟨D, hD⟩ : ∃ D, decide (m.fits xs) = D := ⟨_, rfl⟩
  rw [hD]
  have HD := Lib.hid hD
  have HM := Lib.hid (show ∀ W, RdLL W cv m.cs → Calls Try.prog 16 #[mdv m cv] W fun e w' => e = .returned (.bool (decide m.right)) ∧ Chg (fun _ => False) W w' from fun W hW => r16right_any _ m W ⟨cv, rfl, hW⟩ hf)
  have HAT := Lib.hid (show ∀ W (c : Int), RdLL W cv m.cs → Calls Try.prog 19 #[mdv m cv, .int .i64 c] W fun e w' => ∃ q, e = .returned q ∧ RdI w' q (m.atL c) ∧ Chg (fun _ => False) W w' from fun W c hW => r16at_any _ m c W ⟨cv, rfl, hW⟩ hf)
  obtain ⟨ab, capb, rfl⟩ := hb.form
  obtain ⟨MM, hMM⟩ : ∃ MM, m = MM := ⟨_, rfl⟩
  rw [hMM] at HM HAT HD
  obtain ⟨log, one, cs⟩ := m
  simp only [] at h1
  obtain ⟨ao, cap, rfl⟩ := h1.form
  have hca := Chg.alloc (fun _ => False) w (.cells #[.int .i64 log, .bool one, .slice ao cs.length cap] 26)
  have hnew : Mb _ _ log one (.slice ao cs.length cap) := heap_alloc_new w (.cells #[.int .i64 log, .bool one, .slice ao cs.length cap] 26)
  have hll := h1.kept hca
  have hbl := hb.kept hca (by simp)
  have hmdv : mdv MM (.slice ao cs.length cap) = .agg #[.int .i64 log, .bool one, .slice ao cs.length cap] := by rw [← hMM]; rfl
  have hcs : MM.cs = cs := by rw [← hMM]
  rw [hmdv, hcs] at HM HAT
  unfold mdv
  simp only []
  obtain ⟨n, hn⟩ : ∃ n, cs.length = n := ⟨_, rfl⟩
  rw [hn] at hca hnew hll hbl HM HAT ⊢
  obtain ⟨W, hW⟩ : ∃ W, w.alloc (.cells #[.int .i64 log, .bool one, .slice ao n cap] 26) = W := ⟨_, rfl⟩
  rw [hW] at hca hnew hll hbl
  obtain ⟨b0, b1, b2⟩ := hnew.cells
  obtain ⟨N, hNx⟩ : ∃ N, xs.length = N := ⟨_, rfl⟩
  rw [hNx] at hbl hl ⊢
  have HCA := Lib.hid hca; have HNEW := Lib.hid hnew; have HL := Lib.hid hll; have HB := Lib.hid hbl; have HN := Lib.hid hNx; have HX := Lib.hid hx
  have hNb : (N : Int) < 10000000000 := by omega
  clear h1 hf hca hnew hll hbl hn hNx hx hb hD hMM hmdv hcs hl
  go_enter Try.func21, Try.ntmps21
  go_wp2_with fail
  refine (HM.out W HL.out).mono ?_
  rintro e w2 ⟨rfl, hc2⟩
  have hcw := HCA.out.trans hc2 fun _ _ h => h
  have hnew2 := HNEW.out.kept hc2 (by simp)
  have hl2 := HL.out.kept hc2
  have hb2 := HB.out.kept hc2 (by simp)
  clear hc2 b0 b1 b2 hW HNEW HCA HL HB HM
  by_cases hr : MM.right
  · rw [decide_eq_true hr]
    have HR := Lib.hid hr
    obtain ⟨b0, b1, b2⟩ := hnew2.cells
    have HS := Lib.hid (show Mb w2 w.heap.size log one (.slice ao n cap) ∧ RdLL w2 (.slice ao n cap) cs ∧ RdB w2 (.slice ab N capb) xs ∧ Chg (fun _ => False) w w2 from ⟨hnew2, hl2, hb2, hcw⟩)
    clear hr hnew2 hl2 hb2 hcw b0 b1 b2
    go_wp2
    go_loopw [6] (fun o6 wr => ∃ k : Nat, k ≤ N ∧ o6 = .int .i64 (k : Int) ∧ (∀ j, j < k → MM.fitAt xs j) ∧ Mb wr w.heap.size log one (.slice ao n cap) ∧ RdLL wr (.slice ao n cap) cs ∧ RdB wr (.slice ab N capb) xs ∧ Chg (fun _ => False) w wr) (fun o6 _ => N - (intOf o6).toNat)
    case atStart => exact ⟨0, Nat.zero_le _, rfl, fun j hj => by omega, HS.out⟩
    case round =>
      clear HS
      obtain ⟨k, hk, rfl, hok, hmb, hl, hb, hc⟩ := hrel
      have HOK := Lib.hid hok
      clear hok
      by_cases hlt : k < N
      · obtain ⟨b0, b1, b2⟩ := hmb.cells
        have hxk : xs.getD k 0 < 256 := getD_lt xs HX.out k
        have h6 := r6at_nat _ xs k wr.drew (hb.kept ((Chg.refl (fun _ => False) wr).drew) (by simp)) HX.out (by rw [HN.out]; omega) (by rw [HN.out]; exact hlt)
        have hfe : MM.fitAt xs k ↔ (MM.atL (((0 :: xs).getD k 0 : Nat) : Int) ≠ [] ∧ (MM.atL (((0 :: xs).getD k 0 : Nat) : Int)).getD (xs.getD k 0) 0 ≠ 0) := Iff.rfl
        have hlen : MM.atL (((0 :: xs).getD k 0 : Nat) : Int) ≠ [] → (MM.atL (((0 :: xs).getD k 0 : Nat) : Int)).length = 256 := atL_len MM _
        obtain ⟨c, hce⟩ : ∃ c, (0 :: xs).getD k 0 = c := ⟨_, rfl⟩
        rw [hce] at h6 hfe hlen
        obtain ⟨ql, hql⟩ : ∃ ql, MM.atL (c : Int) = ql := ⟨_, rfl⟩
        obtain ⟨x, hxe⟩ : ∃ x, xs.getD k 0 = x := ⟨_, rfl⟩
        rw [hql, hxe] at hfe
        rw [hql] at hlen
        rw [hxe] at hxk
        have H6 := Lib.hid h6; have HFE := Lib.hid hfe; have HLEN := Lib.hid hlen; have HQL := Lib.hid hql; have HXE := Lib.hid hxe
        have HMB := Lib.hid hmb; have HL := Lib.hid hl; have HB := Lib.hid hb; have HC := Lib.hid hc
        have hkn : (k : Int) < (N : Int) := by omega
        have hxI : (x : Int) < 256 := by omega
        clear h6 hfe hlen hce hql hxe hmb hl hb hc
        go_wp2
        go_region_held3 (fun W => W.cell? ⟨w.heap.size, 0, none⟩ = some (.int .i64 log) ∧ W.cell? ⟨w.heap.size, 1, none⟩ = some (.bool one) ∧ W.cell? ⟨w.heap.size, 2, none⟩ = some (.slice ao n cap)) (first | exact ⟨b0, b1, b2⟩ | exact ⟨q0, q1, q2⟩ | exact ⟨r0, r1, r2⟩) (first
          | (go_at_call 46; refine (H6.out).mono ?_; rintro e w3 ⟨rfl, hc3⟩; have HC3 := Lib.hid ((Chg.refl (fun _ => False) wr).drew.trans hc3 fun _ _ h => h); obtain ⟨q0, q1, q2⟩ := (HMB.out.kept HC3.out (by simp)).cells; clear hc3)
          | (go_at_call 19; refine (HAT.out w3 (c : Int) (HL.out.kept HC3.out)).mono ?_; rintro e w4 ⟨q, rfl, hq4, hc4⟩; rw [HQL.out] at hq4; obtain ⟨aq, cq, rfl⟩ := hq4.form; have HC4 := Lib.hid (HC3.out.trans hc4 fun _ _ h => h); obtain ⟨r0, r1, r2⟩ := (HMB.out.kept HC4.out (by simp)).cells; have HQ4 := Lib.hid hq4; clear hc4 hq4))
        have hc5 := HC.out.trans HC4.out fun _ _ h => h
        have hmb5 := HMB.out.kept HC4.out (by simp)
        have hl5 := HL.out.kept HC4.out
        have hb5 := HB.out.kept HC4.out (by simp)
        have HS5 := Lib.hid (show Mb w4 w.heap.size log one (.slice ao n cap) ∧ RdLL w4 (.slice ao n cap) cs ∧ RdB w4 (.slice ab N capb) xs ∧ Chg (fun _ => False) w w4 from ⟨hmb5, hl5, hb5, hc5⟩)
        clear HC3 HC4 HC HMB HL HB b0 b1 b2 q0 q1 q2 r0 r1 r2 hc5 hmb5 hl5 hb5 H6
        by_cases hqz : ql = []
        · have hD1 : D = false := by
            rw [← HD.out]
            exact decide_eq_false fun hh => (HFE.out.1 (hh.2 k (by rw [HN.out]; exact hlt))).1 hqz
          subst hD1
          subst hqz
          go_wp2
          go_ret
          exact ⟨rfl, HS5.out.2.2.2⟩
        · have h256 := HLEN.out hqz
          obtain ⟨gq, oq, rfl, hcell⟩ := HQ4.out.at x (by rw [h256]; exact hxk)
          obtain ⟨gb, ob, rfl, hbc⟩ := HS5.out.2.2.1.at k (by rw [HN.out]; exact hlt)
          rw [HXE.out] at hbc
          rw [h256]
          have HQZ := Lib.hid hqz
          obtain ⟨z, hz⟩ : ∃ z, ql.getD x 0 = z := ⟨_, rfl⟩
          rw [hz] at hcell
          have HZ := Lib.hid hz
          clear hqz h256 hz
          by_cases hz0 : z = 0
          · have hD1 : D = false := by
              rw [← HD.out]
              exact decide_eq_false fun hh => (HFE.out.1 (hh.2 k (by rw [HN.out]; exact hlt))).2 (by rw [HZ.out]; exact hz0)
            subst hD1
            subst hz0
            go_wp2
            go_ret
            exact ⟨rfl, HS5.out.2.2.2⟩
          · have hst : ∀ j, j < k + 1 → MM.fitAt xs j := fun j hj => by
              by_cases hjk : j = k
              · subst hjk; exact HFE.out.2 ⟨HQZ.out, by rw [HZ.out]; exact hz0⟩
              · exact HOK.out j (by omega)
            have hzb : (z == 0) = false := by simp [hz0]
            have HST := Lib.hid hst
            clear hst
            go_wp2
            go_roundw
            case rel => exact ⟨k + 1, by omega, by go_num, HST.out, HS5.out⟩
            case measure => simp [intOf]; omega
      · obtain rfl : k = N := by omega
        have hD1 : D = true := by
          rw [← HD.out]
          exact decide_eq_true ⟨HR.out, by rw [HN.out]; exact HOK.out⟩
        subst hD1
        have HC := Lib.hid hc
        clear hmb hl hb hc
        go_wp2
        go_ret
        exact ⟨rfl, HC.out⟩
  · have hD1 : D = false := by rw [← HD.out]; exact decide_eq_false fun hh => hr hh.1
    subst hD1
    rw [decide_eq_false hr]
    have HC := Lib.hid hcw
    clear hr hnew2 hl2 hb2 hcw
    go_wp2
    go_ret
    exact ⟨rfl, HC.out⟩

end Go.Proofs.Ythghlfghdmifoaa

/- What ctx's At, For, Present and Widest tell. THIS ALONE SPEAKS OF THE PROGRAM'S OWN TEXT. (Present and Widest: CxProgB.) -/
namespace Go.Proofs.Ythghlfghdmifoaa
open Go.RowKit

set_option maxHeartbeats 1000000 in
theorem xat_any (v : Value) (xs : List Nat) (i : Int) (w : World) (h : RdB w v xs) (hx : ∀ x ∈ xs, x < 256) (hl : xs.length < 10000000000) (hi : -9223372036854775808 ≤ i ∧ i ≤ 9223372036854775807) :
    Calls Try.prog 45 #[v, .int .i64 i] w fun e w' => e = .returned (.int .i64 (atI xs i)) ∧ ∃ m, w' = w.drewN m := by
  obtain ⟨ao, cap, rfl⟩ := h.form
  have H := Lib.hid h; have HX := Lib.hid hx
  clear h hx
  by_cases hneg : i < 0
  · have d1 : decide (i < 0) = true := decide_eq_true hneg
    have HA := Lib.hid (atI_out xs i (.inl hneg))
    go_enter Try.func45, Try.ntmps45
    go_wp2
    go_ret
    rw [HA.out]
    exact ⟨rfl, 0, rfl⟩
  have d1 : decide (i < 0) = false := decide_eq_false hneg
  by_cases hbig : (xs.length : Int) ≤ i
  · have d2 : decide ((xs.length : Int) ≤ i) = true := decide_eq_true hbig
    have HA := Lib.hid (atI_out xs i (.inr hbig))
    go_enter Try.func45, Try.ntmps45
    go_wp2
    go_ret
    rw [HA.out]
    exact ⟨rfl, 0, rfl⟩
  have d2 : decide ((xs.length : Int) ≤ i) = false := decide_eq_false hbig
  obtain ⟨k, rfl⟩ : ∃ k : Nat, i = (k : Int) := ⟨i.toNat, by omega⟩
  have hk : k < xs.length := by omega
  have HA := Lib.hid (atI_nat xs k hk)
  by_cases h0 : k = 0
  · subst h0
    rw [show atI xs ((0 : Nat) : Int) = 0 from HA.out]
    obtain ⟨N, hN⟩ : ∃ N, xs.length = N := ⟨_, rfl⟩
    rw [hN] at hk H ⊢
    have hN0 : ¬ N = 0 := by omega
    have hNI : ¬ (N : Int) ≤ 0 := by omega
    clear hN hl HA hi d1 d2 hneg hbig
    go_enter Try.func45, Try.ntmps45
    go_wp2
    go_ret
    exact ⟨rfl, 0, rfl⟩
  · obtain ⟨j, rfl⟩ : ∃ j, k = j + 1 := ⟨k - 1, by omega⟩
    obtain ⟨g, off, rfl, hcell⟩ := H.out.at j (by omega)
    have hy := getD_lt xs HX.out j
    rw [List.getD_cons_succ] at HA
    obtain ⟨y, hye⟩ : ∃ y, xs.getD j 0 = y := ⟨_, rfl⟩
    rw [hye] at hcell hy HA
    have e0 : (((j + 1 : Nat) : Int) == 0) = false := by simp; omega
    have hjl : j < xs.length := by omega
    clear hye h0 hneg hbig hi
    go_enter Try.func45, Try.ntmps45
    go_wp2
    go_ret
    rw [HA.out]
    exact ⟨rfl, 0, rfl⟩

/-- a captured variable -/
def One (w : World) (b : Nat) (t : TypeId) (v : Value) : Prop := w.heap[b]? = some (.cells #[v] t (0, 0))
theorem One.kept {S : Nat → Prop} {w w' : World} {b : Nat} {t : TypeId} {v : Value} (h : One w b t v) (hc : Chg S w w') (hS : ¬ S b) : One w' b t v := (hc.block b (lt_of_block h) hS).trans h

set_option maxHeartbeats 1000000 in
theorem xfor1_any (A c : Int) (Bc : Nat) (w : World) (hc : One w Bc 3 (.int .i64 c)) :
    Calls Try.prog 48 #[.int .i64 A, .pointer (some ⟨Bc, 0, none⟩)] w fun e w' => e = .returned (.bool (decide (A = c))) ∧ w' = w := by
  have c2 := cell_of_one hc
  clear hc
  go_enter Try.func48, Try.ntmps48
  go_wp2
  go_ret
  exact ⟨rfl, rfl⟩

theorem nil_ownsB (w : World) (base : Nat) : w.ownsRow base 5 1 (.slice none 0 0) ([] : List Nat).length (bv []) := ⟨rfl, .inl ⟨rfl, rfl⟩⟩

set_option maxHeartbeats 2000000 in
theorem xpicked_any (v : Value) (xs : List Nat) (c : Int) (Bc : Nat) (w : World) (h : RdB w v xs) (hx : ∀ x ∈ xs, x < 256) (hl : xs.length < 10000000000)
    (hc : One w Bc 3 (.int .i64 c)) :
    Calls Try.prog 47 #[v, .func (.func 48) #[] #[.pointer (some ⟨Bc, 0, none⟩)]] w fun e w' => ∃ v', e = .returned v' ∧ RdB w' v' (sel xs c) ∧ Chg (fun _ => False) w w' := by
  obtain ⟨ao, cap, rfl⟩ := h.form
  have H := Lib.hid h; have HX := Lib.hid hx; have HC := Lib.hid hc
  clear h hx hc
  go_enter Try.func47, Try.ntmps47
  go_wp2
  go_loopw [5, 10] (fun o5 o10 wr => ∃ (k : Nat) (vo : Value), k ≤ xs.length ∧ o10 = .int .i64 (k : Int) ∧ vo = o5 ∧ wr.ownsRow w.heap.size 5 1 vo (sel (xs.take k) c).length (bv (sel (xs.take k) c)) ∧ Chg (fun _ => False) w wr) (fun _ o10 _ => xs.length - (intOf o10).toNat)
  case atStart => exact ⟨0, _, Nat.zero_le _, rfl, rfl, nil_ownsB w _, Chg.refl _ _⟩
  case round =>
    obtain ⟨k, vo, hk, rfl, rfl, hown, hcg⟩ := hrel
    by_cases hlt : k < xs.length
    · obtain ⟨g, off, rfl, hcell⟩ := (H.out.kept hcg (by simp)).at k hlt
      have hst := sel_take_succ xs k hlt c
      have hsl := sel_len (xs.take k) c
      rw [List.length_take] at hsl
      have hat := atI_nat xs k hlt
      obtain ⟨y, hye⟩ : ∃ y, (0 :: xs).getD k 0 = y := ⟨_, rfl⟩
      rw [hye] at hst hat
      clear hye
      have HOWN := Lib.hid hown; have HCG := Lib.hid hcg; have HST := Lib.hid hst; have HSL := Lib.hid hsl; have HAT := Lib.hid hat
      clear hown hcg hst hsl hat
      have hkI : (k : Int) < (xs.length : Int) := by omega
      obtain ⟨x, hxe⟩ : ∃ x, xs.getD k 0 = x := ⟨_, rfl⟩
      rw [hxe] at hcell HST
      clear hxe
      go_wp2_with fail
      refine (xat_any _ xs (k : Int) wr (H.out.kept HCG.out (by simp)) HX.out hl (by omega)).mono ?_
      rintro e w2 ⟨rfl, m, rfl⟩
      rw [HAT.out]
      have o2 := HCG.out.drewN m
      have own2 := ((Chg.refl (fun _ => False) wr).drewN m).own HOWN.out (by simp)
      obtain ⟨W, hW⟩ : ∃ W, wr.drewN m = W := ⟨_, rfl⟩
      rw [hW] at o2 own2 ⊢
      have O2 := Lib.hid o2; have OWN2 := Lib.hid own2
      clear HOWN HCG hW o2 own2 hcell
      go_wp2_with fail
      refine (xfor1_any _ c Bc W (HC.out.kept O2.out (by simp))).mono ?_
      rintro e w3 ⟨rfl, rfl⟩
      by_cases hyc : (y : Int) = c
      · rw [decide_eq_true hyc]
        have hst := HST.out
        rw [if_pos hyc] at hst
        have hca := Chg.alloc (fun _ => False) w3 (.cells #[.int .u8 (x : Int)] 5)
        have hrd := rdb_new w3 [x] #[.int .u8 (x : Int)] 1 (0, 0) rfl rfl
        have hoa := hca.own OWN2.out (by simp)
        have hz : w.heap.size ≤ (w3.alloc (.cells #[.int .u8 (x : Int)] 5)).heap.size := Nat.le_trans O2.out.size hca.size
        have hlt3 := OWN2.out.lt
        have HCA := Lib.hid hca; have HRD := Lib.hid hrd; have HOA := Lib.hid hoa; have HZ := Lib.hid hz; have HLT3 := Lib.hid hlt3; have HPS := Lib.hid hst
        clear hca hrd hoa hz hlt3 hst hyc
        go_wp2_with (at_builtin; refine wpList_append_bytes rfl (.tmp 20) (.tmp 22) rfl w.heap.size vo (sel (xs.take k) c) rfl HOA.out _ [x] rfl HRD.out HZ.out (by have := HSL.out; simp; omega) ?_)
        intro v4 w4 ho4 hc4
        have ho4 := (show w4.ownsRow w.heap.size 5 1 v4 (sel (xs.take k) c ++ [x]).length (bv (sel (xs.take k) c ++ [x])) by simpa using ho4)
        rw [← HPS.out] at ho4
        have hc4' : Chg (fun _ => False) w w4 := (O2.out.trans HCA.out (fun _ _ h => h)).trans hc4 (fun q hq hx => by have := (HLT3.out q hx.symm).1; omega)
        clear hc4 HCA HRD HOA HZ HLT3 HPS
        go_wp2
        go_roundw
        case rel => exact ⟨k + 1, _, by omega, by go_num, rfl, ho4, hc4'⟩
        case measure => simp [intOf]; omega
      · rw [decide_eq_false hyc]
        have hst := HST.out
        rw [if_neg hyc, List.append_nil] at hst
        have HPS := Lib.hid hst
        clear hst hyc
        go_wp2
        go_roundw
        case rel => exact ⟨k + 1, _, by omega, by go_num, rfl, by rw [HPS.out]; exact OWN2.out, O2.out⟩
        case measure => simp [intOf]; omega
    · obtain rfl : k = xs.length := by omega
      rw [List.take_length] at hown
      have hrd := RdB.of_own hown
      clear hown
      go_wp2
      go_ret
      exact ⟨_, rfl, hrd, hcg⟩

set_option maxHeartbeats 2000000 in
theorem xfor_any (v : Value) (xs : List Nat) (c : Int) (w : World) (h : RdB w v xs) (hx : ∀ x ∈ xs, x < 256) (hl : xs.length < 10000000000) (_hc : -9223372036854775808 ≤ c ∧ c ≤ 9223372036854775807) :
    Calls Try.prog 22 #[v, .int .i64 c] w fun e w' => ∃ v', e = .returned v' ∧ OwnI w' w.heap.size v' (cnt (sel xs c)) ∧ Chg (fun _ => False) w w' := by
  obtain ⟨ao, cap, rfl⟩ := h.form
  have cc := Chg.alloc (fun _ => False) w (.cells #[.int .i64 c] 3)
  have b2 : One (w.alloc (.cells #[.int .i64 c] 3)) w.heap.size 3 (.int .i64 c) := heap_alloc_new w _
  obtain ⟨W2, hW2⟩ : ∃ W2, w.alloc (.cells #[.int .i64 c] 3) = W2 := ⟨_, rfl⟩
  rw [hW2] at b2 cc
  have HCH := Lib.hid (xpicked_any (.slice ao xs.length cap) xs c w.heap.size W2 (h.kept cc (by simp)) hx hl b2)
  have HX := Lib.hid hx; have CC := Lib.hid cc
  have hsz := cc.size
  have hmf : ∀ (fn : Fn) (first cap : Array Value) (w : World), (Instr.makeFunc fn first cap).run Try.prog w = .ok (.func fn first cap) w := fun _ _ _ _ => rfl
  clear h hx b2 cc
  go_enter Try.func22, Try.ntmps22
  go_wp2_with fail
  refine HCH.out.mono ?_
  rintro e w3 ⟨v3, rfl, rd3, hc3⟩
  have q3 := CC.out.trans hc3 (fun _ _ h => h)
  have hs3 := q3.size
  clear hc3
  go_wp2_with fail
  refine (hof_any _ (sel xs c) w3 rd3 (sel_lt HX.out c) (by have := sel_len xs c; omega)).mono ?_
  rintro e w4 ⟨v4, rfl, ho4, hc4⟩
  have q4 := q3.trans hc4 (fun _ _ h => h)
  have ho := ho4.mono hs3
  clear q3 hc4 rd3 ho4
  go_wp2
  go_ret
  exact ⟨_, rfl, ho, q4⟩

end Go.Proofs.Ythghlfghdmifoaa

/- What model's At and Fits tell. THIS SPEAKS OF THE PROGRAM'S OWN TEXT (and of slices.Clone of ints). -/
namespace Go.Proofs.Ythghlfghdmifoaa
open Go.RowKit

theorem eqlNilI (w : World) (a : Addr) (n cap : Nat) : (binOp .eql 35 (.slice (some a) n cap) (.slice none 0 0)).run Try.prog w = .ok (.bool false) w := by kernel_rfl
theorem eqlNilI0 (w : World) (n cap : Nat) : (binOp .eql 35 (.slice none n cap) (.slice none 0 0)).run Try.prog w = .ok (.bool true) w := by kernel_rfl

set_option maxHeartbeats 1000000 in
theorem clone_ints (v : Value) (xs : List Int) (w : World) (h : RdI w v xs) (hl : xs.length < 100000000000) :
    Calls Try.prog 43 #[v] w fun e w' => ∃ v', e = .returned v' ∧ w'.ownsRow w.heap.size 3 1 v' xs.length (iw xs) ∧ Chg (fun _ => False) w w' := by
  obtain ⟨ao, cap, hv⟩ := h.form
  subst hv
  cases ao with
  | none =>
    have h0 : xs = [] := by
      rcases h with ⟨h0, _⟩ | ⟨g, off, cap', he, _⟩
      · exact h0
      · simp at he
    subst h0
    clear h
    have hnil := eqlNilI0 w 0 cap
    rw [List.length_nil]
    go_enter Try.func43, Try.ntmps43
    go_wp2
    go_ret
    exact ⟨_, rfl, nil_owns w _, Chg.refl _ _⟩
  | some a =>
    have cw := Chg.alloc (fun _ => False) w (.cells #[] 3)
    have hown : (w.alloc (.cells #[] 3)).ownsRow w.heap.size 3 1 (.slice (some ⟨w.heap.size, 0, none⟩) 0 0) ([] : List Int).length (iw []) := World.ownsRow_made w #[] 0 (Nat.le_refl _) (by unfold maxLen; omega) rfl
    have HOWN := Lib.hid hown
    have HR := Lib.hid (h.kept cw (by simp))
    have HCW := Lib.hid cw
    clear h cw hown
    have hnil := eqlNilI w a xs.length cap
    go_enter Try.func43, Try.ntmps43
    go_wp2_with (at_builtin; refine wpList_append_ints rfl (.tmp 5) (.tmp 6) rfl w.heap.size _ [] rfl HOWN.out _ xs rfl HR.out HCW.out.size (by rw [List.length_nil, Nat.zero_add]; exact hl) ?_)
    intro v7 w7 ho7 hc7
    have HO := Lib.hid ho7; have HC := Lib.hid (HCW.out.trans hc7 (S := fun _ => False) fun j hj hx => by simp [Value.ownBlock] at hx; omega)
    clear hc7 ho7
    go_wp2
    go_ret
    exact ⟨_, rfl, by simpa using HO.out, HC.out⟩

set_option maxHeartbeats 1000000 in
theorem mlist_any (log : Int) (one : Bool) (ao : Option Addr) (n cap : Nat) (cs : List (List Int)) (c : Nat) (w : World) (h : RdLL w (.slice ao n cap) cs) (hn : n = (if one then 1 else 256)) (hcn : cs.length = n) (hc : c < 256) :
    Calls Try.prog 44 #[.agg #[.int .i64 log, .bool one, .slice ao n cap], .int .i64 (c : Int)] w fun e w' => ∃ u, e = .returned u ∧ RdI w' u (cs.getD (if one then 0 else c) []) ∧ Chg (fun _ => False) w w' := by
  have hca := Chg.alloc (fun _ => False) w (.cells #[.int .i64 log, .bool one, .slice ao n cap] 26)
  have hmb : Mb _ _ log one (.slice ao n cap) := heap_alloc_new w (.cells #[.int .i64 log, .bool one, .slice ao n cap] 26)
  have hl1 := h.kept hca
  obtain ⟨W1, hW1⟩ : ∃ W, w.alloc (.cells #[.int .i64 log, .bool one, .slice ao n cap] 26) = W := ⟨_, rfl⟩
  rw [hW1] at hca hmb hl1
  obtain ⟨b0, b1, b2⟩ := hmb.cells
  have HCA := Lib.hid hca
  have hcI : (c : Int) < 256 := by omega
  clear h hca hmb
  cases one with
  | true =>
    simp only [if_true] at hn ⊢
    subst hn
    obtain ⟨g, off, u, rfl, hu1, hu2⟩ := hl1.at 0 (by omega)
    obtain ⟨Q, hQ⟩ : ∃ Q, cs.getD 0 [] = Q := ⟨_, rfl⟩
    rw [hQ] at hu2 ⊢
    obtain ⟨nq, hnq⟩ : ∃ nq, Q.length = nq := ⟨_, rfl⟩
    obtain ⟨a, q, e⟩ := hu2.form
    have HU := Lib.hid hu2
    rw [Nat.add_zero] at hu1
    rw [e, hnq] at hu1 HU
    clear hl1 hu2 hQ hnq
    go_enter Try.func44, Try.ntmps44
    go_wp2
    go_ret
    exact ⟨_, rfl, HU.out, HCA.out⟩
  | false =>
    simp only [Bool.false_eq_true, if_false] at hn ⊢
    subst hn
    obtain ⟨g, off, u, rfl, hu1, hu2⟩ := hl1.at c (by omega)
    obtain ⟨Q, hQ⟩ : ∃ Q, cs.getD c [] = Q := ⟨_, rfl⟩
    rw [hQ] at hu2 ⊢
    obtain ⟨nq, hnq⟩ : ∃ nq, Q.length = nq := ⟨_, rfl⟩
    obtain ⟨a, q, e⟩ := hu2.form
    have HU := Lib.hid hu2
    rw [e, hnq] at hu1 HU
    clear hl1 hu2 hQ hnq
    go_enter Try.func44, Try.ntmps44
    go_wp2
    go_ret
    exact ⟨_, rfl, HU.out, HCA.out⟩

theorem atL_is {m : Md} (c : Nat) (hr : m.right) (hc : c < 256) : m.atL (c : Int) = m.cs.getD (if m.one then 0 else c) [] := by
  unfold Md.atL
  rw [if_pos ⟨hr, by omega, by omega⟩, Int.toNat_natCast]
  by_cases h : m.one = true
  · rw [if_pos h, if_pos h]
  · rw [if_neg h, if_neg h]

theorem own_roomI {w : World} {base : Nat} {v : Value} {n : Nat} {xs : List Value} (h : w.ownsRow base 3 1 v n xs) : RoomOk v := by
  rcases h.2 with ⟨rfl, _⟩ | ⟨g, cap, cur, rfl, _, _, hc, _⟩
  · exact RoomOk.of (Nat.le_refl _)
  · exact RoomOk.of hc

set_option maxHeartbeats 1000000 in
theorem mat_room (v : Value) (m : Md) (c : Int) (w : World) (h : RdM w v m) (hf : m.fit64) (hc : -9223372036854775808 ≤ c ∧ c ≤ 9223372036854775807) : Calls Try.prog 18 #[v, .int .i64 c] w fun e w' => ∃ u, e = .returned u ∧ RdIr w' u (m.atL c) ∧ (∀ k, u.ownBlock = some k → w.heap.size ≤ k) ∧ Chg (fun _ => False) w w' := by
  obtain ⟨cv, rfl, hl⟩ := h
  obtain ⟨ao, cap, rfl⟩ := hl.form
  unfold mdv
  have hca := Chg.alloc (fun _ => False) w (.cells #[.int .i64 m.log, .bool m.one, .slice ao m.cs.length cap] 26)
  have hmb : Mb _ _ m.log m.one (.slice ao m.cs.length cap) := heap_alloc_new w (.cells #[.int .i64 m.log, .bool m.one, .slice ao m.cs.length cap] 26)
  have hl1 := hl.kept hca
  have hR := fun W (hW : RdLL W (.slice ao m.cs.length cap) m.cs) => mright_any _ m W ⟨_, rfl, hW⟩ hf
  unfold mdv at hR
  obtain ⟨W1, hW1⟩ : ∃ W, w.alloc (.cells #[.int .i64 m.log, .bool m.one, .slice ao m.cs.length cap] 26) = W := ⟨_, rfl⟩
  rw [hW1] at hca hmb hl1
  have HST := Lib.hid (show ∀ W, Chg (fun _ => False) W1 W → (Mb W w.heap.size m.log m.one (.slice ao m.cs.length cap) ∧ RdLL W (.slice ao m.cs.length cap) m.cs ∧ Chg (fun _ => False) w W) from fun W hW => ⟨hmb.kept hW (by simp), hl1.kept hW, hca.trans hW fun _ _ h => h⟩)
  obtain ⟨b0, b1, b2⟩ := hmb.cells
  have HR := Lib.hid hR; have HLEN := Lib.hid hf
  by_cases hc1 : c < 0
  · rw [atL_not (m := m) (c := c) (fun hh => by omega)]
    have d1 : decide (c < 0) = true := decide_eq_true hc1
    have HCA := Lib.hid hca
    obtain ⟨n, hn⟩ : ∃ n, m.cs.length = n := ⟨_, rfl⟩
    rw [hn] at hW1 b2 ⊢
    clear hl hf hl1 hR hmb hca hn
    go_enter Try.func18, Try.ntmps18
    go_wp2
    go_ret
    exact ⟨_, rfl, .nil _, by simp [Value.ownBlock], HCA.out⟩
  by_cases hc2 : 256 ≤ c
  · rw [atL_not (m := m) (c := c) (fun hh => by omega)]
    have d1 : decide (c < 0) = false := decide_eq_false hc1
    have d2 : decide (256 ≤ c) = true := decide_eq_true hc2
    have HCA := Lib.hid hca
    obtain ⟨n, hn⟩ : ∃ n, m.cs.length = n := ⟨_, rfl⟩
    rw [hn] at hW1 b2 ⊢
    clear hl hf hl1 hR hmb hca hn
    go_enter Try.func18, Try.ntmps18
    go_wp2
    go_ret
    exact ⟨_, rfl, .nil _, by simp [Value.ownBlock], HCA.out⟩
  have d1 : decide (c < 0) = false := decide_eq_false hc1
  have d2 : decide (256 ≤ c) = false := decide_eq_false hc2
  obtain ⟨k, rfl⟩ : ∃ k : Nat, c = (k : Int) := ⟨c.toNat, by omega⟩
  have hk : k < 256 := by omega
  by_cases hr : m.right
  · have hlen := hr.2.1
    have hat := atL_is k hr hk
    have hfl := hf.at
    have hat2 : (m.atL (k : Int)).length < 100000000000 := by
      by_cases he : m.atL (k : Int) = []
      · rw [he]; simp
      · rw [atL_len m _ he]; omega
    rw [hat] at hat2 ⊢
    rw [decide_eq_true hr] at HR
    have HLI := Lib.hid fun W (hW : RdLL W (.slice ao m.cs.length cap) m.cs) => mlist_any m.log m.one ao m.cs.length cap m.cs k W hW hlen rfl hk
    obtain ⟨log, one, cs⟩ := m
    simp only [] at *
    obtain ⟨Q, hQ⟩ : ∃ Q, cs.getD (if one then 0 else k) [] = Q := ⟨_, rfl⟩
    rw [hQ] at HLI hat2 ⊢
    obtain ⟨n, hn⟩ : ∃ n, cs.length = n := ⟨_, rfl⟩
    rw [hn] at hW1 b2 HST HR HLI ⊢
    have HQ := Lib.hid hat2
    clear hl hf hl1 hR hmb hca hn hr hlen hat hfl hQ hat2 HLEN
    go_enter Try.func18, Try.ntmps18
    go_wp2_with fail
    refine (HR.out _ (HST.out _ (Chg.refl _ _)).2.1).mono ?_
    rintro e w2 ⟨rfl, hc2⟩
    have st2 := HST.out _ hc2
    have C2 := Lib.hid hc2
    obtain ⟨y0, y1, y2⟩ := st2.1.cells
    have LI := Lib.hid (HLI.out _ st2.2.1)
    clear hc2 st2 HLI
    go_wp2_with fail
    refine (LI.out).mono ?_
    rintro e w3 ⟨u, rfl, hu, hc3⟩
    have CL := Lib.hid (clone_ints u Q w3 hu HQ.out); have C3 := Lib.hid (C2.out.trans hc3 fun _ _ h => h)
    clear hu hc3
    go_wp2_with fail
    refine (CL.out).mono ?_
    rintro e w4 ⟨u4, rfl, ho, hc4⟩
    have HRM := Lib.hid (own_roomI ho); have HLW := Lib.hid (show ∀ k, u4.ownBlock = some k → w.heap.size ≤ k from fun k hk => by have := (ho.lt k hk).1; have := (HST.out _ C3.out).2.2.size; omega)
    have HO := Lib.hid (RdI.of_own ho); have C4 := Lib.hid (HST.out _ (C3.out.trans hc4 fun _ _ h => h)).2.2
    obtain ⟨a4, c4, e4⟩ := HO.out.form
    rw [e4] at HO HRM HLW ⊢
    clear ho hc4
    go_wp2
    go_ret
    exact ⟨_, rfl, ⟨HO.out, HRM.out⟩, HLW.out, C4.out⟩
  · rw [atL_not (m := m) (c := (k : Int)) (fun hh => hr hh.1)]
    rw [decide_eq_false hr] at HR
    obtain ⟨n, hn⟩ : ∃ n, m.cs.length = n := ⟨_, rfl⟩
    rw [hn] at hW1 b2 HST HR ⊢
    clear hl hf hl1 hR hmb hca hn
    go_enter Try.func18, Try.ntmps18
    go_wp2_with fail
    refine (HR.out _ (HST.out _ (Chg.refl _ _)).2.1).mono ?_
    rintro e w2 ⟨rfl, hc2⟩
    have C2 := Lib.hid (HST.out _ hc2).2.2
    clear hc2
    go_wp2
    go_ret
    exact ⟨_, rfl, .nil _, by simp [Value.ownBlock], C2.out⟩

theorem mat_any (v : Value) (m : Md) (c : Int) (w : World) (h : RdM w v m) (hf : m.fit64) (hc : -9223372036854775808 ≤ c ∧ c ≤ 9223372036854775807) : Calls Try.prog 18 #[v, .int .i64 c] w fun e w' => ∃ u, e = .returned u ∧ RdI w' u (m.atL c) ∧ Chg (fun _ => False) w w' :=
  (mat_room v m c w h hf hc).mono fun _ _ ⟨u, h1, h2, _, h4⟩ => ⟨u, h1, h2.1, h4⟩

set_option maxRecDepth 100000 in
set_option maxHeartbeats 4000000 in
theorem mfits_any (v u : Value) (m : Md) (xs : List Nat) (w : World) (h : RdM w v m) (hf : m.fit64) (hb : RdB w u xs) (hx : ∀ x ∈ xs, x < 256) (hl : xs.length < 1000000) :
    Calls Try.prog 20 #[v, u] w fun e w' => e = .returned (.bool (decide (m.fits xs))) ∧ Chg (fun _ => False) w w' := by
  obtain ⟨cv, rfl, h1⟩ := h
  obtain ⟨ao, cap, rfl⟩ := h1.form
  obtain ⟨ab, capb, rfl⟩ := hb.form
  unfold mdv
  have hca := Chg.alloc (fun _ => False) w (.cells #[.int .i64 m.log, .bool m.one, .slice ao m.cs.length cap] 26)
  have hmb : Mb _ _ m.log m.one (.slice ao m.cs.length cap) := heap_alloc_new w (.cells #[.int .i64 m.log, .bool m.one, .slice ao m.cs.length cap] 26)
  have hll := h1.kept hca
  have hbl := hb.kept hca (by simp)
  have HR := Lib.hid fun W (hW : RdLL W (.slice ao m.cs.length cap) m.cs) => mright_any (mdv m (.slice ao m.cs.length cap)) m W ⟨_, rfl, hW⟩ hf
  unfold mdv at HR
  obtain ⟨D, hD⟩ : ∃ D, decide (m.fits xs) = D := ⟨_, rfl⟩
  rw [hD]
  have HD := Lib.hid hD
  have HX := Lib.hid hx
  obtain ⟨W1, hW1⟩ : ∃ W, w.alloc (.cells #[.int .i64 m.log, .bool m.one, .slice ao m.cs.length cap] 26) = W := ⟨_, rfl⟩
  rw [hW1] at hca hmb hll hbl
  have HST := Lib.hid (show ∀ W, Chg (fun _ => False) W1 W → (Mb W w.heap.size m.log m.one (.slice ao m.cs.length cap) ∧ RdLL W (.slice ao m.cs.length cap) m.cs ∧ RdB W (.slice ab xs.length capb) xs ∧ Chg (fun _ => False) w W) from fun W hW => ⟨hmb.kept hW (by simp), hll.kept hW, hbl.kept hW (by simp), hca.trans hW fun _ _ h => h⟩)
  obtain ⟨b0, b1, b2⟩ := hmb.cells
  by_cases hr : m.right
  · have hlen := hr.2.1
    have HFIT := Lib.hid hr
    rw [decide_eq_true hr] at HR
    have HLI := Lib.hid fun W (k : Nat) (hk : k < 256) (hW : RdLL W (.slice ao m.cs.length cap) m.cs) => mlist_any m.log m.one ao m.cs.length cap m.cs k W hW hlen rfl hk
    have HAT := Lib.hid fun W (i : Nat) (hi : i < xs.length) (hW : RdB W (.slice ab xs.length capb) xs) => xat_any (.slice ab xs.length capb) xs (i : Int) W hW hx (by omega) (by omega)
    have HLQ := Lib.hid (show ∀ k, k < 256 → (m.cs.getD (if m.one then 0 else k) []).length = 0 ∨ (m.cs.getD (if m.one then 0 else k) []).length = 256 from fun k hk => by
      have := atL_len m (k : Int)
      rw [atL_is k hr hk] at this
      by_cases he : m.cs.getD (if m.one then 0 else k) [] = []
      · left; rw [he]; rfl
      · exact .inr (this he))
    have HFA := Lib.hid (show ∀ i, i < xs.length → (m.fitAt xs i ↔ m.cs.getD (if m.one then 0 else (0 :: xs).getD i 0) [] ≠ [] ∧ (m.cs.getD (if m.one then 0 else (0 :: xs).getD i 0) []).getD (xs.getD i 0) 0 ≠ 0) from fun i hi => by
      unfold Md.fitAt
      rw [atL_is _ hr (ahead_lt hx i)])
    obtain ⟨nb, hnb⟩ : ∃ nb, xs.length = nb := ⟨_, rfl⟩
    have HNB := Lib.hid hnb
    rw [hnb] at hl HST HAT HFA ⊢
    have hnI : (nb : Int) < 1000000 := by omega
    have HFF := Lib.hid hf.at
    obtain ⟨log, one, cs⟩ := m
    simp only [] at *
    obtain ⟨n, hn⟩ : ∃ n, cs.length = n := ⟨_, rfl⟩
    rw [hn] at hW1 b2 HST HR HLI ⊢
    clear hf hmb hca hn hr hlen hll hbl hb h1 hx hD hnb
    go_enter Try.func20, Try.ntmps20
    go_wp2_with fail
    with_reducible refine Calls.mono (HR.out _ (HST.out _ (Chg.refl _ _)).2.1) ?_
    rintro e w2 ⟨rfl, hc2⟩
    have C2 := Lib.hid hc2
    clear hc2 b0 b1 b2 hW1
    go_wp2
    go_loopw [5, 6, 7, 13] (fun _ _ _ o13 wr => ∃ k : Nat, k ≤ nb ∧ o13 = .int .i64 (k : Int) ∧ (∀ i, i < k → Md.fitAt ⟨log, one, cs⟩ xs i) ∧ Chg (fun _ => False) W1 wr) (fun _ _ _ o13 _ => nb - (intOf o13).toNat)
    case atStart => exact ⟨0, Nat.zero_le _, rfl, fun j hj => by omega, C2.out⟩
    case round =>
      clear C2
      obtain ⟨k, hk, rfl, hfi, hcg⟩ := hrel
      have HFI := Lib.hid hfi; have HCG := Lib.hid hcg
      clear hfi
      by_cases hlt : k < nb
      · have hkI : (k : Int) < (nb : Int) := by omega
        have st := HST.out _ hcg
        obtain ⟨gb, ob, rfl, hbc⟩ := st.2.2.1.at k (by rw [HNB.out]; exact hlt)
        have hxk := getD_lt xs HX.out k
        obtain ⟨x, hxe⟩ : ∃ x, xs.getD k 0 = x := ⟨_, rfl⟩
        have HXE := Lib.hid hxe
        rw [hxe] at hbc hxk
        have hp := ahead_lt HX.out k
        obtain ⟨p, hpe⟩ : ∃ p, (0 :: xs).getD k 0 = p := ⟨_, rfl⟩
        have HPE := Lib.hid hpe
        rw [hpe] at hp
        have HA := Lib.hid (show ∀ W, Chg (fun _ => False) W1 W → Calls Try.prog 45 #[.slice (some ⟨gb, ob, none⟩) nb capb, .int .i64 (k : Int)] W fun e w' => e = .returned (.int .i64 (p : Int)) ∧ Chg (fun _ => False) W w' from fun W hW => by
          have := HAT.out W k hlt (HST.out W hW).2.2.1
          rw [atI_nat xs k (by rw [HNB.out]; exact hlt), HPE.out] at this
          exact this.mono fun e w' ⟨h1, m, h2⟩ => ⟨h1, by rw [h2]; exact (Chg.refl _ _).drewN m⟩)
        have hlq := HLQ.out p hp
        obtain ⟨Q, hQ⟩ : ∃ Q, cs.getD (if one = true then 0 else p) [] = Q := ⟨_, rfl⟩
        have HQ := Lib.hid hQ
        have HL := Lib.hid (fun W hW => HLI.out W p hp (HST.out W hW).2.1)
        rw [hQ] at HL hlq
        have hfa := HFA.out k hlt
        rw [HPE.out, HXE.out, HQ.out] at hfa
        have HFK := Lib.hid hfa
        obtain ⟨y0, y1, y2⟩ := st.1.cells
        clear hcg st hfa hxe hpe hQ
        go_wp2
        go_region_held3 (fun W => W.cell? ⟨w.heap.size, 0, none⟩ = some (.int .i64 log) ∧ W.cell? ⟨w.heap.size, 1, none⟩ = some (.bool one) ∧ W.cell? ⟨w.heap.size, 2, none⟩ = some (.slice ao n cap)) (first | exact ⟨y0, y1, y2⟩ | exact k0 | exact q0) (first
          | (go_at_call 45; refine (HA.out _ (HCG.out.drew)).mono ?_; rintro e w3 ⟨rfl, hc3⟩; have C3 := Lib.hid (HCG.out.drew.trans hc3 fun _ _ h => h); have k0 := (HST.out _ C3.out).1.cells; clear hc3)
          | (go_at_call 44; refine (HL.out _ C3.out).mono ?_; rintro e w4 ⟨u, rfl, hu, hc4⟩; have C4 := Lib.hid (C3.out.trans hc4 fun _ _ h => h); have q0 := (HST.out _ C4.out).1.cells; have HU := Lib.hid hu; clear hc4 hu))
        obtain ⟨aq, lq, hue⟩ := HU.out.form
        subst hue
        obtain ⟨nq, hnq⟩ : ∃ nq, Q.length = nq := ⟨_, rfl⟩
        have HNQ := Lib.hid hnq
        rw [hnq] at hlq HU ⊢
        clear hnq
        rcases hlq with rfl | rfl
        · have hv : D = false := by
            rw [← HD.out]
            refine decide_eq_false fun hh => ?_
            have := (HFK.out.1 (hh.2 k (by rw [HNB.out]; exact hlt))).1
            exact this (List.length_eq_zero_iff.1 HNQ.out)
          subst hv
          go_wp2
          go_ret
          exact ⟨rfl, (HST.out _ C4.out).2.2.2⟩
        · obtain ⟨gq, oq, rfl, hqc⟩ := HU.out.at x (by rw [HNQ.out]; exact hxk)
          obtain ⟨z, hz⟩ : ∃ z, Q.getD x 0 = z := ⟨_, rfl⟩
          have HZ := Lib.hid hz
          rw [hz] at hqc
          by_cases hz0 : z = 0
          · have hv : D = false := by
              rw [← HD.out]
              refine decide_eq_false fun hh => ?_
              exact (HFK.out.1 (hh.2 k (by rw [HNB.out]; exact hlt))).2 (by rw [HZ.out]; exact hz0)
            subst hv
            subst hz0
            clear hz
            go_wp2
            go_ret
            exact ⟨rfl, (HST.out _ C4.out).2.2.2⟩
          · have hzb : (z == 0) = false := by simpa using hz0
            clear hz
            go_wp2
            go_roundw
            case rel => exact ⟨k + 1, by omega, by go_num, fun i hi => by
              by_cases hik : i = k
              · subst hik
                exact HFK.out.2 ⟨fun he => by have := HNQ.out; rw [he] at this; simp at this, by rw [HZ.out]; exact hz0⟩
              · exact HFI.out i (by omega), C4.out⟩
            case measure => simp [intOf]; omega
      · obtain rfl : k = nb := by omega
        have hv : D = true := by
          rw [← HD.out]
          exact decide_eq_true ⟨HFIT.out, fun i hi => HFI.out i (by rw [← HNB.out]; exact hi)⟩
        subst hv
        clear hcg
        go_wp2
        go_ret
        exact ⟨rfl, (HST.out _ HCG.out).2.2.2⟩
  · have hv : D = false := by rw [← HD.out]; exact decide_eq_false fun hh => hr hh.1
    subst hv
    rw [decide_eq_false hr] at HR
    obtain ⟨n, hn⟩ : ∃ n, m.cs.length = n := ⟨_, rfl⟩
    rw [hn] at hW1 b2 HST HR ⊢
    clear hf hmb hca hn hr hll hbl hb h1 hx hD
    go_enter Try.func20, Try.ntmps20
    go_wp2_with fail
    with_reducible refine Calls.mono (HR.out _ (HST.out _ (Chg.refl _ _)).2.1) ?_
    rintro e w2 ⟨rfl, hc2⟩
    have C2 := Lib.hid (HST.out _ hc2).2.2.2
    clear hc2
    go_wp2
    go_ret
    exact ⟨rfl, C2.out⟩

end Go.Proofs.Ythghlfghdmifoaa

/- append(s, x...) of bytes, that tells where the new slice lies. -/
namespace Go.Proofs.Ythghlfghdmifoaa
open Go.RowKit

theorem wpList_append_bytes_at {ops : Array Oper} {rest : List Oper} {o : Oper} {a : Act} {w : World} {Q : Exit → Act → World → Prop} (hgd : o.guard = none) (s x : Operand)
    (ho : o.op = .call { callee := .builtin .append, args := #[s, x], argTypes := #[22, 22] })
    (base : Nat) (v : Value) (ys : List Nat) (hs : a.eval s = v) (hown : w.ownsRow base 5 1 v ys.length (bv ys))
    (u : Value) (xs : List Nat) (hx : a.eval x = u) (hr : RdB w u xs) (hb : base ≤ w.heap.size) (hl : ys.length + xs.length < 100000000000)
    (h : ∀ v' w', w'.ownsRow base 5 1 v' (ys ++ xs).length (bv (ys ++ xs)) → Chg (fun k => some k = v.ownBlock) w w' → (v'.ownBlock = v.ownBlock ∨ v'.ownBlock = some w.heap.size) → wpList Try.prog ops Q rest (a.put o.dst v') w') :
    wpList Try.prog ops Q (o :: rest) a w := by
  obtain ⟨i, hi, hz0, hz1, hz2⟩ := info_parts Try.infoU8
  obtain ⟨ao, cap, hu⟩ := hr.form
  subst hu
  cases ao with
  | none =>
    have h0 : xs = [] := by
      rcases hr with ⟨h0, _⟩ | ⟨g, off, cap', he, _⟩
      · exact h0
      · simp at he
    subst h0
    refine wpList_plain hgd fun _ hK => ?_
    have hrun := run_append_nil w o.type base ys.length cap v (bv ys) hown
    rw [List.length_nil] at hx
    unfold Oper.wp execOp
    simp only [ho, resolve, invoke, builtin, Sem.run_bind, Sem.run_pure, Result.andThen_ok, List.map_toArray, List.map_cons, List.map_nil, hs, hx, hrun]
    exact hK _ _ (h v w (by rw [List.append_nil]; exact hown) (Chg.refl _ _) (.inl rfl))
  | some ad =>
    refine wpList_append_own_at w hgd s x 22 ho base 5 i (.int .u8 0) 1 1 Try.underlying22 hi hz0 hz1 hz2 rfl (by decide) v ys.length (bv ys) hs hown ad xs.length cap (bv xs) hx (by rw [bv_length, Nat.mul_one]) (RdB.news hr) (bv_one xs) (by unfold maxLen; omega) (by omega) hb fun v' w' h2 h3 _ h5 => ?_
    exact h v' w' (by rw [List.length_append, show bv (ys ++ xs) = bv ys ++ bv xs from by simp [bv]]; exact h2) (Chg.of_grown h3) h5

end Go.Proofs.Ythghlfghdmifoaa

/- Plain: all contexts' counts, added, are the bytes' counts. -/
namespace Go.Proofs.Ythghlfghdmifoaa
open Go

/-- bytes whose context is in L -/
def selLP (P : List (Nat × Nat)) (L : List Int) : List Nat := (P.filter fun p => decide ((p.1 : Int) ∈ L)).map (·.2)
def selL (xs : List Nat) (L : List Int) : List Nat := selLP (prs 0 xs) L

theorem selLP_cons (p : Nat × Nat) (P : List (Nat × Nat)) (L : List Int) : selLP (p :: P) L = (if (p.1 : Int) ∈ L then [p.2] else []) ++ selLP P L := by
  unfold selLP
  rw [List.filter_cons]
  by_cases h : (p.1 : Int) ∈ L
  · rw [if_pos h, if_pos (decide_eq_true h)]; rfl
  · rw [if_neg h, if_neg (by simp [h])]; rfl

theorem selLP_count (P : List (Nat × Nat)) (L : List Int) (c : Int) (hc : c ∉ L) (v : Nat) : (selLP P (L ++ [c])).count v = (selLP P L).count v + (selP P c).count v := by
  induction P with
  | nil => rfl
  | cons p P ih =>
    rw [selLP_cons, selLP_cons, selP_cons, List.count_append, List.count_append, List.count_append, ih]
    by_cases h1 : (p.1 : Int) ∈ L
    · have h2 : ¬ (p.1 : Int) = c := fun h => hc (h ▸ h1)
      rw [if_pos h1, if_pos (by simp [h1]), if_neg h2]; simp; omega
    · by_cases h2 : (p.1 : Int) = c
      · rw [if_neg h1, if_pos (by simp [h2]), if_pos h2]; simp; omega
      · rw [if_neg h1, if_neg (by simp [h1, h2]), if_neg h2]; simp

theorem selL_nil (xs : List Nat) : selL xs [] = [] := by
  unfold selL selLP
  simp
theorem selL_snoc (xs : List Nat) (L : List Int) (c : Int) (hc : c ∉ L) : cnt (selL xs (L ++ [c])) = addL (cnt (selL xs L)) (cnt (sel xs c)) := by
  apply ext_getD
  · rw [addL_length _ _ (by rw [cnt_length, cnt_length]), cnt_length, cnt_length]
  · intro k hk
    rw [cnt_length] at hk
    rw [addL_getD _ _ k (by rw [cnt_length]; exact hk) (by rw [cnt_length]; exact hk), cnt_getD _ k hk, cnt_getD _ k hk, cnt_getD _ k hk]
    unfold selL sel
    rw [selLP_count _ _ _ hc]; omega

theorem selL_sub (xs : List Nat) (L : List Int) : List.Sublist (selL xs L) xs := by
  have h : List.Sublist ((prs 0 xs).filter fun p => decide ((p.1 : Int) ∈ L)) (prs 0 xs) := List.filter_sublist
  have := h.map (·.2)
  rw [prs_snd] at this
  exact this
theorem selL_lt {xs : List Nat} (hx : ∀ x ∈ xs, x < 256) (L : List Int) : ∀ x ∈ selL xs L, x < 256 := fun x h => hx x ((selL_sub xs L).subset h)

theorem selL_pres (xs : List Nat) (hx : ∀ x ∈ xs, x < 256) : selL xs (pres xs) = xs := by
  unfold selL selLP
  rw [List.filter_eq_self.2, prs_snd]
  intro p hp
  have h1 := prs_fst_lt 0 xs (by omega) hx p hp
  rw [decide_eq_true_iff, pres_mem]
  refine ⟨by omega, by omega, ?_⟩
  have : p.2 ∈ sel xs (p.1 : Int) := by
    unfold sel selP
    rw [List.mem_map]
    exact ⟨p, List.mem_filter.2 ⟨hp, by simp⟩, rfl⟩
  exact List.length_pos_of_mem this

theorem pres_new (xs : List Nat) (i : Nat) (hi : i < (pres xs).length) : (pres xs).getD i 0 ∉ (pres xs).take i := by
  intro hm
  obtain ⟨j, hj, he⟩ := List.mem_iff_getElem.1 hm
  have hj2 : j < i ∧ j < (pres xs).length := by rw [List.length_take] at hj; omega
  have := List.pairwise_iff_getElem.1 (pres_rise xs) j i hj2.2 hi hj2.1
  rw [List.getElem_take] at he
  rw [List.getD_eq_getElem?_getD, List.getElem?_eq_getElem hi] at he
  simp only [Option.getD_some] at he
  omega

/-- one context more -/
theorem whole_step (xs : List Nat) (i : Nat) (hi : i < (pres xs).length) : cnt (selL xs ((pres xs).take (i + 1))) = addL (cnt (selL xs ((pres xs).take i))) (cnt (sel xs ((pres xs).getD i 0))) := by
  rw [take_snoc _ i hi, selL_snoc _ _ _ (pres_new xs i hi)]

theorem whole_ok (xs : List Nat) (hx : ∀ x ∈ xs, x < 256) (hl : xs.length ≤ 1000) (L : List Int) (c : Int) : addOk (cnt (selL xs L)) (cnt (sel xs c)) :=
  addOk_cnt _ _ (selL_lt hx L) (sel_lt hx c) (by have := (selL_sub xs L).length_le; have := sel_len xs c; omega)

theorem whole_some (xs : List Nat) (hx : ∀ x ∈ xs, x < 256) (hl : xs.length ≤ 1000) (i : Nat) (hi : i < (pres xs).length) : 1 ≤ totalI (cnt (sel xs ((pres xs).getD i 0))) ∧ totalI (cnt (sel xs ((pres xs).getD i 0))) ≤ 1000 := by
  have h1 := (pres_mem.1 (getD_mem hi)).2.2
  have h2 := sel_len xs ((pres xs).getD i 0)
  rw [total_cnt _ (sel_lt hx _) (by omega)]
  omega

theorem pres_range (xs : List Nat) (i : Nat) (hi : i < (pres xs).length) : 0 ≤ (pres xs).getD i 0 ∧ (pres xs).getD i 0 < 256 := by
  have := pres_mem.1 (getD_mem hi)
  exact ⟨this.1, this.2.1⟩

end Go.Proofs.Ythghlfghdmifoaa

/- Rows of bytes in memory that may be written; make of bytes. -/
namespace Go.Proofs.Ythghlfghdmifoaa
open Go.RowKit

/-- A block that is a row of bytes, of any kind (a slice's, or an array's). -/
def RowB (w : World) (g : Nat) (t : TypeId) (xs : List Nat) : Prop := w.heap[g]? = some (.cells (bv xs).toArray t (0, 0))
theorem RowB.cell {w : World} {g : Nat} {t : TypeId} {xs : List Nat} (h : RowB w g t xs) (k : Nat) (hk : k < xs.length) : w.cell? ⟨g, k, none⟩ = some (.int .u8 ((xs.getD k 0 : Nat) : Int)) := by
  rw [cell_of_row w g k _ _ _ h, List.getElem?_toArray, bv_get xs k hk]
theorem RowB.free {w : World} {g : Nat} {t : TypeId} {xs : List Nat} (h : RowB w g t xs) (k : Nat) : w.frozen? ⟨g, k, none⟩ = false := frozen_of_row w g k _ _ h
theorem RowB.kept {S : Nat → Prop} {w w' : World} {g : Nat} {t : TypeId} {xs : List Nat} (h : RowB w g t xs) (hc : Chg S w w') (hS : ¬ S g) : RowB w' g t xs := (hc.block g (lt_of_block h) hS).trans h
theorem RowB.lt {w : World} {g : Nat} {t : TypeId} {xs : List Nat} (h : RowB w g t xs) : g < w.heap.size := lt_of_block h
theorem RowB.set {w : World} {g : Nat} {t : TypeId} {xs : List Nat} (h : RowB w g t xs) (i n : Nat) : RowB (w.setCell ⟨g, i, none⟩ (.int .u8 (n : Int))) g t (xs.set i n) := by
  have := heap_setCell_same w g i _ _ (.int .u8 (n : Int)) h
  unfold RowB
  rw [this, List.setIfInBounds_toArray, bv_set]
theorem RowB.rd {w : World} {g : Nat} {t : TypeId} {xs : List Nat} (h : RowB w g t xs) (cap : Nat) : RdB w (.slice (some ⟨g, 0, none⟩) xs.length cap) xs :=
  .inr ⟨g, 0, cap, rfl, fun j hj => by rw [Nat.zero_add]; exact h.cell j hj⟩

/-- The value v is a slice of the bytes xs, in memory from block base on, that may be written. -/
def OwnB (w : World) (base : Nat) (v : Value) (xs : List Nat) : Prop :=
  ∃ g off cap, v = .slice (some ⟨g, off, none⟩) xs.length cap ∧ base ≤ g ∧ g < w.heap.size ∧ (∀ j, j < xs.length → w.cell? ⟨g, off + j, none⟩ = some (.int .u8 ((xs.getD j 0 : Nat) : Int))) ∧ ∀ j, w.frozen? ⟨g, off + j, none⟩ = false
theorem OwnB.rd {w : World} {base : Nat} {v : Value} {xs : List Nat} (h : OwnB w base v xs) : RdB w v xs := by
  obtain ⟨g, off, cap, rfl, _, _, hc, _⟩ := h
  exact .inr ⟨g, off, cap, rfl, hc⟩
theorem OwnB.mono {w : World} {base base' : Nat} {v : Value} {xs : List Nat} (h : OwnB w base v xs) (hb : base' ≤ base) : OwnB w base' v xs := by
  obtain ⟨g, off, cap, rfl, h1, h2⟩ := h
  exact ⟨g, off, cap, rfl, Nat.le_trans hb h1, h2⟩
theorem RowB.own {w : World} {g : Nat} {t : TypeId} {xs : List Nat} (h : RowB w g t xs) (cap base : Nat) (hb : base ≤ g) : OwnB w base (.slice (some ⟨g, 0, none⟩) xs.length cap) xs :=
  ⟨g, 0, cap, rfl, hb, h.lt, fun j hj => by rw [Nat.zero_add]; exact h.cell j hj, fun j => by rw [Nat.zero_add]; exact h.free j⟩

theorem zeros_bvs (n : Nat) : (madeCells (Value.int .u8 0).cells (n * 1)).toList = bv (List.replicate n 0) := by
  rw [Nat.mul_one]
  apply List.ext_getElem (by simp [madeCells, bv])
  intro i h1 h2
  simp [madeCells, Value.cells, Nat.mod_one, bv]
theorem RowB.of_own {w : World} {base g n : Nat} {xs : List Nat} (h : w.ownsRow base 5 1 (.slice (some ⟨g, 0, none⟩) n n) n (bv xs)) : RowB w g 5 xs := by
  rcases h.2 with ⟨h0, _⟩ | ⟨g', cap, cur, he, _, hg, _, _, hs, ht⟩
  · simp at h0
  · simp only [Value.slice.injEq, Option.some.injEq, Addr.mk.injEq, and_true, true_and] at he
    obtain ⟨rfl, rfl⟩ := he
    have : cur = (bv xs).toArray := by
      apply Array.ext'
      rw [← ht, List.take_of_length_le (by rw [Array.length_toList, hs]; exact Nat.le_refl _)]
    rw [this] at hg
    exact hg
theorem wpList_make_bytes {ops : Array Oper} {rest : List Oper} {o : Oper} {a : Act} {w : World} {Q : Exit → Act → World → Prop} (hg : o.guard = none) (l c : Operand) (hop : o.op = Op.makeSlice 22 l c)
    (L C : Int) (n : Nat) (hl : a.eval l = .int .i64 L) (hc : a.eval c = .int .i64 C) (hL : L = (n : Int)) (hC : C = (n : Int)) (hn : n < 100000000000) (Z : List Nat) (hZ : Z = List.replicate n 0)
    (hK : ∀ w', RowB w' w.heap.size 5 Z → Chg (fun _ => False) w w' → wpList Try.prog ops Q rest (a.put o.dst (.slice (some ⟨w.heap.size, 0, none⟩) n n)) w') : wpList Try.prog ops Q (o :: rest) a w := by
  obtain ⟨i, hi, hz0, hz1, hz2⟩ := info_parts Try.infoU8
  refine wpList_make_full w hg l c 22 hop w.heap.size 5 i (.int .u8 0) 1 Try.underlying22 hi hz0 hz1 .i64 .i64 L C n hl hc hL hC (by rw [hz2]; omega) (by unfold maxLen; omega) (Nat.le_refl _) ?_
  intro w1 h1 h2
  rw [zeros_bvs, ← hZ] at h1
  exact hK w1 (RowB.of_own h1) ((Chg.of_grown h2).mono fun k _ hk => by simp at hk)

end Go.Proofs.Ythghlfghdmifoaa

/- What model's apart tells: the bytes of each context, each in memory of its own. THIS SPEAKS OF THE PROGRAM'S OWN TEXT. -/
namespace Go.Proofs.Ythghlfghdmifoaa
open Go.RowKit

theorem Chg.setRow (w : World) (g : Nat) (cs : Array Value) : Chg (fun k => k = g) w (w.setRow g cs) := ⟨rfl, rfl, rfl, by simp [World.setRow], fun k _ hs => setRow_other w g k _ hs⟩

/-- block A holds 256 slices of bytes, f c at c, each in memory of its own from block B on, no two of them in one block -/
structure Ap (w : World) (B A : Nat) (f : Nat → List Nat) (vs : List Value) : Prop where
  row : w.heap[A]? = some (.cells vs.toArray 49 (0, 0))
  len : vs.length = 256
  own : ∀ c, c < 256 → w.ownsRow B 5 1 (vs.getD c undef) (f c).length (bv (f c))
  dis : ∀ c d k, c < 256 → d < 256 → (vs.getD c undef).ownBlock = some k → (vs.getD d undef).ownBlock = some k → c = d
theorem Ap.lt {w : World} {B A : Nat} {f : Nat → List Nat} {vs : List Value} (h : Ap w B A f vs) : A < w.heap.size := lt_of_block h.row
theorem Ap.kept {w w' : World} {B A : Nat} {f : Nat → List Nat} {vs : List Value} (h : Ap w B A f vs) (hc : Chg (fun _ => False) w w') : Ap w' B A f vs :=
  ⟨(hc.block A h.lt (by simp)).trans h.row, h.len, fun c hl => hc.own (h.own c hl) (by simp), h.dis⟩
theorem Ap.congr {w : World} {B A : Nat} {f g : Nat → List Nat} {vs : List Value} (h : Ap w B A f vs) (he : ∀ c, c < 256 → f c = g c) : Ap w B A g vs :=
  ⟨h.row, h.len, fun c hl => by rw [← he c hl]; exact h.own c hl, h.dis⟩
theorem Ap.cell {w : World} {B A : Nat} {f : Nat → List Nat} {vs : List Value} (h : Ap w B A f vs) (c : Nat) (hc : c < 256) : w.cell? ⟨A, c, none⟩ = some (vs.getD c undef) ∧ w.frozen? ⟨A, c, none⟩ = false := by
  refine ⟨?_, frozen_of_row w A c _ _ h.row⟩
  have := h.len
  rw [cell_of_row w A c _ _ _ h.row, List.getElem?_toArray, List.getElem?_eq_getElem (by omega), List.getD_eq_getElem?_getD, List.getElem?_eq_getElem (by omega)]; rfl
theorem Ap.new {w : World} {A B : Nat} {Z : List Value} (hZ : Z = List.replicate 256 (.slice none 0 0)) (h : w.heap[A]? = some (.cells Z.toArray 49 (0, 0))) : Ap w B A (fun _ => []) Z := by
  have hg : ∀ c, c < 256 → Z.getD c undef = .slice none 0 0 := fun c hc => by rw [hZ, List.getD_eq_getElem?_getD, List.getElem?_replicate, if_pos hc]; rfl
  refine ⟨h, by rw [hZ, List.length_replicate], fun c hc => ?_, fun c d k hc _ hk => ?_⟩
  · rw [hg c hc]; exact ⟨rfl, .inl ⟨rfl, rfl⟩⟩
  · rw [hg c hc] at hk; simp [Value.ownBlock] at hk
/-- a byte more at p -/
theorem Ap.step {w w1 : World} {B A p x : Nat} {f : Nat → List Nat} {vs : List Value} {v4 : Value} (h : Ap w B A f vs) (hAB : A < B) (hp : p < 256) (hc : Chg (fun k => some k = (vs.getD p undef).ownBlock) w w1)
    (ho : w1.ownsRow B 5 1 v4 (f p ++ [x]).length (bv (f p ++ [x]))) (hb : v4.ownBlock = (vs.getD p undef).ownBlock ∨ ∃ q, v4.ownBlock = some q ∧ w.heap.size ≤ q) :
    Ap (w1.setCell ⟨A, p, none⟩ v4) B A (fun c => f c ++ if c = p then [x] else []) (vs.set p v4) := by
  have hl := h.len
  have hcs := Chg.setCell w1 ⟨A, p, none⟩ v4
  have hself : (vs.set p v4).getD p undef = v4 := by rw [List.getD_eq_getElem?_getD, List.getElem?_set_self (by omega)]; rfl
  have hne : ∀ c, c ≠ p → (vs.set p v4).getD c undef = vs.getD c undef := fun c hcp => by rw [List.getD_eq_getElem?_getD, List.getElem?_set_ne (Ne.symm hcp), ← List.getD_eq_getElem?_getD]
  have hoff : ∀ d k, d < 256 → d ≠ p → v4.ownBlock = some k → (vs.getD d undef).ownBlock = some k → False := fun d k hd hdp h1 h2 => by
    rcases hb with hb | ⟨q, hb, hq⟩
    · exact hdp (h.dis d p k hd hp h2 (by rw [← hb]; exact h1))
    · have h3 := ((h.own d hd).lt k h2).2
      rw [hb] at h1
      have : q = k := by simpa using h1
      omega
  refine ⟨?_, by rw [List.length_set]; exact hl, fun c hc2 => ?_, fun c d k hc2 hd h1 h2 => ?_⟩
  · have hblk : w1.heap[A]? = some (.cells vs.toArray 49 (0, 0)) := (hc.block A h.lt (fun he => by have := ((h.own p hp).lt A he.symm).1; omega)).trans h.row
    rw [heap_setCell_same w1 A p _ _ v4 hblk, List.setIfInBounds_toArray]
  · by_cases hcp : c = p
    · subst hcp
      rw [hself]
      simp only [if_true]
      exact hcs.own ho fun k hk he => by have := (ho.lt k hk).1; simp at he; omega
    · rw [hne c hcp]
      simp only [if_neg hcp, List.append_nil]
      refine hcs.own (hc.own (h.own c hc2) fun k hk he => hcp (h.dis c p k hc2 hp hk he.symm)) fun k hk he => ?_
      have := ((h.own c hc2).lt k hk).1
      simp at he
      omega
  · by_cases hcp : c = p
    · by_cases hdp : d = p
      · rw [hcp, hdp]
      · rw [hcp, hself] at h1
        rw [hne d hdp] at h2
        exact (hoff d k hd hdp h1 h2).elim
    · rw [hne c hcp] at h1
      by_cases hdp : d = p
      · rw [hdp, hself] at h2
        exact (hoff c k hc2 hcp h2 h1).elim
      · rw [hne d hdp] at h2
        exact h.dis c d k hc2 hd h1 h2
/-- each is read, and stays as long as nothing old turns -/
theorem Ap.rd {w : World} {B A : Nat} {f : Nat → List Nat} {vs : List Value} (h : Ap w B A f vs) (c : Nat) (hc : c < 256) : RdB w (vs.getD c undef) (f c) := RdB.of_own (h.own c hc)

theorem zeroApart : ∃ Z : List Value, Z = List.replicate 256 (.slice none 0 0) ∧ ∀ W : World, (zeroValue 49).run Try.prog W = .ok (.agg Z.toArray) W := ⟨_, rfl, fun W => by kernel_rfl⟩
theorem infoApart : (Try.prog.info? 49).map (·.size) = some 256 := by kernel_rfl
theorem RdB.cells1 {w : World} {v : Value} {xs : List Nat} (h : RdB w v xs) : v.oneCell' = true := by
  obtain ⟨ao, cap, rfl⟩ := h.form
  rfl

set_option maxRecDepth 100000 in
set_option maxHeartbeats 2000000 in
theorem mapart_any (v : Value) (xs : List Nat) (w : World) (h : RdB w v xs) (hx : ∀ x ∈ xs, x < 256) (hl : xs.length < 10000000000) :
    Calls Try.prog 30 #[v] w fun e w' => ∃ vs : List Value, e = .returned (.agg vs.toArray) ∧ vs.length = 256 ∧ (∀ c, c < 256 → RdB w' (vs.getD c undef) (sel xs (c : Int))) ∧ Chg (fun _ => False) w w' := by
  obtain ⟨ao, cap, rfl⟩ := h.form
  obtain ⟨Z, hZ, hzero⟩ := zeroApart
  have ca := Chg.alloc (fun _ => False) w (.cells Z.toArray 49)
  have ha : (w.alloc (.cells Z.toArray 49)).heap[w.heap.size]? = some (.cells Z.toArray 49 (0, 0)) := heap_alloc_new w _
  obtain ⟨W1, hW1⟩ : ∃ W, w.alloc (.cells Z.toArray 49) = W := ⟨_, rfl⟩
  rw [hW1] at ca ha
  have cb := Chg.alloc (fun _ => False) W1 (.cells Z.toArray 49)
  have hb : Ap (W1.alloc (.cells Z.toArray 49)) (W1.heap.size + 1) W1.heap.size (fun c => sel (xs.take 0) (c : Int)) Z := (Ap.new hZ (heap_alloc_new W1 _)).congr fun c _ => by rw [List.take_zero, sel_nil]
  have hR : (W1.alloc (.cells Z.toArray 49)).heap[w.heap.size]? = some (.cells Z.toArray 49 (0, 0)) := (cb.block _ (lt_of_block ha) (by simp)).trans ha
  have hlt : w.heap.size < W1.heap.size := lt_of_block ha
  have hsz := cb.size
  have hsz2 : (W1.alloc (.cells Z.toArray 49)).heap.size = W1.heap.size + 1 := by simp
  obtain ⟨W2, hW2⟩ : ∃ W, W1.alloc (.cells Z.toArray 49) = W := ⟨_, rfl⟩
  obtain ⟨A, hA⟩ : ∃ A, W1.heap.size = A := ⟨_, rfl⟩
  obtain ⟨R, hRe⟩ : ∃ R, w.heap.size = R := ⟨_, rfl⟩
  rw [hW2] at cb hb hR hsz2
  rw [hA] at hb hlt hsz2
  rw [hRe] at hR hlt
  have HB := Lib.hid hb; have HC := Lib.hid (ca.trans cb fun _ _ h => h); have HRR := Lib.hid hR; have HLT := Lib.hid hlt; have HSZ := Lib.hid hsz2; have HRE := Lib.hid hRe
  have H := Lib.hid h; have HX := Lib.hid hx
  have HZL := Lib.hid (show Z.length = 256 by rw [hZ, List.length_replicate])
  obtain ⟨nb, hnb⟩ : ∃ nb, xs.length = nb := ⟨_, rfl⟩
  have HNB := Lib.hid hnb
  rw [hnb] at hl H ⊢
  clear h hx ca ha cb hb hR hlt hsz hsz2 hnb hZ
  go_enter Try.func30, Try.ntmps30
  go_wp2
  go_loopw [4, 5, 6, 9] (fun _ _ _ o9 wr => ∃ (k : Nat) (vs : List Value), k ≤ nb ∧ o9 = .int .i64 (k : Int) ∧ Ap wr (A + 1) A (fun c => sel (xs.take k) (c : Int)) vs ∧ wr.heap[R]? = some (.cells Z.toArray 49 (0, 0)) ∧ A + 1 ≤ wr.heap.size ∧ Chg (fun _ => False) w wr) (fun _ _ _ o9 _ => nb - (intOf o9).toNat)
  case atStart => exact ⟨0, Z, Nat.zero_le _, rfl, HB.out, HRR.out, by rw [HSZ.out]; exact Nat.le_refl _, HC.out⟩
  case round =>
    clear HB HC HRR HSZ
    obtain ⟨k, vs, hk, rfl, hap, hrr, hsz, hcg⟩ := hrel
    have HAP := Lib.hid hap; have HRR := Lib.hid hrr; have HSZ := Lib.hid hsz; have HCG := Lib.hid hcg
    clear hap hrr hsz
    by_cases hk2 : k < nb
    · obtain ⟨gb, ob, rfl, hbc⟩ := (H.out.kept hcg (by simp)).at k (by rw [HNB.out]; exact hk2)
      have hkI : (k : Int) < (nb : Int) := by omega
      have hxk := getD_lt xs HX.out k
      have hst := sel_take_succ xs k (by rw [HNB.out]; exact hk2)
      have hsl := fun c => sel_len (xs.take k) c
      obtain ⟨x, hxe⟩ : ∃ x, xs.getD k 0 = x := ⟨_, rfl⟩
      rw [hxe] at hbc hxk hst
      have hp : (0 :: xs).getD k 0 < 256 := by
        cases k with
        | zero => simp
        | succ k => simp only [List.getD_cons_succ]; exact getD_lt xs HX.out k
      have hat := atI_nat xs k (by rw [HNB.out]; exact hk2)
      obtain ⟨p, hpe⟩ : ∃ p, (0 :: xs).getD k 0 = p := ⟨_, rfl⟩
      rw [hpe] at hst hp hat
      have HST := Lib.hid hst; have HSL := Lib.hid hsl; have HAT := Lib.hid hat
      have hpI : (p : Int) < 256 := by omega
      clear hst hsl hat hpe hxe hcg
      go_wp2_with fail
      refine (xat_any _ xs (k : Int) wr (H.out.kept HCG.out (by simp)) HX.out (by rw [HNB.out]; exact hl) (by omega)).mono ?_
      rintro e w2 ⟨rfl, m, rfl⟩
      rw [HAT.out]
      have c2 : Chg (fun _ => False) wr (wr.drewN m) := (Chg.refl (fun _ => False) wr).drewN m
      have o2 := HCG.out.trans c2 fun _ _ h => h
      have ap2 := HAP.out.kept c2
      have hr2 := (c2.block R (lt_of_block HRR.out) (by simp)).trans HRR.out
      have hs2 := Nat.le_trans HSZ.out c2.size
      obtain ⟨W, hW⟩ : ∃ W, wr.drewN m = W := ⟨_, rfl⟩
      rw [hW] at c2 o2 ap2 hr2 hs2 ⊢
      obtain ⟨a1, a2⟩ := ap2.cell p hp
      have hca := Chg.alloc (fun _ => False) W (.cells #[.int .u8 (x : Int)] 5)
      have hrd := rdb_new W [x] #[.int .u8 (x : Int)] 1 (0, 0) rfl rfl
      have hap3 := ap2.kept hca
      have HOA := Lib.hid (hap3.own p hp); have HRD := Lib.hid hrd; have HCA := Lib.hid hca; have HZ := Lib.hid (Nat.le_trans hs2 hca.size); have AP2 := Lib.hid ap2
      have HR2 := Lib.hid hr2; have O2 := Lib.hid o2
      have hfo := (RdB.of_own (ap2.own p hp)).form
      obtain ⟨vo, hvo⟩ : ∃ vo, vs.getD p undef = vo := ⟨_, rfl⟩
      have HVO := Lib.hid hvo
      rw [hvo] at a1 HOA hfo
      clear c2 o2 ap2 hr2 hs2 hW hca hrd hap3 hvo hbc HAP HRR HSZ HCG
      obtain ⟨ov, cv, rfl⟩ := hfo
      go_wp2_with (at_builtin; refine wpList_append_bytes_at rfl (.tmp 20) (.tmp 22) rfl (A + 1) _ (sel (xs.take k) (p : Int)) rfl HOA.out _ [x] rfl HRD.out HZ.out (by have := HSL.out (p : Int); rw [List.length_take, HNB.out] at this; simp only [List.length_cons, List.length_nil]; omega) ?_)
      intro v4 w4 ho4 hc4 hb4
      have hs4 : Chg (fun k => some k = (vs.getD p undef).ownBlock) W w4 := by
        rw [HVO.out]
        exact (HCA.out.mono fun _ _ h => h.elim).trans hc4 fun _ _ h => h
      have hstep := AP2.out.step (x := x) (by omega) hp hs4 (by simpa using ho4) (by
        rw [HVO.out]
        rcases hb4 with h | h
        · exact .inl h
        · exact .inr ⟨_, h, by simp⟩)
      have hfo4 := (RdB.of_own (by simpa using ho4)).form
      have hA4 : w4.heap[A]? = W.heap[A]? := hs4.block A AP2.out.lt fun he => by have := ((AP2.out.own p hp).lt A he.symm).1; omega
      have hR4 : w4.heap[R]? = W.heap[R]? := hs4.block R (lt_of_block HR2.out) fun he => by have := ((AP2.out.own p hp).lt R he.symm).1; have := HLT.out; omega
      have f1 : w4.cell? ⟨A, p, none⟩ = some (.slice ov (sel (xs.take k) (p : Int)).length cv) := by rw [World.cell?_of_block (w := W) (a := ⟨A, p, none⟩) hA4]; exact a1
      have f2 : w4.frozen? ⟨A, p, none⟩ = false := frozen_of_row w4 A p _ _ (hA4.trans AP2.out.row)
      have hcg4 : Chg (fun _ => False) w w4 := O2.out.trans hs4 fun q hq he => by have := ((AP2.out.own p hp).lt q he.symm).1; have := HLT.out; have := HRE.out; omega
      obtain ⟨o4, c4, rfl⟩ := hfo4
      have hcg5 := hcg4.trans (Chg.setCell w4 ⟨A, p, none⟩ (.slice o4 (sel (xs.take k) (p : Int) ++ [x]).length c4)) fun q hq he => by simp at he; have := HLT.out; have := HRE.out; omega
      have hR5 := ((Chg.setCell w4 ⟨A, p, none⟩ (.slice o4 (sel (xs.take k) (p : Int) ++ [x]).length c4)).block R (lt_of_block (hR4.trans HR2.out)) (fun he => by simp at he; have := HLT.out; omega)).trans (hR4.trans HR2.out)
      have hS5 := Nat.le_trans HZ.out (Nat.le_trans hc4.size (Chg.setCell w4 ⟨A, p, none⟩ (.slice o4 (sel (xs.take k) (p : Int) ++ [x]).length c4)).size)
      have hstep := hstep.congr (g := fun c => sel (xs.take (k + 1)) (c : Int)) fun c hc => by
        rw [HST.out]
        by_cases hcp : c = p
        · rw [if_pos hcp, if_pos (by rw [hcp])]
        · rw [if_neg hcp, if_neg (by omega)]
      obtain ⟨L4, hL4⟩ : ∃ L4, (sel (xs.take k) (p : Int) ++ [x]).length = L4 := ⟨_, rfl⟩
      rw [hL4] at hstep hcg5 hR5 hS5 ⊢
      have H5 := Lib.hid hstep; have HC5 := Lib.hid hcg5; have HR5 := Lib.hid hR5; have HS5 := Lib.hid hS5
      clear hstep hcg5 hR5 hS5 hs4 hA4 hR4 hcg4 hL4 ho4 hc4 hb4 HOA HRD HCA HZ AP2 HR2 O2
      go_wp2
      go_roundw
      case rel => exact ⟨k + 1, _, by omega, by go_num, H5.out, HR5.out, HS5.out, HC5.out⟩
      case measure => simp [intOf]; omega
    · obtain rfl : k = nb := by omega
      have hi : (Try.prog.info? 49).map (·.size) = some vs.toArray.size := by rw [List.size_toArray, HAP.out.len]; exact infoApart
      have hiz : Z.toArray.size = vs.toArray.size := by rw [List.size_toArray, List.size_toArray, HAP.out.len, HZL.out]
      have h1 : vs.toArray.all (·.oneCell') = true := by
        rw [Array.all_eq_true_iff_forall_mem]
        intro v hv
        obtain ⟨c, hc, rfl⟩ := List.mem_iff_getElem.1 (by simpa using hv : v ∈ vs)
        have := (HAP.out.rd c (by have := HAP.out.len; omega)).cells1
        rwa [List.getD_eq_getElem?_getD, List.getElem?_eq_getElem hc] at this
      have cs := Chg.setRow wr R vs.toArray
      have hrow := setRow_heap wr R Z.toArray vs.toArray _ _ HRR.out
      have hfin : Chg (fun _ => False) w (wr.setRow R vs.toArray) := hcg.trans cs fun q hq he => by have := HRE.out; omega
      have hrd : ∀ c, c < 256 → RdB (wr.setRow R vs.toArray) (vs.getD c undef) (sel xs (c : Int)) := fun c hc => by
        have := RdB.of_own (cs.own (HAP.out.own c hc) fun k hk he => by have := ((HAP.out.own c hc).lt k hk).1; have := HLT.out; omega)
        rwa [← HNB.out, List.take_length] at this
      have HI := Lib.hid hi; have HIZ := Lib.hid hiz; have H1 := Lib.hid h1; have HROW := Lib.hid hrow; have HFIN := Lib.hid hfin; have HRD := Lib.hid hrd
      clear hi hiz h1 cs hrow hfin hrd hcg
      go_wp2_with (first | (refine wpList_load_row rfl 49 _ rfl A rfl _ _ _ _ HAP.out.row Try.underlying49 rfl HI.out ?_) | (refine wpList_store_row rfl 49 _ _ rfl R _ rfl rfl _ _ HRR.out HI.out HIZ.out H1.out ?_))
      refine bodyPost_ret (v := .agg vs.toArray) (results_cell_row Try.results30 _ _ R _ vs.toArray _ _ rfl HROW.out Try.underlying49 rfl HI.out) rfl ?_
      exact ⟨vs, rfl, HAP.out.len, HRD.out, HFIN.out⟩

end Go.Proofs.Ythghlfghdmifoaa

/- What the document's own Counts (puncheonref08) tells: the walk. -/
namespace Go.Proofs.Ythghlfghdmifoaa
open Go.RowKit

/-- the sum of a row of numbers in memory -/
def sumAt (w : World) (g : Nat) : Int := match w.heap[g]? with
  | some (.cells a _ _) => tot (a.toList.map intOf)
  | _ => 0
theorem RowI.sumAt {w : World} {g : Nat} {t : TypeId} {zs : List Int} (h : RowI w g t zs) : sumAt w g = tot zs := by
  unfold Go.Proofs.Ythghlfghdmifoaa.sumAt
  rw [show w.heap[g]? = _ from h]
  simp only [iw, List.map_map]
  congr 1
  rw [show (intOf ∘ fun z => Value.int IntKind.i64 z) = id from rfl, List.map_id]

def fQ (c : List Int) (S n : Int) (i : Nat) : Int := if c.getD i 0 * S / n = 0 then min (c.getD i 0) 1 else c.getD i 0 * S / n
def fR (c : List Int) (S n : Int) (i : Nat) : Int := c.getD i 0 * S % n
def fH (c : List Int) (S n : Int) (i : Nat) : Bool := decide (c.getD i 0 * S / n = 0)

theorem base_bound {c : List Int} {S : Int} (h : Fit c S) (hS : S ≤ 4096) (s : Nat) (hs : s < 256) : 0 ≤ (qBase c S (tot c)).getD s 0 ∧ (qBase c S (tot c)).getD s 0 ≤ 4096 := by
  have hl : s < c.length := by rw [h.len]; exact hs
  rw [base_at s hl]
  have hx := h.at s hs
  have hn := h.some
  have hle : c.getD s 0 ≤ tot c := by
    have h1 := tot_take_le c (s + 1) h.low
    rw [tot_take_succ c s hl] at h1
    have := tot_nonneg (c.take s) (fun y hy => h.low y (List.mem_of_mem_take hy))
    omega
  have d := div_parts (c.getD s 0) S (tot c) hn hx h.sz
  have h2 : c.getD s 0 * S / tot c ≤ S := by
    refine Int.ediv_le_of_le_mul hn ?_
    have := Int.mul_le_mul_of_nonneg_right hle (show 0 ≤ S by have := h.sz; omega)
    rw [Int.mul_comm S]; exact this
  split <;> omega

theorem mem_bound {l : List Int} {lo hi : Int} (hl : l.length = 256) (h : ∀ s, s < 256 → lo ≤ l.getD s 0 ∧ l.getD s 0 ≤ hi) : ∀ z ∈ l, lo ≤ z ∧ z ≤ hi := by
  intro z hz
  obtain ⟨i, hi', rfl⟩ := List.mem_iff_getElem.1 hz
  have := h i (by omega)
  rwa [List.getD_eq_getElem?_getD, List.getElem?_eq_getElem hi'] at this

theorem give_bound {c : List Int} {S : Int} (h : Fit c S) (hS : S ≤ 4096) {k : Nat} {p : List Int × List Bool} (g : Gave (rest0 c S (tot c)) (qBase c S (tot c)) (had0 c S (tot c)) k p) : ∀ z ∈ p.1, 0 ≤ z ∧ z ≤ 4294967296 := by
  refine mem_bound g.len1 fun s hs => ?_
  have h1 := g.val s hs
  have h2 := base_bound h hS s hs
  rw [h1]
  split <;> omega

theorem r8richest_l (g h o cap : Nat) (t : TypeId) (q c : List Int) (w : World) (hr : RowI w g t q) (hh : RdI w (.slice (some ⟨h, o, none⟩) c.length cap) c) (hl : q.length = 256) (hl2 : c.length = 256) :
    Calls Try.prog 61 #[.slice (some ⟨g, 0, none⟩) 256 256, .slice (some ⟨h, o, none⟩) c.length cap] w fun e w' => e = .returned (.int .i64 ((richTo q c 255 : Nat) : Int)) ∧ ∃ m, w' = w.drewN m := by
  rw [hl2] at hh ⊢
  exact r8richest_any g h o cap t q c w hr hh hl hl2

set_option maxHeartbeats 8000000 in
set_option maxRecDepth 100000 in
theorem r8counts_room (v : Value) (c : List Int) (r : Int) (w : World) (h : RdI w v c) (hb : ∀ z ∈ c, -9223372036854775808 ≤ z ∧ z ≤ 9223372036854775807) (hl : c.length < 100000000000) (hr : -9223372036854775808 ≤ r ∧ r ≤ 9223372036854775807) :
    Calls Try.prog 35 #[v, .int .i64 r] w fun e w' => NormSays w c r e w' ∧ RoomE e := by
  have HT := Lib.hid (r5total_any v c w h hb hl); have HM := Lib.hid (r5many_any v c w h hb hl)
  obtain ⟨ao, cap, rfl⟩ := h.form
  have H := Lib.hid h; have HB := Lib.hid hb
  clear h hb
  by_cases h0 : totalI c = 0
  · have hno : ¬ normOk c r := fun hk => (total_pos.1 h0) ⟨hk.1, hk.2.1⟩
    have HNO := Lib.hid hno
    rw [h0] at HT
    clear hno h0
    go_enter Try.func35, Try.ntmps35
    go_wp2_with fail
    refine HT.out.mono ?_
    rintro e w' ⟨rfl, rfl⟩
    go_wp2
    go_ret2
    exact ⟨⟨_, by rw [if_neg HNO.out]; rfl, fun hk => absurd hk HNO.out, fun _ => .inl ⟨rfl, _, _, rfl⟩, Chg.refl _ _⟩, .of (Nat.le_refl _)⟩
  have hpos : isRight c ∧ 0 < tot c := by
    rcases Decidable.em (isRight c ∧ 0 < tot c) with hh | hh
    · exact hh
    · exact absurd (total_pos.2 hh) h0
  have htn : totalI c = tot c := by unfold totalI; rw [if_pos hpos.1]
  have hmn : manyI c = pos c := by unfold manyI; rw [if_pos hpos.1]
  rw [htn] at HT h0
  rw [hmn] at HM
  have hn1 : 0 < tot c := hpos.2
  have hn2 : tot c ≤ 1073741824 := hpos.1.2.2
  have hp256 : pos c ≤ 256 := by have := pos_le c; rw [hpos.1.1] at this; exact this
  obtain ⟨n, hn⟩ : ∃ n, tot c = n := ⟨_, rfl⟩
  rw [hn] at HT hn1 hn2 h0
  have hn0 : (n == 0) = false := by simp; omega
  by_cases hr1 : r < 1
  · have HNO := Lib.hid (show ¬ normOk c r from fun hk => by have := hk.2.2.1; omega)
    clear hpos htn hmn
    go_enter Try.func35, Try.ntmps35
    go_wp2_with fail
    refine HT.out.mono ?_
    rintro e w' ⟨rfl, rfl⟩
    go_wp2
    go_ret2
    exact ⟨⟨_, by rw [if_neg HNO.out]; rfl, fun hk => absurd hk HNO.out, fun _ => .inl ⟨rfl, _, _, rfl⟩, Chg.refl _ _⟩, .of (Nat.le_refl _)⟩
  by_cases hr2 : 12 < r
  · have HNO := Lib.hid (show ¬ normOk c r from fun hk => by have := hk.2.2.2.1; omega)
    clear hpos htn hmn
    go_enter Try.func35, Try.ntmps35
    go_wp2_with fail
    refine HT.out.mono ?_
    rintro e w' ⟨rfl, rfl⟩
    go_wp2
    go_ret2
    exact ⟨⟨_, by rw [if_neg HNO.out]; rfl, fun hk => absurd hk HNO.out, fun _ => .inl ⟨rfl, _, _, rfl⟩, Chg.refl _ _⟩, .of (Nat.le_refl _)⟩
  obtain ⟨k, rfl⟩ : ∃ k : Nat, r = (k : Int) := ⟨r.toNat, by omega⟩
  have hk12 : k ≤ 12 := by omega
  have HPW := Lib.hid (r8power_any k w (by omega))
  have hS := pow12 hk12
  have hS1 := Nat.two_pow_pos k
  obtain ⟨S, hSe⟩ : ∃ S, 2 ^ k = S := ⟨_, rfl⟩
  rw [hSe] at HPW hS hS1
  have hokI : normOk c (k : Int) ↔ (pos c : Int) ≤ (S : Int) := by
    unfold normOk
    rw [Int.toNat_natCast, hSe]
    exact ⟨fun hh => hh.2.2.2.2, fun hh => ⟨hpos.1, hpos.2, by omega, by omega, hh⟩⟩
  have hnr : normR c (k : Int) = normC c (S : Int) := by unfold normR; rw [Int.toNat_natCast, hSe]
  by_cases hmany : (S : Int) < (pos c : Int)
  · have HNO := Lib.hid (show ¬ normOk c (k : Int) from fun hk => by have := hokI.1 hk; omega)
    obtain ⟨p, hp⟩ : ∃ p, pos c = p := ⟨_, rfl⟩
    rw [hp] at hmany HM
    have hmany' : S < p := by omega
    clear hpos htn hmn hokI hnr hp hp256 hn hSe
    go_enter Try.func35, Try.ntmps35
    go_wp2_with fail
    refine HT.out.mono ?_
    rintro e w' ⟨rfl, rfl⟩
    go_wp2_with fail
    refine HPW.out.mono ?_
    rintro e w' ⟨rfl, rfl⟩
    go_wp2_with fail
    refine HM.out.mono ?_
    rintro e w' ⟨rfl, rfl⟩
    go_wp2
    go_ret2
    exact ⟨⟨_, by rw [if_neg HNO.out]; rfl, fun hk => absurd hk HNO.out, fun _ => .inl ⟨rfl, _, _, rfl⟩, Chg.refl _ _⟩, .of (Nat.le_refl _)⟩
  have HOK := Lib.hid (show normOk c (k : Int) from hokI.2 (by omega))
  have hfit : Fit c (S : Int) := by have := HOK.out.fit; rw [Int.toNat_natCast, hSe] at this; exact this
  have HFIT := Lib.hid hfit; have HNR := Lib.hid hnr; have HNN := Lib.hid hn
  obtain ⟨p, hp⟩ : ∃ p, pos c = p := ⟨_, rfl⟩
  rw [hp] at hmany HM
  have hmany' : ¬ S < p := by omega
  have HLEN := Lib.hid hpos.1.1
  have HRG := Lib.hid hpos.1
  have hSI : (S : Int) ≤ 4096 := by omega
  clear hpos htn hmn hokI hnr hp hp256 hn hSe hfit
  go_enter Try.func35, Try.ntmps35
  go_wp2_with fail
  refine HT.out.mono ?_
  rintro e w' ⟨rfl, rfl⟩
  go_wp2_with fail
  refine HPW.out.mono ?_
  rintro e w' ⟨rfl, rfl⟩
  go_wp2_with fail
  refine HM.out.mono ?_
  rintro e w' ⟨rfl, rfl⟩
  clear HT HPW HM
  obtain ⟨w2, hw2⟩ : ∃ w2, w2 = w' := ⟨_, rfl⟩
  subst hw2
  go_wp2_with (at_make; refine wpList_make_ints rfl _ _ rfl 256 256 256 rfl rfl rfl rfl (by omega) (fillI (fQ c S n) 0) (fillI_zero _) ?_)
  intro w3 q3 c3
  go_wp2_with (at_make; refine wpList_make_ints rfl _ _ rfl 256 256 256 rfl rfl rfl rfl (by omega) (fillI (fR c S n) 0) (fillI_zero _) ?_)
  intro w4 q4 c4
  go_wp2_with (at_make; refine wpList_make_bools rfl _ _ rfl 256 256 256 rfl rfl rfl rfl (by omega) (fillB (fH c S n) 0) (fillB_zero _) ?_)
  intro w5 q5 c5
  obtain ⟨gq, hgq⟩ : ∃ gq, gq = w2.heap.size := ⟨_, rfl⟩
  obtain ⟨gr, hgr⟩ : ∃ gr, gr = w3.heap.size := ⟨_, rfl⟩
  obtain ⟨gh, hgh⟩ : ∃ gh, gh = w4.heap.size := ⟨_, rfl⟩
  rw [← hgq] at q3 ⊢
  rw [← hgr] at q4 ⊢
  rw [← hgh] at q5 ⊢
  have l1 : gq < gr := by rw [hgr]; exact q3.lt
  have l2 : gr < gh := by rw [hgh]; exact q4.lt
  have Q5 := Lib.hid ((q3.kept c4 (by simp)).kept c5 (by simp)); have R5 := Lib.hid (q4.kept c5 (by simp)); have T5 := Lib.hid q5
  have C5 := Lib.hid ((c3.trans c4 (fun _ _ h => h)).trans c5 (fun _ _ h => h))
  have LQ := Lib.hid (show w2.heap.size ≤ gq by omega); have L1 := Lib.hid l1; have L2 := Lib.hid l2
  clear q3 q4 q5 c3 c4 c5 l1 l2 hgq hgr hgh
  go_wp2
  go_loopw [11] (fun o11 wr => ∃ s : Nat, s ≤ 256 ∧ o11 = .int .i64 (s : Int) ∧ RowI wr gq 3 (fillI (fQ c S n) s) ∧ RowI wr gr 3 (fillI (fR c S n) s) ∧ RowT wr gh 4 (fillB (fH c S n) s) ∧ Chg (fun _ => False) w2 wr) (fun o11 _ => 256 - (intOf o11).toNat)
  case atStart => exact ⟨0, Nat.zero_le _, rfl, Q5.out, R5.out, T5.out, C5.out⟩
  case round =>
    obtain ⟨s, hs, rfl, rq, rr, rt, hc⟩ := hrel
    clear Q5 R5 T5 C5
    by_cases hlt : s < 256
    · have hsl : s < c.length := by rw [HLEN.out]; exact hlt
      obtain ⟨g0, o0, rfl, hx0⟩ := H.out.at s hsl
      have hg0 : g0 < w2.heap.size := block_lt_of_cell hx0
      have hlq := LQ.out; have hl1 := L1.out; have hl2 := L2.out
      have hxw : wr.cell? ⟨g0, o0 + s, none⟩ = some (.int .i64 (c.getD s 0)) := by rw [World.cell?_of_block (w := w2) (hc.block g0 hg0 (by simp))]; exact hx0
      have hone := HRG.out.one s hsl
      have eQ : fQ c S n s = if c.getD s 0 * (S : Int) / n = 0 then min (c.getD s 0) 1 else c.getD s 0 * (S : Int) / n := rfl
      have eR : fR c S n s = c.getD s 0 * (S : Int) % n := rfl
      have eH : fH c S n s = decide (c.getD s 0 * (S : Int) / n = 0) := rfl
      have fsQ := fillI_set (fQ c S n) s hlt
      have fsR := fillI_set (fR c S n) s hlt
      have fsH := fillB_set (fH c S n) s hlt
      have fkH := fillB_skip (fH c S n) s hlt
      obtain ⟨x, hx⟩ : ∃ x, c.getD s 0 = x := ⟨_, rfl⟩
      rw [hx] at hxw hone eQ eR eH
      obtain ⟨hx1, hx2⟩ := hone
      have hP0 : 0 ≤ x * (S : Int) := Int.mul_nonneg hx1 (by omega)
      have hP1 : x * (S : Int) ≤ 1073741824 * 4096 := Int.mul_le_mul hx2 (by omega) (by omega) (by omega)
      obtain ⟨P, hP⟩ : ∃ P, x * (S : Int) = P := ⟨_, rfl⟩
      rw [hP] at hP0 hP1 eQ eR eH
      have hP2 : P ≤ 4398046511104 := by omega
      have dQ := Int.ediv_nonneg hP0 (show 0 ≤ n by omega)
      have dQ2 := Int.ediv_le_self n hP0
      have dR := Int.emod_nonneg P (show n ≠ 0 by omega)
      have dR2 := Int.emod_lt_of_pos P hn1
      have tq : P.tdiv n = P / n := Int.tdiv_eq_ediv_of_nonneg hP0
      have tr : P.tmod n = P % n := Int.tmod_eq_emod_of_nonneg hP0
      obtain ⟨Q, hQ⟩ : ∃ Q, P / n = Q := ⟨_, rfl⟩
      obtain ⟨R, hR⟩ : ∃ R, P % n = R := ⟨_, rfl⟩
      rw [hQ] at eQ eH dQ dQ2 tq
      rw [hR] at eR dR dR2 tr
      have hwP : IntKind.i64.wrap P = P := by rw [IntKind.wrap_i64]; omega
      have hwQ : IntKind.i64.wrap Q = Q := by rw [IntKind.wrap_i64]; omega
      have hwR : IntKind.i64.wrap R = R := by rw [IntKind.wrap_i64]; omega
      have s1 := Chg.setCell wr ⟨gq, s, none⟩ (.int .i64 Q)
      have rq1 := rq.set s Q
      have rr1 := rr.kept s1 (by simp; omega)
      have rt1 := rt.kept s1 (by simp; omega)
      obtain ⟨W1, hW1⟩ : ∃ W1, wr.setCell ⟨gq, s, none⟩ (.int .i64 Q) = W1 := ⟨_, rfl⟩
      rw [hW1] at s1 rq1 rr1 rt1
      have s2 := Chg.setCell W1 ⟨gr, s, none⟩ (.int .i64 R)
      have rr2 := rr1.set s R
      have rq2 := rq1.kept s2 (by simp; omega)
      have rt2 := rt1.kept s2 (by simp; omega)
      obtain ⟨W2, hW2⟩ : ∃ W2, W1.setCell ⟨gr, s, none⟩ (.int .i64 R) = W2 := ⟨_, rfl⟩
      rw [hW2] at s2 rr2 rq2 rt2
      have c2 : Chg (fun _ => False) w2 W2 := (hc.trans s1 (S := fun _ => False) (fun q hq hh => by simp at hh; omega)).trans s2 (fun q hq hh => by simp at hh; omega)
      have a0 := rq.cell s (by rw [fillI_length]; exact hlt)
      have f0 := rq.free s
      have a1 := rr1.cell s (by rw [fillI_length]; exact hlt)
      have f1 := rr1.free s
      have kx1 : W1.cell? ⟨g0, o0 + s, none⟩ = some (.int .i64 x) := by rw [World.cell?_of_block (w := wr) (s1.block g0 (by have := hc.size; omega) (by simp; omega))]; exact hxw
      have aq2 := rq2.cell s (by rw [List.length_set, fillI_length]; exact hlt)
      rw [iset_getD _ _ _ _ (by rw [fillI_length]; exact hlt), if_pos rfl] at aq2
      have hsI : (s : Int) < 256 := by omega
      have hslI : (s : Int) < (c.length : Int) := by omega
      have d8 : decide ((s : Int) < 256) = true := by simp; omega
      generalize (fillI (fQ c S n) s).getD s 0 = ov at a0
      generalize (fillI (fR c S n) s).getD s 0 = ov2 at a1
      rw [eR] at fsR
      have FSR := Lib.hid fsR
      rw [← eR] at fsR
      by_cases hQ0 : Q = 0
      · subst hQ0
        rw [if_pos rfl] at eQ
        rw [eH, decide_eq_true rfl] at fsH
        rw [eQ] at fsQ
        have s3 := Chg.setCell W2 ⟨gh, s, none⟩ (.bool true)
        have rt3 := rt2.set s true
        have rq3 := rq2.kept s3 (by simp; omega)
        have rr3 := rr2.kept s3 (by simp; omega)
        have at2 := rt2.cell s (by rw [fillB_length]; exact hlt)
        have ft2 := rt2.free s
        obtain ⟨W3, hW3⟩ : ∃ W3, W2.setCell ⟨gh, s, none⟩ (.bool true) = W3 := ⟨_, rfl⟩
        rw [hW3] at s3 rt3 rq3 rr3
        have c3 : Chg (fun _ => False) w2 W3 := c2.trans s3 (fun q hq hh => by simp at hh; omega)
        have kx3 : W3.cell? ⟨g0, o0 + s, none⟩ = some (.int .i64 x) := by rw [World.cell?_of_block (w := w2) (c3.block g0 hg0 (by simp))]; rw [hx0, hx]
        have aq3 := rq3.cell s (by rw [List.length_set, fillI_length]; exact hlt)
        have fq3 := rq3.free s
        have rq4 : ∀ M, RowI (W3.setCell ⟨gq, s, none⟩ (.int .i64 M)) gq 3 ((fillI (fQ c S n) s).set s M) := fun M => by have := rq3.set s M; rw [setset] at this; exact this
        have s4 : ∀ M, Chg (fun k => k = gq) W3 (W3.setCell ⟨gq, s, none⟩ (.int .i64 M)) := fun M => Chg.setCell W3 ⟨gq, s, none⟩ _
        rw [fsH] at rt3
        rw [FSR.out] at rr3
        generalize (fillB (fH c S n) s).getD s false = ob at at2
        generalize ((fillI (fQ c S n) s).set s 0).getD s 0 = ov3 at aq3
        have RQ4 := Lib.hid rq4; have S4 := Lib.hid s4; have RR3 := Lib.hid rr3; have RT3 := Lib.hid rt3; have C3 := Lib.hid c3; have FSQ := Lib.hid fsQ; have TQ := Lib.hid tq; have TR := Lib.hid tr
        clear rq4 s4 rr3 rt3 c3 fsQ fsR fsH fkH rq rr rt hc rq1 rr1 rt1 rr2 rq2 rt2 rq3 s1 s2 s3 c2 eQ eR eH hx hx0 hQ hR FSR
        rcases (show x = 0 ∨ x = 1 ∨ 2 ≤ x by omega) with hx' | hx' | hx'
        · subst hx'
          go_wp2
          all_goals first
            | (exfalso; omega)
            | (go_roundw
               case rel => exact ⟨s + 1, by omega, by go_num, by rw [← FSQ.out]; exact RQ4.out 0, RR3.out.kept (S4.out 0) (by have := L1.out; omega), RT3.out.kept (S4.out 0) (by have := L1.out; have := L2.out; omega), C3.out.trans (S4.out 0) (fun q hq hh => by have := LQ.out; omega)⟩
               case measure => simp [intOf]; omega)
        · subst hx'
          go_wp2
          all_goals first
            | (exfalso; omega)
            | (go_roundw
               case rel => exact ⟨s + 1, by omega, by go_num, by rw [← FSQ.out]; exact RQ4.out 1, RR3.out.kept (S4.out 1) (by have := L1.out; omega), RT3.out.kept (S4.out 1) (by have := L1.out; have := L2.out; omega), C3.out.trans (S4.out 1) (fun q hq hh => by have := LQ.out; omega)⟩
               case measure => simp [intOf]; omega)
        · have hmin : min x 1 = 1 := by omega
          rw [hmin] at FSQ
          go_wp2
          all_goals first
            | (exfalso; omega)
            | (go_roundw
               case rel => exact ⟨s + 1, by omega, by go_num, by rw [← FSQ.out]; exact RQ4.out 1, RR3.out.kept (S4.out 1) (by have := L1.out; omega), RT3.out.kept (S4.out 1) (by have := L1.out; have := L2.out; omega), C3.out.trans (S4.out 1) (fun q hq hh => by have := LQ.out; omega)⟩
               case measure => simp [intOf]; omega)
      · rw [if_neg hQ0] at eQ
        have fkH' := fkH (by rw [eH]; exact decide_eq_false hQ0)
        rw [eQ] at fsQ
        have hQb : (Q == 0) = false := by simp [hQ0]
        rw [fsQ] at rq2
        rw [FSR.out] at rr2
        rw [fkH'] at rt2
        have RQ2 := Lib.hid rq2; have RR2 := Lib.hid rr2; have RT2 := Lib.hid rt2; have C2 := Lib.hid c2
        clear rq2 rr2 rt2 c2 fsQ fsR fsH fkH fkH' rq rr rt hc rq1 rr1 rt1 s1 s2 eQ eR eH hx hx0 hQ hR FSR
        go_wp2
        go_roundw
        case rel => exact ⟨s + 1, by omega, by go_num, RQ2.out, RR2.out, RT2.out, C2.out⟩
        case measure => simp [intOf]; omega
    · have hse : s = 256 := by omega
      have hsI : (s : Int) = 256 := by omega
      rw [hse] at rq rr rt
      rw [hsI]
      clear hse hsI hs hlt
      have hlenc := HLEN.out
      rw [fillI_all (fQ c S n) (qBase c S n) (by simp [qBase, hlenc]) (fun u hu => base_at u (by omega))] at rq
      rw [fillI_all (fR c S n) (rest0 c S n) (by simp [rest0, hlenc]) (fun u hu => rest_at u (by omega))] at rr
      rw [fillB_all (fH c S n) (had0 c S n) (by simp [had0, hlenc]) (fun u hu => had_at u (by omega))] at rt
      have hfit := HFIT.out
      have hroom := give_room (size := (S : Int)) hfit.low rfl hfit.some
      have hgave : ∀ j, j ≤ cntN (rest0 c S (tot c)) (had0 c S (tot c)) → Gave (rest0 c S (tot c)) (qBase c S (tot c)) (had0 c S (tot c)) j (giveN (rest0 c S (tot c)) j (qBase c S (tot c)) (had0 c S (tot c))) := fun j hj =>
        Go.Proofs.Ythghlfghdmifoaa.gave (by simp [rest0, hlenc]) (by simp [qBase, hlenc]) (by simp [had0, hlenc]) j hj
      have hgs := hfit.gaveSum
      have hgc : gaveC c S (tot c) = (giveN (rest0 c S (tot c)) ((S : Int) - tot (qBase c S (tot c))).toNat (qBase c S (tot c)) (had0 c S (tot c))).1 := rfl
      have hbnd : ∀ j, j ≤ cntN (rest0 c S (tot c)) (had0 c S (tot c)) → ∀ z ∈ (giveN (rest0 c S (tot c)) j (qBase c S (tot c)) (had0 c S (tot c))).1, 0 ≤ z ∧ z ≤ 4294967296 := fun j hj => give_bound hfit hSI (hgave j hj)
      rw [← HNN.out] at rq rr rt
      have hrl : (rest0 c S (tot c)).length = 256 := by simp [rest0, hlenc]
      obtain ⟨rs, hrs⟩ : ∃ rs, rest0 c S (tot c) = rs := ⟨_, rfl⟩
      obtain ⟨qb, hqb⟩ : ∃ qb, qBase c S (tot c) = qb := ⟨_, rfl⟩
      obtain ⟨hd, hhd⟩ : ∃ hd, had0 c S (tot c) = hd := ⟨_, rfl⟩
      rw [hrs] at rr hroom hgave hgc hbnd hrl
      rw [hqb] at rq hroom hgave hgc hbnd hgs
      rw [hhd] at rt hroom hgave hgc hbnd
      obtain ⟨D, hD⟩ : ∃ D, ((S : Int) - tot qb).toNat = D := ⟨_, rfl⟩
      rw [hD] at hroom hgc
      obtain ⟨tB, htB⟩ : ∃ tB, tot qb = tB := ⟨_, rfl⟩
      rw [htB] at hD hgs
      have HROOM := Lib.hid hroom; have HGAVE := Lib.hid hgave; have HGS := Lib.hid hgs; have HGC := Lib.hid hgc; have HBND := Lib.hid hbnd; have HRL := Lib.hid hrl; have HD := Lib.hid hD; have HTB := Lib.hid htB
      have RQ := Lib.hid rq; have RR := Lib.hid rr; have RT := Lib.hid rt; have CC := Lib.hid hc
      clear hroom hgave hgs hgc hbnd hrl hD htB rq rr rt hc hrs hqb hhd hlenc hfit
      go_wp2
      go_loopw [12] (fun _ wr => ∃ j : Nat, j ≤ D ∧ RowI wr gq 3 (giveN rs j qb hd).1 ∧ RowI wr gr 3 rs ∧ RowT wr gh 4 (giveN rs j qb hd).2 ∧ Chg (fun _ => False) w2 wr) (fun _ wr => ((S : Int) - sumAt wr gq).toNat)
      case atStart => exact ⟨0, Nat.zero_le _, RQ.out, RR.out, RT.out, CC.out⟩
      case round =>
        obtain ⟨j, hj, rq, rr, rt, hc⟩ := hrel
        clear RQ RR RT CC
        have g := HGAVE.out j (by have := HROOM.out; omega)
        have hsum := g.sum
        rw [HTB.out] at hsum
        have rd := rq.rd 256
        rw [g.len1] at rd
        have hs1 := rq.sumAt
        rw [hsum] at hs1
        have hDe := HD.out
        by_cases hjD : j < D
        · obtain ⟨s, hn, hs256, hps, g2⟩ := gave_step HRL.out g (by have := HROOM.out; omega)
          have hgn : giveN rs (j + 1) qb hd = ((giveN rs j qb hd).1.set s ((giveN rs j qb hd).1.getD s 0 + 1), (giveN rs j qb hd).2.set s true) := by rw [giveN_succ, giveStep_some hn]
          have hzb := HBND.out j (by have := HROOM.out; omega) _ (getD_mem (cs := (giveN rs j qb hd).1) (k := s) (by rw [g.len1]; exact hs256))
          have aq := rq.cell s (by rw [g.len1]; exact hs256)
          have fq := rq.free s
          have at1 := rt.cell s (by rw [g.len2]; exact hs256)
          have ft1 := rt.free s
          have BND := Lib.hid (HBND.out j (by have := HROOM.out; omega))
          have HNE := Lib.hid (r8neediest_any gr gh _ _ rs (giveN rs j qb hd).2 wr rr rt HRL.out g.len2)
          have l1 := g.len1
          have hl1 := L1.out; have hl2 := L2.out; have hlq := LQ.out
          obtain ⟨z, hz⟩ : ∃ z, (giveN rs j qb hd).1.getD s 0 = z := ⟨_, rfl⟩
          rw [hz] at hgn hzb aq
          have st1 := Chg.setCell wr ⟨gh, s, none⟩ (.bool true)
          have rt1 := rt.set s true
          have rq1 := rq.kept st1 (by simp; omega)
          have rr1 := rr.kept st1 (by simp; omega)
          have c1 : Chg (fun _ => False) w2 _ := hc.trans st1 (S := fun _ => False) (fun q hq hh => by simp at hh; omega)
          have st2 := Chg.setCell (wr.setCell ⟨gh, s, none⟩ (.bool true)) ⟨gq, s, none⟩ (.int .i64 (z + 1))
          have rq2 := rq1.set s (z + 1)
          have rr2 := rr1.kept st2 (by simp; omega)
          have rt2 := rt1.kept st2 (by simp; omega)
          have c2 : Chg (fun _ => False) w2 _ := c1.trans st2 (S := fun _ => False) (fun q hq hh => by simp at hh; omega)
          have aq1 := rq1.cell s (by rw [l1]; exact hs256)
          have fq1 := rq1.free s
          rw [hz] at aq1
          have eq1 : (giveN rs (j + 1) qb hd).1 = (giveN rs j qb hd).1.set s (z + 1) := by rw [hgn]
          have eq2 : (giveN rs (j + 1) qb hd).2 = (giveN rs j qb hd).2.set s true := by rw [hgn]
          rw [← eq1] at rq2
          rw [← eq2] at rt2
          have g3 := HGAVE.out (j + 1) (by have := HROOM.out; omega)
          have hsum3 := g3.sum
          rw [HTB.out] at hsum3
          have hs3 := rq2.sumAt
          rw [hsum3] at hs3
          rw [hn] at HNE
          have hlt : tB + (j : Int) < (S : Int) := by omega
          have RD := Lib.hid rd; have HS := Lib.hid hsum; have RQ2 := Lib.hid rq2; have RR2 := Lib.hid rr2; have RT2 := Lib.hid rt2; have C2 := Lib.hid c2; have HS1 := Lib.hid hs1; have HS3 := Lib.hid hs3
          have hsI : (s : Int) < 256 := by omega
          obtain ⟨hz0, hz1⟩ := hzb
          generalize (giveN rs j qb hd).2.getD s false = ob at at1
          have L1000 := Lib.hid (show (giveN rs j qb hd).1.length ≤ 1000 by rw [l1]; omega)
          clear rd hsum rq2 rr2 rt2 c2 hs1 hs3 rq rr rt hc g g2 g3 hgn eq1 eq2 rq1 rr1 rt1 st1 st2 c1 hsum3 hn hz l1 hps
          go_wp2_with fail
          refine (r8sum_any _ _ wr RD.out BND.out L1000.out).mono ?_
          rintro e w6 ⟨rfl, rfl⟩
          rw [HS.out]
          go_wp2_with fail
          refine HNE.out.mono ?_
          rintro e w7 ⟨rfl, m, rfl⟩
          simp only [idx]
          clear HNE
          go_wp2
          go_roundw
          case rel => exact ⟨j + 1, by omega, RowI.kept (w := (w6.setCell ⟨gh, s, none⟩ (.bool true)).setCell ⟨gq, s, none⟩ (.int .i64 (z + 1))) RQ2.out ((Chg.refl (fun _ => False) _).drewN m) (by simp), RowI.kept (w := (w6.setCell ⟨gh, s, none⟩ (.bool true)).setCell ⟨gq, s, none⟩ (.int .i64 (z + 1))) RR2.out ((Chg.refl (fun _ => False) _).drewN m) (by simp), RowT.kept (w := (w6.setCell ⟨gh, s, none⟩ (.bool true)).setCell ⟨gq, s, none⟩ (.int .i64 (z + 1))) RT2.out ((Chg.refl (fun _ => False) _).drewN m) (by simp), C2.out.drewN m⟩
          case measure =>
            show ((S : Int) - sumAt ((w6.setCell ⟨gh, s, none⟩ (.bool true)).setCell ⟨gq, s, none⟩ (.int .i64 (z + 1))) gq).toNat < ((S : Int) - sumAt w6 gq).toNat
            rw [HS1.out, HS3.out]; omega
        · obtain rfl : j = D := by omega
          have hge : ¬ tB + (j : Int) < (S : Int) := by omega
          have BND := Lib.hid (HBND.out j (by have := HROOM.out; omega))
          have L1000 := Lib.hid (show (giveN rs j qb hd).1.length ≤ 1000 by rw [g.len1]; omega)
          have RD := Lib.hid rd; have HS := Lib.hid hsum
          have eg : (giveN rs j qb hd).1 = gaveC c S (tot c) := HGC.out.symm
          have RQ := Lib.hid rq; have CC := Lib.hid hc; have HGE := Lib.hid hge; have EG := Lib.hid eg
          clear rd hsum rq rr rt hc g hs1 eg
          go_wp2_with fail
          refine (r8sum_any _ _ wr RD.out BND.out L1000.out).mono ?_
          rintro e w6 ⟨rfl, rfl⟩
          rw [HS.out]
          have hfit := HFIT.out
          have hgs := HGS.out
          have hmn := hfit.many
          obtain ⟨G, hG⟩ : ∃ G, gaveC c S (tot c) = G := ⟨_, rfl⟩
          have htook : ∀ i : Nat, (i : Int) ≤ tot G - (S : Int) → Took c G i (takeN c i G) := fun i hi => by
            have t0 := hfit.took0
            rw [hG] at t0
            exact Go.Proofs.Ythghlfghdmifoaa.took hfit.len t0 i (by omega)
          have hnc : normC c (S : Int) = takeN c (tot G - (S : Int)).toNat G := by unfold normC; rw [hG]
          have hGb : ∀ s, s < 256 → G.getD s 0 ≤ 4294967296 := fun s hs => by
            have h1 := EG.out
            rw [hG] at h1
            have h2 := BND.out _ (getD_mem (cs := (giveN rs j qb hd).1) (k := s) (by have := (HGAVE.out j HROOM.out).len1; omega))
            rw [h1] at h2
            exact h2.2
          have rq := RQ.out
          rw [EG.out, hG] at rq
          rw [hG] at hgs
          obtain ⟨tG, htG⟩ : ∃ tG, tot G = tG := ⟨_, rfl⟩
          rw [htG] at hgs htook hnc
          obtain ⟨T, hT⟩ : ∃ T, (tG - (S : Int)).toNat = T := ⟨_, rfl⟩
          rw [hT] at hnc
          have HTOOK := Lib.hid htook; have HNC := Lib.hid hnc; have HGB := Lib.hid hGb; have HTG := Lib.hid htG; have HTT := Lib.hid (show (T : Int) = tG - (S : Int) by omega); have RQ2 := Lib.hid rq
          clear htook hnc hGb rq hG htG hT hgs hmn hfit HGC RQ RD BND L1000 HS HGAVE HBND HGS EG HROOM HD hDe hjD hj
          obtain ⟨g0, o0, rfl, hx0⟩ := H.out.at 0 (by rw [HLEN.out]; omega)
          clear hx0
          go_wp2
          go_loopw [92] (fun _ wr => ∃ i : Nat, i ≤ T ∧ RowI wr gq 3 (takeN c i G) ∧ Chg (fun _ => False) w2 wr) (fun _ wr => (sumAt wr gq - (S : Int)).toNat)
          case atStart => exact ⟨0, Nat.zero_le _, RQ2.out, CC.out⟩
          case round =>
            obtain ⟨i, hi, rq, hc⟩ := hrel
            clear RQ2 CC
            have htt := HTT.out
            have t := HTOOK.out i (by omega)
            have hsum := t.sum
            rw [HTG.out] at hsum
            have rd := rq.rd 256
            rw [t.len] at rd
            have hs1 := rq.sumAt
            rw [hsum] at hs1
            have BND := Lib.hid (mem_bound (lo := 0) (hi := 4294967296) t.len (fun s hs => ⟨(t.low s hs).1, Int.le_trans (t.top s hs) (HGB.out s hs)⟩))
            have L1000 := Lib.hid (show (takeN c i G).length ≤ 1000 by rw [t.len]; omega)
            have RD := Lib.hid rd; have HS := Lib.hid hsum
            by_cases hiT : i < T
            · have hmany2 := HFIT.out.many
              obtain ⟨hb256, hz1, t2⟩ := took_step HLEN.out t (by rw [hsum]; omega)
              have HRI := Lib.hid (r8richest_l gq g0 o0 cap 3 (takeN c i G) c wr rq (H.out.kept hc (by simp)) t.len HLEN.out)
              have hst : takeN c (i + 1) G = (takeN c i G).set (richTo (takeN c i G) c 255) ((takeN c i G).getD (richTo (takeN c i G) c 255) 0 - 1) := by rw [takeN_succ]; rfl
              have hzt := t.top (richTo (takeN c i G) c 255) hb256
              have hzg := HGB.out (richTo (takeN c i G) c 255) hb256
              obtain ⟨b, hb⟩ : ∃ b, richTo (takeN c i G) c 255 = b := ⟨_, rfl⟩
              rw [hb] at hb256 hz1 hst HRI hzt hzg
              have aq := rq.cell b (by rw [t.len]; exact hb256)
              have fq := rq.free b
              obtain ⟨z, hz⟩ : ∃ z, (takeN c i G).getD b 0 = z := ⟨_, rfl⟩
              rw [hz] at hz1 hst aq hzt
              have rq1 := rq.set b (z - 1)
              rw [← hst] at rq1
              have c1 : Chg (fun _ => False) w2 (wr.setCell ⟨gq, b, none⟩ (.int .i64 (z - 1))) := hc.trans (Chg.setCell wr ⟨gq, b, none⟩ _) (fun q hq hh => by have := LQ.out; simp at hh; omega)
              have t3 := HTOOK.out (i + 1) (by omega)
              have hsum3 := t3.sum
              rw [HTG.out] at hsum3
              have hs3 := rq1.sumAt
              rw [hsum3] at hs3
              have hgt : (S : Int) < tG - (i : Int) := by omega
              have hbI : (b : Int) < 256 := by omega
              have hz2 : z ≤ 4294967296 := by omega
              have RQ1 := Lib.hid rq1; have C1 := Lib.hid c1; have HS1 := Lib.hid hs1; have HS3 := Lib.hid hs3; have HTT2 := Lib.hid htt
              clear rq1 c1 hs1 hs3 t3 hsum3 t t2 hst hz hb rq hc rd hsum hzt hzg hmany2
              go_wp2_with fail
              refine (r8sum_any _ _ wr RD.out BND.out L1000.out).mono ?_
              rintro e w7 ⟨rfl, rfl⟩
              rw [HS.out]
              clear htt
              go_wp2_with fail
              refine HRI.out.mono ?_
              rintro e w8 ⟨rfl, m, rfl⟩
              clear HRI
              go_wp2
              go_roundw
              case rel => exact ⟨i + 1, by omega, RowI.kept (w := w7.setCell ⟨gq, b, none⟩ (.int .i64 (z - 1))) RQ1.out ((Chg.refl (fun _ => False) _).drewN m) (by simp), C1.out.drewN m⟩
              case measure =>
                show (sumAt (w7.setCell ⟨gq, b, none⟩ (.int .i64 (z - 1))) gq - (S : Int)).toNat < (sumAt w7 gq - (S : Int)).toNat
                have := HTT2.out
                rw [HS1.out, HS3.out]; omega
            · obtain rfl : i = T := by omega
              have hle : ¬ (S : Int) < tG - (i : Int) := by omega
              rw [← HNC.out] at rq
              have hnl := norm_len HFIT.out
              have own := rq.own 256 w2.heap.size LQ.out
              rw [hnl, ← HNR.out] at own
              have OWN := Lib.hid own; have CC := Lib.hid hc
              clear rq own hnl hc t hs1 htt rd hsum
              go_wp2_with fail
              refine (r8sum_any _ _ wr RD.out BND.out L1000.out).mono ?_
              rintro e w7 ⟨rfl, rfl⟩
              rw [HS.out]
              go_wp2
              go_ret2
              exact ⟨⟨_, by rw [if_pos HOK.out]; rfl, fun _ => OWN.out, fun hk => absurd HOK.out hk, CC.out⟩, .of (Nat.le_refl _)⟩

theorem r8counts_any (v : Value) (c : List Int) (r : Int) (w : World) (h : RdI w v c) (hb : ∀ z ∈ c, -9223372036854775808 ≤ z ∧ z ≤ 9223372036854775807) (hl : c.length < 100000000000) (hr : -9223372036854775808 ≤ r ∧ r ≤ 9223372036854775807) :
    Calls Try.prog 35 #[v, .int .i64 r] w fun e w' => NormSays w c r e w' := (r8counts_room v c r w h hb hl hr).mono fun _ _ h => h.1

end Go.Proofs.Ythghlfghdmifoaa

/- What the document's own logs (puncheonref07) tell. -/
namespace Go.Proofs.Ythghlfghdmifoaa
open Go.RowKit

set_option maxHeartbeats 1000000 in
theorem r7floor_any (n : Int) (w : World) (hn : n ≤ 1099511627776) (_hlo : -9223372036854775808 ≤ n) :
    Calls Try.prog 54 #[.int .i64 n] w fun e w' => e = .returned (.int .i64 ((floorI n : Nat) : Int)) ∧ w' = w := by
  have HN := Lib.hid (show n ≤ 1099511627776 from hn)
  clear hn
  go_enter Try.func54, Try.ntmps54
  go_wp2
  go_loopw [3, 4] (fun o3 o4 wr => ∃ k P : Nat, o3 = .int .i64 (k : Int) ∧ o4 = .int .i64 (P : Int) ∧ P = 2 ^ (k + 1) ∧ (k = 0 ∨ ((2 ^ k : Nat) : Int) ≤ n) ∧ wr = w) (fun o3 _ _ => 41 - (intOf o3).toNat)
  case atStart => exact ⟨0, 2, rfl, rfl, rfl, .inl rfl, rfl⟩
  case round =>
    obtain ⟨k, P, rfl, rfl, hP, hk, rfl⟩ := hrel
    have hn := HN.out
    have hk40 : k ≤ 40 := by
      rcases hk with hk | hk
      · omega
      · have := floor_mono hk
        rw [floor_at] at this
        have := floor_le40 hn
        omega
    have hP2 : P ≤ 2 ^ 41 := by rw [hP]; exact pow_le (by omega)
    have hP3 : (P : Int) ≤ 2199023255552 := by
      have : (2 : Nat) ^ 41 = 2199023255552 := by decide
      omega
    have hsu : 2 * P = 2 ^ (k + 1 + 1) := by rw [hP, two_pow_succ (k + 1)]
    by_cases hlt : (P : Int) ≤ n
    · have hk' : ((2 ^ (k + 1) : Nat) : Int) ≤ n := by rw [← hP]; exact hlt
      have hk2 : k + 1 ≤ 40 := by
        have := floor_mono hk'
        rw [floor_at] at this
        have := floor_le40 hn
        omega
      have d1 : decide ((k : Int) < 60) = true := by simp; omega
      have hkI : (k : Int) ≤ 40 := by omega
      have HS := Lib.hid hsu; have HK := Lib.hid hk'; have HK2 := Lib.hid hk2
      clear hsu hk' hP hP2 hk hk40 hk2 hn
      go_wp2
      go_roundw
      case rel => exact ⟨k + 1, 2 * P, by go_num, by go_num, HS.out, .inr HK.out, trivial⟩
      case measure => simp [intOf]; have := HK2.out; omega
    · have hfl : floorI n = k := by
        rcases hk with hk | hk
        · subst hk
          exact floor_small (by rw [hP] at hlt; simp at hlt; omega)
        · exact floor_unique hk (by rw [← hP]; omega)
      have HF := Lib.hid hfl
      have hlt' : ¬ (P : Int) ≤ n := hlt
      clear hsu hP hP2 hk hk40 hn hfl
      go_wp2
      go_ret
      rw [HF.out]
      exact ⟨rfl, rfl⟩

set_option maxHeartbeats 1000000 in
theorem r7ceil_any (n : Int) (w : World) (hn : n ≤ 1099511627776) (hlo : -9223372036854775808 ≤ n) :
    Calls Try.prog 55 #[.int .i64 n] w fun e w' => e = .returned (.int .i64 ((ceilI n : Nat) : Int)) ∧ w' = w := by
  have HN := Lib.hid (show n ≤ 1099511627776 from hn)
  clear hn
  go_enter Try.func55, Try.ntmps55
  go_wp2
  go_loopw [3, 4] (fun o3 o4 wr => ∃ k P : Nat, o3 = .int .i64 (k : Int) ∧ o4 = .int .i64 (P : Int) ∧ P = 2 ^ k ∧ (k = 0 ∨ ((2 ^ (k - 1) : Nat) : Int) < n) ∧ wr = w) (fun o3 _ _ => 41 - (intOf o3).toNat)
  case atStart => exact ⟨0, 1, rfl, rfl, rfl, .inl rfl, rfl⟩
  case round =>
    obtain ⟨k, P, rfl, rfl, hP, hk, rfl⟩ := hrel
    have hn := HN.out
    have hk41 : k ≤ 40 := by
      rcases hk with hk | hk
      · omega
      · have h40 : (1099511627776 : Int) = ((2 ^ 40 : Nat) : Int) := by decide
        rw [h40] at hn
        have := lt_of_pow (a := k - 1) (b := 40) (by omega)
        omega
    have hP2 : P ≤ 2 ^ 40 := by rw [hP]; exact pow_le hk41
    have hP3 : (P : Int) ≤ 1099511627776 := by
      have : (2 : Nat) ^ 40 = 1099511627776 := by decide
      omega
    have hsu : 2 * P = 2 ^ (k + 1) := by rw [hP, two_pow_succ k]
    by_cases hlt : (P : Int) < n
    · have hk' : ((2 ^ (k + 1 - 1) : Nat) : Int) < n := by rw [Nat.add_sub_cancel, ← hP]; exact hlt
      have d1 : decide ((k : Int) < 60) = true := by simp; omega
      have hkI : (k : Int) ≤ 40 := by omega
      have HS := Lib.hid hsu; have HK := Lib.hid hk'; have HK2 := Lib.hid hk41
      clear hsu hk' hP hP2 hk hk41 hn
      go_wp2
      go_roundw
      case rel => exact ⟨k + 1, 2 * P, by go_num, by go_num, HS.out, .inr HK.out, trivial⟩
      case measure => simp [intOf]; have := HK2.out; omega
    · have hfl : ceilI n = k := by
        by_cases h1 : 1 ≤ n
        · exact ceil_unique h1 (by rw [← hP]; omega) hk
        · rw [ceil_small (by omega)]
          rcases hk with hk | hk
          · exact hk.symm
          · have := Nat.two_pow_pos (k - 1); omega
      have HF := Lib.hid hfl
      clear hsu hP hP2 hk hk41 hn hfl
      go_wp2
      go_ret
      rw [HF.out]
      exact ⟨rfl, rfl⟩

set_option maxHeartbeats 1000000 in
theorem r7pick_any (n m t : Int) (w : World) (hn : n ≤ 1099511627776) (hlo : -9223372036854775808 ≤ n) (hm : m ≤ 1099511627776) (hmo : -9223372036854775808 ≤ m) (ht : t ≤ 1099511627776) (hto : -9223372036854775808 ≤ t) :
    Calls Try.prog 33 #[.int .i64 n, .int .i64 m, .int .i64 t] w fun e w' => e = .returned (.int .i64 (pickI n m t)) ∧ w' = w := by
  have HF := Lib.hid (r7floor_any n w hn hlo); have HC := Lib.hid (r7ceil_any m w hm hmo)
  have h1 := floor_le40 hn
  have h2 := ceil_le40 hm
  have hpk : pickI n m t = max (max (min ((floorI n : Int) - 2) t) 5) ((ceilI m : Nat) : Int) := rfl
  obtain ⟨f, hf⟩ : ∃ f, floorI n = f := ⟨_, rfl⟩
  obtain ⟨c, hc⟩ : ∃ c, ceilI m = c := ⟨_, rfl⟩
  rw [hf] at h1 hpk HF
  rw [hc] at h2 hpk HC
  have HP := Lib.hid hpk
  have f1 : (f : Int) ≤ 40 := by omega
  have c1 : (c : Int) ≤ 40 := by omega
  clear hf hc hpk h1 h2 hn hlo hm hmo
  go_enter Try.func33, Try.ntmps33
  go_wp2_with fail
  refine HF.out.mono ?_
  rintro e w' ⟨rfl, rfl⟩
  clear HF
  by_cases k1 : (f : Int) - 2 ≤ t
  · by_cases k2 : (f : Int) - 2 ≤ 5
    · by_cases k3 : (c : Int) ≤ 5
      · go_wp2_with fail
        all_goals first
          | (exfalso; omega)
          | (refine HC.out.mono ?_
             rintro e w' ⟨rfl, rfl⟩
             go_wp2
             all_goals first
               | (exfalso; omega)
               | (go_ret; rw [HP.out]; exact ⟨congrArg (fun z => Ending.returned (Value.int .i64 z)) (by omega), rfl⟩))
      · go_wp2_with fail
        all_goals first
          | (exfalso; omega)
          | (refine HC.out.mono ?_
             rintro e w' ⟨rfl, rfl⟩
             go_wp2
             all_goals first
               | (exfalso; omega)
               | (go_ret; rw [HP.out]; exact ⟨congrArg (fun z => Ending.returned (Value.int .i64 z)) (by omega), rfl⟩))
    · go_wp2_with fail
      all_goals first
        | (exfalso; omega)
        | (refine HC.out.mono ?_
           rintro e w' ⟨rfl, rfl⟩
           go_wp2
           all_goals first
             | (exfalso; omega)
             | (go_ret; rw [HP.out]; exact ⟨congrArg (fun z => Ending.returned (Value.int .i64 z)) (by omega), rfl⟩))
  · go_wp2_with fail
    all_goals first
      | (exfalso; omega)
      | (refine HC.out.mono ?_
         rintro e w' ⟨rfl, rfl⟩
         go_wp2
         all_goals first
           | (exfalso; omega)
           | (go_ret; rw [HP.out]; exact ⟨congrArg (fun z => Ending.returned (Value.int .i64 z)) (by omega), rfl⟩))

end Go.Proofs.Ythghlfghdmifoaa

/- What the document's own Widest (puncheonref06) tells. -/
namespace Go.Proofs.Ythghlfghdmifoaa
open Go.RowKit

set_option maxHeartbeats 1000000 in
set_option maxRecDepth 100000 in
theorem r6widest_any (v : Value) (xs : List Nat) (w : World) (h : RdB w v xs) (hx : ∀ x ∈ xs, x < 256) (hl : xs.length < 10000000000) :
    Calls Try.prog 36 #[v] w fun e w' => e = .returned (.int .i64 ((widest xs : Nat) : Int)) ∧ Chg (fun _ => False) w w' := by
  obtain ⟨ao, cap, rfl⟩ := h.form
  have H := Lib.hid h; have HX := Lib.hid hx
  clear h hx
  obtain ⟨W, hW⟩ : ∃ W, widest xs = W := ⟨_, rfl⟩
  rw [hW]
  have HW := Lib.hid hW
  clear hW
  go_enter Try.func36, Try.ntmps36
  go_wp2
  go_loopw [3, 4] (fun o3 o4 wr => ∃ c : Nat, c ≤ 256 ∧ o4 = .int .i64 (c : Int) ∧ o3 = .int .i64 ((wid xs c : Nat) : Int) ∧ Chg (fun _ => False) w wr) (fun _ o4 _ => 256 - (intOf o4).toNat)
  case atStart => exact ⟨0, Nat.zero_le _, rfl, rfl, Chg.refl _ _⟩
  case round =>
    obtain ⟨c, hcc, rfl, rfl, hc⟩ := hrel
    by_cases hlt : c < 256
    · have hwd : wid xs (c + 1) = max (wid xs c) (manyI (cnt (sel xs (c : Int)))) := rfl
      have hml := manyI_le (cnt (sel xs (c : Int)))
      have hwl := wid_le xs c
      obtain ⟨m, hm⟩ : ∃ m, manyI (cnt (sel xs (c : Int))) = m := ⟨_, rfl⟩
      obtain ⟨q, hq⟩ : ∃ q, wid xs c = q := ⟨_, rfl⟩
      rw [hm] at hwd hml
      rw [hq] at hwd hwl ⊢
      have HWD := Lib.hid hwd; have HM := Lib.hid hm
      have HML := Lib.hid hml; have HWL := Lib.hid hwl; have HC := Lib.hid hc
      clear hwd hm hq hml hwl hc
      have d8 : decide ((c : Int) < 256) = true := by simp; omega
      go_wp2_with fail
      refine (r6for_any _ xs (c : Int) wr (H.out.kept HC.out (by simp)) HX.out hl).mono ?_
      rintro e w2 ⟨v2, rfl, ho2, hc2⟩
      have hc2' := HC.out.trans hc2 (fun _ _ h => h)
      clear HC hc2
      go_wp2_with fail
      refine (r5many_any _ _ w2 ho2.rd (fun z hz => ?_) (by rw [cnt_length]; omega)).mono ?_
      · obtain ⟨i, hi, rfl⟩ := List.mem_iff_getElem.1 hz
        rw [cnt_length] at hi
        have h1 := cnt_getD (sel xs (c : Int)) i hi
        rw [List.getD_eq_getElem?_getD, List.getElem?_eq_getElem (by rw [cnt_length]; exact hi)] at h1
        simp only [Option.getD_some] at h1
        have h2 := List.count_le_length (l := sel xs (c : Int)) (a := i)
        have h3 := sel_len xs (c : Int)
        rw [h1]; omega
      rintro e w3 ⟨rfl, rfl⟩
      rw [HM.out]
      clear ho2 HM
      have hml := HML.out; have hwl := HWL.out
      have hmx : max (q : Int) (m : Int) = ((max q m : Nat) : Int) := by omega
      by_cases hqm : q ≤ m
      · have d1 : max q m = m := by omega
        rw [d1] at HWD
        clear d1 hmx
        go_wp2
        all_goals first
          | (go_roundw
             case rel => exact ⟨c + 1, by omega, by go_num, by rw [HWD.out]; go_num, hc2'⟩
             case measure => simp [intOf]; omega)
          | (exfalso; omega)
      · have d1 : max q m = q := by omega
        rw [d1] at HWD
        clear d1 hmx
        go_wp2
        all_goals first
          | (go_roundw
             case rel => exact ⟨c + 1, by omega, by go_num, by rw [HWD.out]; go_num, hc2'⟩
             case measure => simp [intOf]; omega)
          | (exfalso; omega)
    · obtain rfl : c = 256 := by omega
      rw [show wid xs 256 = W from HW.out]
      go_wp2
      go_ret
      exact ⟨rfl, hc⟩

end Go.Proofs.Ythghlfghdmifoaa

/- What the document's own model (puncheonref16) tells: Zero. -/
namespace Go.Proofs.Ythghlfghdmifoaa
open Go.RowKit

/-- a model is laid into a block -/
def W3 (w : World) (g : Nat) (log : Int) (one : Bool) (cv : Value) : World := ((w.setCell ⟨g, 0, none⟩ (.int .i64 log)).setCell ⟨g, 1, none⟩ (.bool one)).setCell ⟨g, 2, none⟩ cv
theorem W3_chg (w : World) (g : Nat) (log : Int) (one : Bool) (cv : Value) : Chg (fun q => q = g) w (W3 w g log one cv) :=
  ((Chg.setCell w ⟨g, 0, none⟩ _).trans (Chg.setCell _ ⟨g, 1, none⟩ _) fun _ _ h => h).trans (Chg.setCell _ ⟨g, 2, none⟩ _) fun _ _ h => h
theorem W3_cells {w : World} {g : Nat} {log0 : Int} {one0 : Bool} {cv0 : Value} (h : Mb w g log0 one0 cv0) (log : Int) (one : Bool) (cv : Value) :
    (w.setCell ⟨g, 0, none⟩ (.int .i64 log)).cell? ⟨g, 0, none⟩ = some (.int .i64 log) ∧ ((w.setCell ⟨g, 0, none⟩ (.int .i64 log)).setCell ⟨g, 1, none⟩ (.bool one)).cell? ⟨g, 1, none⟩ = some (.bool one) ∧ (W3 w g log one cv).cell? ⟨g, 2, none⟩ = some cv ∧ Mb (W3 w g log one cv) g log one cv := by
  have h1 := heap_setCell_same w g 0 _ _ (.int .i64 log) h
  have h2 := heap_setCell_same _ g 1 _ _ (.bool one) h1
  have h3 := heap_setCell_same _ g 2 _ _ cv h2
  exact ⟨by rw [cell_of_row _ _ 0 _ _ _ h1]; rfl, by rw [cell_of_row _ _ 1 _ _ _ h2]; rfl, by unfold W3; rw [cell_of_row _ _ 2 _ _ _ h3]; rfl, h3⟩
theorem zeroModel (W : World) : (zeroValue 26).run Try.prog W = .ok (.agg #[.int .i64 0, .bool false, .slice none 0 0]) W := by kernel_rfl

theorem mem_le_total (l : List Int) (h : isRight l) : ∀ z ∈ l, z ≤ 1073741824 := by
  intro z hz
  obtain ⟨i, hi, rfl⟩ := List.mem_iff_getElem.1 hz
  have := (h.one i hi).2
  rwa [List.getD_eq_getElem?_getD, List.getElem?_eq_getElem hi] at this

set_option maxHeartbeats 2000000 in
theorem r16zero_any (v : Value) (xs : List Nat) (w : World) (h : RdB w v xs) (hx : ∀ x ∈ xs, x < 256) (hl : xs.length ≤ 1000000) (h0 : 0 < xs.length) :
    Calls Try.prog 12 #[v] w fun e w' => ∃ u, e = .returned u ∧ RdM w' u (zeroM xs) ∧ Chg (fun _ => False) w w' := by
  obtain ⟨ao, cap, rfl⟩ := h.form
  have hca := Chg.alloc (fun _ => False) w (.cells #[.int .i64 0, .bool false, .slice none 0 0] 26)
  have hnew : Mb _ _ 0 false (.slice none 0 0) := heap_alloc_new w (.cells #[.int .i64 0, .bool false, .slice none 0 0] 26)
  have hrd := h.kept hca (by simp)
  have hof := r5of_any _ xs _ hrd hx (by omega)
  have hz := zeroModel
  obtain ⟨hok, hz1, hz2⟩ := zero_ok xs hx (by omega) h0
  obtain ⟨n, hn⟩ : ∃ n, xs.length = n := ⟨_, rfl⟩
  have hzl : zeroLog xs = pickI (n : Int) ((manyI (cnt xs) : Nat) : Int) 11 := by rw [← hn]; rfl
  have hml := manyI_le (cnt xs)
  have hcr := cnt_right xs hx (by omega)
  rw [hn] at hof hl ⊢
  have HOF := Lib.hid hof; have HCA := Lib.hid hca; have HNEW := Lib.hid hnew; have HOK := Lib.hid hok; have HZL := Lib.hid hzl; have HCR := Lib.hid hcr
  obtain ⟨M, hM⟩ : ∃ M, manyI (cnt xs) = M := ⟨_, rfl⟩
  rw [hM] at HZL hml
  have HM := Lib.hid hM
  obtain ⟨R, hR⟩ : ∃ R, zeroLog xs = R := ⟨_, rfl⟩
  rw [hR] at HZL HOK hz1 hz2
  have HR := Lib.hid hR
  have hnI : (n : Int) ≤ 1000000 := by omega
  have hMI : (M : Int) ≤ 256 := by omega
  clear h hca hnew hrd hof hok hzl hcr hM hR hn hx hl h0 hml
  go_enter Try.func12, Try.ntmps12
  go_wp2_with fail
  refine HOF.out.mono ?_
  rintro e w2 ⟨c, rfl, hc2, hg2⟩
  have hmb2 := HNEW.out.kept hg2 (by simp)
  have hw2 := HCA.out.trans hg2 fun _ _ h => h
  have hbn : ∀ z ∈ cnt xs, -9223372036854775808 ≤ z ∧ z ≤ 9223372036854775807 := fun z hz => by
    have h1 := cnt_nonneg xs z hz
    have h2 := mem_le_total (cnt xs) HCR.out z hz
    omega
  have hmn := r5many_any c (cnt xs) w2 hc2.rd hbn (by rw [cnt_length]; omega)
  rw [HM.out] at hmn
  have hpk := r7pick_any (n : Int) (M : Int) 11 w2 (by omega) (by omega) (by omega) (by omega) (by omega) (by omega)
  rw [← HZL.out] at hpk
  have hct := r8counts_room c (cnt xs) R w2 hc2.rd hbn (by rw [cnt_length]; omega) (by omega)
  have HMN := Lib.hid hmn; have HPK := Lib.hid hpk; have HCT := Lib.hid hct; have HMB2 := Lib.hid hmb2; have HW2 := Lib.hid hw2
  obtain ⟨ac, lc, hcf⟩ : ∃ ac lc, c = .slice ac 256 lc := by obtain ⟨g, off, cc, he, _⟩ := hc2; exact ⟨_, _, by rw [he, cnt_length]⟩
  subst hcf
  clear hbn hmn hpk hct hmb2 hw2 hc2 hg2 HOF HCA HNEW
  go_wp2_with fail
  refine HMN.out.mono ?_
  rintro e w3 ⟨rfl, rfl⟩
  go_wp2_with fail
  refine HPK.out.mono ?_
  rintro e w4 ⟨rfl, rfl⟩
  go_wp2_with fail
  refine HCT.out.mono ?_
  rintro e w5 ⟨⟨q, rfl, hq5, -, hc5⟩, hrm⟩
  have hrm := hrm _ _ rfl
  rw [if_pos HOK.out]
  have hq5 := hq5 HOK.out
  have hmb5 := HMB2.out.kept hc5 (by simp)
  have hw5 := HW2.out.trans hc5 fun _ _ h => h
  obtain ⟨aq, lq, hqf⟩ : ∃ aq lq, q = .slice aq 256 lq := by obtain ⟨g, off, cc, he, _⟩ := hq5; exact ⟨_, _, by rw [he, (normR_right HOK.out).1.1]⟩
  subst hqf
  have hca6 := Chg.alloc (fun _ => False) w5 (.cells #[.slice aq 256 lq] 35)
  have hnew6 := heap_alloc_new w5 (.cells #[.slice aq 256 lq] 35)
  obtain ⟨W6, hW6⟩ : ∃ W6, w5.alloc (.cells #[.slice aq 256 lq] 35) = W6 := ⟨_, rfl⟩
  rw [hW6] at hca6 hnew6
  have hmb6 := hmb5.kept hca6 (by simp)
  obtain ⟨y0, y1, y2, hmb7⟩ := W3_cells hmb6 R true (.slice (some ⟨w5.heap.size, 0, none⟩) 1 1)
  have hc7 := W3_chg W6 w.heap.size R true (.slice (some ⟨w5.heap.size, 0, none⟩) 1 1)
  have hlt5 : w.heap.size < w5.heap.size := hmb5.lt
  have hrow7 : (W3 W6 w.heap.size R true (.slice (some ⟨w5.heap.size, 0, none⟩) 1 1)).heap[w5.heap.size]? = _ := (hc7.block w5.heap.size (lt_of_block hnew6) (by omega)).trans hnew6
  have hq7 : RdI (W3 W6 w.heap.size R true (.slice (some ⟨w5.heap.size, 0, none⟩) 1 1)) (.slice aq 256 lq) (normR (cnt xs) R) := ((hq5.rd.kept hca6 (by simp)).kept hc7 (fun k hk he => by
    obtain ⟨g, off, cc, he2, hg, _⟩ := hq5
    rw [he2] at hk
    simp only [Value.ownBlock, Option.some.injEq] at hk
    have := HMB2.out.lt
    omega))
  have hrd7 : RdM (W3 W6 w.heap.size R true (.slice (some ⟨w5.heap.size, 0, none⟩) 1 1)) (.agg #[.int .i64 R, .bool true, .slice (some ⟨w5.heap.size, 0, none⟩) 1 1]) (zeroM xs) := by
    refine ⟨.slice (some ⟨w5.heap.size, 0, none⟩) 1 1, ?_, .inr ⟨w5.heap.size, 0, 1, rfl, fun j hj => ?_⟩⟩
    · show _ = Value.agg #[.int .i64 (zeroLog xs), .bool true, _]
      rw [HR.out]
    · have hj0 : j = 0 := by have : (zeroM xs).cs.length = 1 := rfl; omega
      subst hj0
      refine ⟨.slice aq 256 lq, by rw [cell_of_row _ _ _ _ _ _ hrow7]; rfl, ?_⟩
      show RdIr _ _ ([normR (cnt xs) (zeroLog xs)].getD 0 [])
      rw [HR.out, List.getD_cons_zero]
      exact ⟨hq7, hrm⟩
  have hc8 : Chg (fun _ => False) w (W3 W6 w.heap.size R true (.slice (some ⟨w5.heap.size, 0, none⟩) 1 1)) := (hw5.trans hca6 fun _ _ h => h).trans hc7 fun k hk he => by omega
  obtain ⟨z0, z1, z2⟩ := hmb6.cells
  have f0 := frozen_of_row W6 w.heap.size 0 _ _ hmb6
  have f1 := frozen_of_row W6 w.heap.size 1 _ _ hmb6
  have f2 := frozen_of_row W6 w.heap.size 2 _ _ hmb6
  have HRD7 := Lib.hid hrd7; have HC8 := Lib.hid hc8
  unfold W3 at y2 HRD7 HC8
  clear hrm hq5 hmb5 hw5 hca6 hnew6 hmb6 hmb7 hc7 hlt5 hrow7 hq7 hrd7 hc8 hc5 HMN HPK HCT HMB2 HW2 HOK HCR HM
  go_wp2
  refine bodyPost_ret (v := .agg #[.int .i64 R, .bool true, .slice (some ⟨w5.heap.size, 0, none⟩) 1 1]) (by simp [results, Try.results12, go_sem, y0, y1, y2]; try rfl) rfl ?_
  exact ⟨_, rfl, HRD7.out, HC8.out⟩

end Go.Proofs.Ythghlfghdmifoaa
