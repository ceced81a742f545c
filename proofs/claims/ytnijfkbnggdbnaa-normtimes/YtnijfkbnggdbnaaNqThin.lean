/- What norm's thin does. THIS SPEAKS OF THE PROGRAM'S OWN TEXT. -/
import Derived.Test.YtnijfkbnggdbnaaNqFill
namespace Go.Proofs.Ytnijfkbnggdbnaa
open Go.RowKit

theorem all_gives (c : List Int) (size n : Int) (hl : c.length = 256) (h0 : ∀ x ∈ c, 0 ≤ x) : Gives c size n (qBase c size n) (shTo c size n 256) := by
  refine ⟨shTo_nodup c size n 256, fun y => ?_⟩
  rw [mem_shTo]
  constructor
  · rintro ⟨i, h1, h2, h3⟩; exact ⟨i, h1, h2, by rw [gives_base hl h0 i h1 h2]; exact h3⟩
  · rintro ⟨i, h1, h2, h3⟩; exact ⟨i, h1, h2, by rw [← gives_base hl h0 i h1 h2]; exact h3⟩
theorem Gives.perm {c : List Int} {size n : Int} {q : List Int} {l l' : List Sh} (h : Gives c size n q l) (hp : l'.Perm l) : Gives c size n q l' :=
  ⟨hp.nodup_iff.2 h.nd, fun y => by rw [hp.mem_iff]; exact h.mem y⟩

set_option maxHeartbeats 4000000 in
theorem nthin_any (v u : Value) (c : List Int) (size n : Int) (B0 over : Nat) (w : World) (hl : c.length = 256) (h0 : ∀ x ∈ c, 0 ≤ x) (hu : w.ownsRow B0 49 5 u (shTo c size n 256).length (svs (shTo c size n 256))) (hv : OwnI w 0 v (qBase c size n)) (hmb : over ≤ 100000)
    (hT : Took c (qBase c size n) 0 (qBase c size n)) (hpo : (pos c : Int) ≤ tot (qBase c size n) - (over : Int)) (hqb : ∀ x ∈ qBase c size n, 0 ≤ x ∧ x ≤ 1000000) :
    Calls Try.prog 23 #[v, u, .int .i64 (over : Int)] w fun e w' => e = .returned (.tuple #[]) ∧ OwnI w' 0 v (takeN c over (qBase c size n)) ∧ Chg (fun k => some k = v.ownBlock) w w' := by
  have hgv := all_gives c size n hl h0
  obtain ⟨L, hL⟩ : ∃ L, shTo c size n 256 = L := ⟨_, rfl⟩
  have hLl := shTo_length c size n 256
  rw [hL] at hu hLl hgv
  obtain ⟨m, hmm⟩ : ∃ m, L.length = m := ⟨_, rfl⟩
  rw [hmm] at hu hLl
  obtain ⟨ao, cap, rfl⟩ := own_form hu
  have hmI : (m : Int) ≤ 256 := by omega
  have hsI : (over : Int) ≤ 100000 := by omega
  obtain ⟨gv, ov, capv, rfl, hgv1, hgv2, hgv3⟩ := hv
  have hv : OwnI w 0 (.slice (some ⟨gv, ov, none⟩) (qBase c size n).length capv) (qBase c size n) := ⟨gv, ov, capv, rfl, hgv1, hgv2, hgv3⟩
  have hq256 : (qBase c size n).length = 256 := by simp [qBase, hl]
  rw [hq256] at hv ⊢
  obtain ⟨q0, hq0e⟩ : ∃ q0, qBase c size n = q0 := ⟨_, rfl⟩
  rw [hq0e] at hv hT hpo hqb hgv ⊢
  have hcq := Chg.alloc (fun _ => False) w (.cells #[.slice none 0 0, .func (.func 34) #[] #[]] 53)
  have hq0 := qh_new w 34 greatB
  have HU := Lib.hid hu; have HV := Lib.hid hv; have HT := Lib.hid hT; have HPO := Lib.hid hpo; have HL := Lib.hid hl; have HGI := Lib.hid hgv; have HMM := Lib.hid hmm; have HCQ := Lib.hid hcq; have HQ0 := Lib.hid hq0; have HGV := Lib.hid hgv2; have HQB := Lib.hid (show ∀ s, s < 256 → q0.getD s 0 ≤ 1000000 from fun s hs => (hqb _ (getD_mem (cs := q0) (k := s) (by rw [← hq0e, hq256]; exact hs))).2)
  obtain ⟨G, hG⟩ : ∃ G, w.heap.size = G := ⟨_, rfl⟩
  rw [hG] at HQ0 HGV
  have HG := Lib.hid hG
  clear hu hv hT hpo hl hgv hmm hL hLl hcq hq0 hgv1 hgv2 hgv3 hq256 hqb hmb h0 hq0e
  go_enter Try.func23, Try.ntmps23
  go_wp2
  clear hG
  go_loopw [14] (fun o14 wr => ∃ (k : Nat) (l : List Sh), k ≤ m ∧ o14 = .int .i64 (k : Int) ∧ Qh G G 34 greatB wr l ∧ l.Perm (L.take k) ∧ Chg (fun _ => False) w wr) (fun o14 _ => m - (intOf o14).toNat)
  case atStart => exact ⟨0, [], Nat.zero_le _, rfl, HQ0.out, by simp, HCQ.out⟩
  case round =>
    clear HQ0 HCQ
    obtain ⟨k, l, hk, rfl, hq, hp, hc⟩ := hrel
    have hll : l.length ≤ 256 := by rw [hp.length_eq, List.length_take]; omega
    by_cases hlt : k < m
    · have hown := hc.own HU.out (by simp)
      rw [← HMM.out] at hown
      obtain ⟨g, cap', he, c0, c1, c2, c3, c4⟩ := own_rd hown k (by rw [HMM.out]; exact hlt)
      simp only [Value.slice.injEq] at he
      obtain ⟨rfl, -, -⟩ := he
      have hct : L.take (k + 1) = L.take k ++ [L.getD k default] := by rw [List.take_succ_eq_append_getElem (by rw [HMM.out]; exact hlt), List.getD_eq_getElem?_getD, List.getElem?_eq_getElem (by rw [HMM.out]; exact hlt)]; rfl
      obtain ⟨⟨sy, ct, pl, lf, ra⟩, hs⟩ : ∃ s, L.getD k default = s := ⟨_, rfl⟩
      rw [hs] at c0 c1 c2 c3 c4 hct
      simp only [] at c0 c1 c2 c3 c4
      have hca := Chg.alloc (fun _ => False) wr (.cells #[.int .i64 sy, .int .i64 ct, .int .i64 pl, .int .i64 lf, .bool ra] 49)
      have hqa := hq.kept hca (by simp)
      have hkm : (k : Int) < (m : Int) := by omega
      have hadd := qadd_any isOrd_great (Sh.mk sy ct pl lf ra) hqa (by omega)
      have hcw := hc.trans hca fun _ _ h => h
      have HADD := Lib.hid hadd; have HCW := Lib.hid hcw; have HP := Lib.hid hp; have HCT := Lib.hid hct
      unfold sv at HADD
      simp only [] at HADD
      clear hq hp hc hll hown hct hs hca hqa hadd hcw
      go_wp2_with fail
      refine (HADD.out).mono ?_
      rintro e w2 ⟨rfl, l2, hq2, hp2, hc2⟩
      have HF := Lib.hid (show Qh G G 34 greatB w2 l2 ∧ l2.Perm (L.take (k + 1)) ∧ Chg (fun _ => False) w w2 from ⟨hq2, by
          rw [HCT.out]
          exact (hp2.trans (HP.out.cons _)).trans (List.perm_append_comm (l₁ := [Sh.mk sy ct pl lf ra])), HCW.out.trans hc2 fun q hq he => by have := HG.out; omega⟩)
      clear hq2 hp2 hc2 HADD HCW HP HCT
      go_wp2
      go_roundw
      case rel => exact ⟨k + 1, l2, by omega, by go_num, HF.out⟩
      case measure => simp [intOf]; omega
    · obtain rfl : k = m := by omega
      rw [List.take_of_length_le (by rw [HMM.out]; exact Nat.le_refl _)] at hp
      have hw0 := HGI.out.perm hp
      have hv0 := HV.out.kept hc (by simp)
      have hc0 := hc.mono (T := fun k => some k = Value.ownBlock (.slice (some ⟨gv, ov, none⟩) 256 capv)) fun _ _ h => h.elim
      have HS := Lib.hid (show Qh G G 34 greatB wr l ∧ l.length ≤ 256 ∧ Gives c size n (takeN c 0 q0) l ∧ OwnI wr 0 (.slice (some ⟨gv, ov, none⟩) 256 capv) (takeN c 0 q0) ∧ Chg (fun k => some k = Value.ownBlock (.slice (some ⟨gv, ov, none⟩) 256 capv)) w wr from ⟨hq, hll, hw0, hv0, hc0⟩)
      clear hq hp hc hll hw0 hv0 hc0 HGI HU HMM hlt hk hmI
      obtain ⟨wa, hwa⟩ : ∃ wa, wr = wa := ⟨_, rfl⟩
      rw [hwa] at HS ⊢
      clear hwa
      go_wp2
      go_loopw [23] (fun o23 wr => ∃ (j : Nat) (l : List Sh), j ≤ over ∧ o23 = .int .i64 (j : Int) ∧ Qh G G 34 greatB wr l ∧ l.length ≤ 256 ∧ Gives c size n (takeN c j q0) l ∧ OwnI wr 0 (.slice (some ⟨gv, ov, none⟩) 256 capv) (takeN c j q0) ∧ Chg (fun k => some k = Value.ownBlock (.slice (some ⟨gv, ov, none⟩) 256 capv)) w wr) (fun o23 _ => over - (intOf o23).toNat)
      case atStart => exact ⟨0, l, Nat.zero_le _, rfl, HS.out⟩
      case round =>
        clear HS
        obtain ⟨j, l, hj, rfl, hq, hll, hwt, hv, hc⟩ := hrel
        by_cases hlt : j < over
        · have htk := took HL.out HT.out j (by have := HPO.out; omega)
          have hts : takeN c (j + 1) q0 = takeStep c (takeN c j q0) := takeN_succ c j q0
          obtain ⟨p, hp⟩ : ∃ p, takeN c j q0 = p := ⟨_, rfl⟩
          rw [hp] at htk hts hwt hv
          obtain ⟨hR, h1R, -⟩ := took_step HL.out htk (by have := HPO.out; rw [htk.sum]; omega)
          have hcR : c.getD (richTo p c 255) 0 ≠ 0 := by have := (htk.low _ hR).2.1 (by omega); omega
          have hpl := htk.len
          have htop := htk.top _ hR
          have hqb := HQB.out _ hR
          have hl0 : 0 < l.length := List.length_pos_of_mem ((hwt.mem _).2 ⟨_, hR, hcR, rfl⟩)
          have hnx := qnext_any isOrd_great hq hl0
          have htse : takeStep c p = p.set (richTo p c 255) (p.getD (richTo p c 255) 0 - 1) := rfl
          have HNX := Lib.hid hnx; have HWT := Lib.hid hwt; have HV := Lib.hid hv; have HC := Lib.hid hc; have HTS := Lib.hid hts; have HTE := Lib.hid htse
          obtain ⟨s, hs⟩ : ∃ s, richTo p c 255 = s := ⟨_, rfl⟩
          obtain ⟨z, hz⟩ : ∃ z, p.getD s 0 = z := ⟨_, rfl⟩
          rw [hs, hz] at HTE h1R htop
          rw [hs] at hR hcR hqb
          have hz1 : z ≤ 1000000 := by omega
          have HSS := Lib.hid (show richTo p c 255 = s ∧ p.getD s 0 = z ∧ s < 256 ∧ c.getD s 0 ≠ 0 ∧ p.length = 256 ∧ l.length ≤ 256 from ⟨hs, hz, hR, hcR, hpl, hll⟩)
          have hs256 : (s : Int) < 256 := by omega
          have hjm : (j : Int) < (over : Int) := by omega
          clear hp htk hts hwt hv hcR hpl htop hqb hl0 hnx hq hc htse hs hz hR hll
          go_wp2_with fail
          refine (HNX.out).mono ?_
          rintro e w2 ⟨x, l2, rfl, hq2, hp2, hle2, hc2⟩
          obtain ⟨hs, hz, hR, hcR, hpl, hll⟩ := HSS.out
          obtain ⟨hxe, hwt2⟩ := HWT.out.next hpl hp2 hle2 (by rw [hs]; exact hcR)
          rw [hs] at hxe
          have hsym : x.sym = (s : Int) := by rw [hxe, upSh_sym]
          have hplc : x.plc = z := by rw [hxe, upSh_plc, hz]
          have hl2 : l2.length + 1 ≤ 256 := by have := hp2.length_eq; rw [List.length_cons] at this; omega
          obtain ⟨sy, ct, pl, lf, ra⟩ := x
          simp only [] at hsym hplc hwt2
          subst hsym
          subst hplc
          have hca := Chg.alloc (fun _ => False) w2 (.cells #[.int .i64 (s : Int), .int .i64 ct, .int .i64 (pl - 1), .int .i64 lf, .bool ra] 49)
          have hnew := heap_alloc_new w2 (.cells #[.int .i64 (s : Int), .int .i64 ct, .int .i64 (pl - 1), .int .i64 lf, .bool ra] 49)
          obtain ⟨W1, hW1⟩ : ∃ W1, w2.alloc (.cells #[.int .i64 (s : Int), .int .i64 ct, .int .i64 (pl - 1), .int .i64 lf, .bool ra] 49) = W1 := ⟨_, rfl⟩
          rw [hW1] at hca hnew
          have hv2 := (HV.out.kept hc2 (fun k hk => by simp only [Value.ownBlock, Option.some.injEq] at hk; have := HGV.out; omega)).kept hca (by simp)
          have hst := hv2.store s (by rw [hpl]; exact hR) (pl - 1)
          obtain ⟨g', o', cap', he, -, hgl, hcl, hfr⟩ := hv2
          simp only [Value.slice.injEq, Option.some.injEq, Addr.mk.injEq, and_true] at he
          obtain ⟨⟨rfl, rfl⟩, -, rfl⟩ := he
          have z0 := hcl s (by rw [hpl]; exact hR)
          have z1 := hfr s
          rw [hz] at z0
          have d0 : W1.cell? ⟨w2.heap.size, 0, none⟩ = some (.int .i64 (s : Int)) := by rw [cell_of_row _ _ 0 _ _ _ hnew]; rfl
          have d2 : W1.cell? ⟨w2.heap.size, 2, none⟩ = some (.int .i64 (pl - 1)) := by rw [cell_of_row _ _ 2 _ _ _ hnew]; rfl
          have hgw : gv < w2.heap.size := by have := hc2.size; have := HC.out.size; have := HGV.out; have := HG.out; omega
          have hnew2 : (W1.setCell ⟨gv, ov + s, none⟩ (.int .i64 (pl - 1))).heap[w2.heap.size]? = _ := (heap_setCell_other W1 ⟨gv, ov + s, none⟩ w2.heap.size _ (fun e => by simp at e; omega)).trans hnew
          have f0 : (W1.setCell ⟨gv, ov + s, none⟩ (.int .i64 (pl - 1))).cell? ⟨w2.heap.size, 0, none⟩ = some (.int .i64 (s : Int)) := by rw [cell_of_row _ _ 0 _ _ _ hnew2]; rfl
          have f1 : (W1.setCell ⟨gv, ov + s, none⟩ (.int .i64 (pl - 1))).cell? ⟨w2.heap.size, 1, none⟩ = some (.int .i64 ct) := by rw [cell_of_row _ _ 1 _ _ _ hnew2]; rfl
          have f2 : (W1.setCell ⟨gv, ov + s, none⟩ (.int .i64 (pl - 1))).cell? ⟨w2.heap.size, 2, none⟩ = some (.int .i64 (pl - 1)) := by rw [cell_of_row _ _ 2 _ _ _ hnew2]; rfl
          have f3 : (W1.setCell ⟨gv, ov + s, none⟩ (.int .i64 (pl - 1))).cell? ⟨w2.heap.size, 3, none⟩ = some (.int .i64 lf) := by rw [cell_of_row _ _ 3 _ _ _ hnew2]; rfl
          have f4 : (W1.setCell ⟨gv, ov + s, none⟩ (.int .i64 (pl - 1))).cell? ⟨w2.heap.size, 4, none⟩ = some (.bool ra) := by rw [cell_of_row _ _ 4 _ _ _ hnew2]; rfl
          have hc3 : Chg (fun k => some k = Value.ownBlock (.slice (some ⟨gv, ov, none⟩) 256 capv)) w (W1.setCell ⟨gv, ov + s, none⟩ (.int .i64 (pl - 1))) :=
            ((HC.out.trans hc2 fun q hq he => by have := HG.out; omega).trans hca fun _ _ h => h.elim).trans (Chg.setCell W1 ⟨gv, ov + s, none⟩ _) fun q hq he => by rw [he]; rfl
          have hq3 : Qh G G 34 greatB (W1.setCell ⟨gv, ov + s, none⟩ (.int .i64 (pl - 1))) l2 := (hq2.kept hca (by simp)).kept (Chg.setCell W1 ⟨gv, ov + s, none⟩ _) fun q hq _ he => by have := HGV.out; simp at he; omega
          have hadd := qadd_any isOrd_great (Sh.mk (s : Int) ct (pl - 1) lf ra) hq3 (by omega)
          have HADD := Lib.hid hadd; have HC3 := Lib.hid hc3; have HST := Lib.hid hst; have HWT2 := Lib.hid hwt2; have HL2 := Lib.hid hl2
          rw [show sv (Sh.mk (s : Int) ct pl lf ra) = .agg #[.int .i64 (s : Int), .int .i64 ct, .int .i64 pl, .int .i64 lf, .bool ra] from rfl]
          unfold sv at HADD
          simp only [] at HADD
          have hsy := Try.symShare
          have e1 : wrap64 (pl - 1) = pl - 1 := by unfold wrap64; omega
          clear hq2 hp2 hle2 hc2 hs hz hR hcR hpl hll hxe hwt2 hl2 hca hnew hst hgl hcl hfr hgw hnew2 hc3 hq3 hadd HNX HWT HV HC HSS
          go_wp2_with fail
          refine (HADD.out).mono ?_
          rintro e w4 ⟨rfl, l4, hq4, hp4, hc4⟩
          have HF := Lib.hid (show Qh G G 34 greatB w4 l4 ∧ l4.length ≤ 256 ∧ Gives c size n (takeN c (j + 1) q0) l4 ∧ OwnI w4 0 (.slice (some ⟨gv, ov, none⟩) 256 capv) (takeN c (j + 1) q0) ∧ Chg (fun k => some k = Value.ownBlock (.slice (some ⟨gv, ov, none⟩) 256 capv)) w w4 from
            ⟨hq4, by rw [hp4.length_eq, List.length_cons]; exact HL2.out, by rw [HTS.out]; exact HWT2.out.perm hp4, by
              rw [HTS.out, HTE.out]
              exact HST.out.kept hc4 (fun k hk => by simp only [Value.ownBlock, Option.some.injEq] at hk; have := HGV.out; omega),
              HC3.out.trans hc4 fun q hq he => by have := HG.out; omega⟩)
          clear hq4 hp4 hc4 HADD HC3 HST HWT2 HL2 HTS HTE
          go_wp2
          go_roundw
          case rel => exact ⟨j + 1, l4, by omega, by go_num, HF.out⟩
          case measure => simp [intOf]; omega
        · obtain rfl : j = over := by omega
          have HV := Lib.hid hv; have HC := Lib.hid hc
          clear hq hwt hv hc hll
          go_wp2
          go_returns
          exact ⟨rfl, HV.out, HC.out⟩

end Go.Proofs.Ytnijfkbnggdbnaa
