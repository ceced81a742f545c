/- BudgetPuts' walk. -/
import Derived.Test.YtgnenelfbmpfgaaBgTakes
import Derived.Test.YtgnenelfbmpfgaaRdPairs
import Derived.Deep.RegionHeld3
import Derived.StillTailTactics
import Derived.BigQuiet
namespace Go.Proofs.Ytgnenelfbmpfgaa
open Go.RowKit

set_option maxRecDepth 20000 in
set_option maxHeartbeats 4000000 in
theorem budgetPuts_walk (v : Value) (ps : List (Int × Int)) (w : World) (h : RdPr w v ps) (hf : ∀ q ∈ ps, pairFits q) :
    Calls Try.prog 3 #[v] w fun e w' => e = .returned (.bool true) ∧ Chg (fun _ => False) w w' := by
  obtain ⟨ao, cap, rfl⟩ := h.form
  have H := Lib.hid h; have HF := Lib.hid hf
  clear h hf
  by_cases hbig : 40 < ps.length
  · have hb' : decide (40 < (ps.length : Int)) = true := decide_eq_true (by omega)
    go_enter Try.func3, Try.ntmps3
    go_wp2_with fail
    refine (awake13_any w).mono ?_
    rintro e w1 ⟨rfl, hc1⟩
    go_wp2
    go_ret
    exact ⟨rfl, hc1⟩
  have hb' : decide (40 < (ps.length : Int)) = false := decide_eq_false (by omega)
  go_enter Try.func3, Try.ntmps3
  go_wp2_with fail
  refine (awake13_any w).mono ?_
  rintro e w1 ⟨rfl, hc1⟩
  have C1 := Lib.hid hc1
  clear hc1
  go_wp2_with fail
  refine (new_wr w1).mono ?_
  rintro e w2 ⟨rfl, hw2, hc2⟩
  obtain ⟨b, hb⟩ : ∃ b, w1.heap.size = b := ⟨_, rfl⟩
  rw [hb] at hw2 ⊢
  have HBW := Lib.hid (show w.heap.size ≤ b by have := C1.out.size; omega)
  have W2 := Lib.hid hw2; have C2 := Lib.hid (C1.out.next hc2)
  clear hw2 hc2 C1 hb
  go_wp2
  go_loopw [5, 6, 7, 8] (fun o5 o6 _ _ wr => ∃ (k : Nat) (o : Option Nat), k ≤ ps.length ∧ o6 = .int .i64 (k : Int) ∧ Wr wr b o (bgAll [] (ps.take k)) ∧ Above w.heap.size b o ∧ wr.ownsRow w.heap.size 4 1 o5 (bgAll [] (ps.take k)).length (bl (bgAll [] (ps.take k))) ∧ Chg (fun _ => False) w wr) (fun _ o6 _ _ _ => ps.length - (intOf o6).toNat)
  case atStart => exact ⟨0, none, Nat.zero_le _, rfl, W2.out, ⟨HBW.out, by simp⟩, World.ownsRow_nil _ _ _ _, C2.out⟩
  case round =>
    obtain ⟨k, o, hk, rfl, hwr, hab, hbo, hcr⟩ := hrel
    clear W2 C2
    have hbl := bgAll_take ps k (by omega)
    by_cases hlt : k < ps.length
    · obtain ⟨g, off, rfl, c0, c1⟩ := (H.out.kept hcr (by simp)).at k hlt
      have hfit := HF.out _ (getD_memP hlt)
      have hsu := bgAll_succ [] ps k hlt
      have HCELL := Lib.hid fun W (hW : Chg (fun _ => False) w W) => (H.out.kept hW (by simp)).at' k hlt
      obtain ⟨q, hq⟩ : ∃ q, ps.getD k (0, 0) = q := ⟨_, rfl⟩
      rw [hq] at c0 c1 hfit hsu HCELL
      obtain ⟨x, l⟩ := q
      simp only [] at c0 c1 hsu HCELL
      obtain ⟨hx, hl⟩ := hfit
      simp only [] at hx hl
      obtain ⟨A, hA⟩ : ∃ A, bgAll [] (ps.take k) = A := ⟨_, rfl⟩
      rw [hA] at hwr hbo hbl hsu
      have hpl := bgPutB_length A x l
      have hcl := bgCost_le x l
      have HCAN := Lib.hid fun W => r13can_any x l W
      have HCOST := Lib.hid fun W => bgcost_any x l W hx hl
      obtain ⟨ct, hct⟩ : ∃ ct, bgCostN x l = ct := ⟨_, rfl⟩
      rw [hct] at hpl hcl HCOST
      obtain ⟨u5a, u5c, rfl, -⟩ := own_src hbo
      obtain ⟨n, hn⟩ : ∃ n, A.length = n := ⟨_, rfl⟩
      obtain ⟨bc, hbc⟩ : ∃ bc, decide (bCan x l) = bc := ⟨_, rfl⟩
      rw [hbc] at HCAN
      have HBC := Lib.hid hbc
      have WR := Lib.hid hwr; have AB := Lib.hid hab; have BO := Lib.hid hbo; have CR := Lib.hid hcr; have SU := Lib.hid hsu; have PL := Lib.hid hpl; have HN := Lib.hid hn; have HX := Lib.hid hx; have HL := Lib.hid hl; have HLT := Lib.hid hlt; have HBLN := Lib.hid hbl
      rw [hn]
      have hn5 : (n : Int) ≤ 520 := by omega
      have hct13 : (ct : Int) ≤ 13 := by omega
      clear hwr hab hbo hcr hsu hpl hn hq hA hct hbc hx hl hbl
      go_wp2
      go_quiet (first | (go_at_call 10; exact Calls.quiet_of_same (HCAN.out _)))
      go_wp2
      obtain ⟨wq, hwq⟩ : ∃ wq, wr.drewN nq = wq := ⟨_, rfl⟩
      have hcq : Chg (fun _ => False) wr wq := by rw [← hwq]; exact (Chg.refl _ _).drewN nq
      rw [hwq]
      clear hwq c0 c1
      have CQ := Lib.hid (CR.out.next hcq)
      have WQ := Lib.hid (WR.out.kept hcq (by simp) (by simp))
      have BQ := Lib.hid (hcq.own BO.out (fun _ _ => by simp))
      obtain ⟨c0, c1⟩ := HCELL.out wq CQ.out
      have RP := Lib.hid (r13put_any _ A x l w.heap.size wq.drew BQ.out.drew (by have := CQ.out.size; exact this) (by have := HBLN.out; omega))
      have hnA := HN.out
      rw [hnA] at RP
      clear hcq CR WR BO hnA
      go_still_tail 11, (by kernel_rfl)
      change wpList _ _ _ _ _ wq.drew
      go_wp2_with fail
      refine (RP.out).mono ?_
      rintro e w3 ⟨v3, rfl, ho3, hc3⟩
      have hcd3 : Chg (fun _ => False) wq w3 := ((Chg.refl (fun _ => False) wq).drew).next hc3
      have C3 := Lib.hid (CQ.out.next hcd3)
      have W3 := Lib.hid (WQ.out.kept hcd3 (by simp) (by simp))
      obtain ⟨B, hB⟩ : ∃ B, bgPutB A x l = B := ⟨_, rfl⟩
      rw [hB] at ho3
      have SUB := Lib.hid (SU.out.trans hB)
      have hlB : B.length = n + ct := by rw [← hB, PL.out, HN.out]
      obtain ⟨a3, cp3, rfl, -⟩ := own_src ho3
      obtain ⟨m, hm⟩ : ∃ m, B.length = m := ⟨_, rfl⟩
      have hmI : (m : Int) - (n : Int) = (ct : Int) := by omega
      have hm6 : (m : Int) ≤ 600 := by omega
      have hwp : IntKind.i64.wrap ((m : Int) - (n : Int)) = (ct : Int) := by rw [IntKind.wrap_i64]; omega
      have hwp2 : IntKind.i64.wrap (ct : Int) = (ct : Int) := by rw [IntKind.wrap_i64]; omega
      have hq1 : ((ct : Int) != (ct : Int)) = false := by simp
      have hq2 : ((m : Int) != (m : Int)) = false := by simp
      have hq3 : (bc != bc) = false := by simp
      have O3 := Lib.hid ho3; have HM := Lib.hid hm
      rw [hm]
      have PUT := Lib.hid (bgput_any b o A x l w3.drew W3.out.drew (by have := HBLN.out; omega) HX.out HL.out)
      rw [HBC.out, hB] at PUT
      have HBN := Lib.hid (show ∀ (w4 : World), Chg (fun _ => False) w w4 → w4.cell? ⟨g, off + k * 2, none⟩ = some (.int .i64 x) ∧ w4.cell? ⟨g, off + k * 2 + 1, none⟩ = some (.int .i64 l) from HCELL.out)
      clear hc3 hcd3 ho3 hB hlB hm WQ BQ CQ c0 c1 RP
      obtain ⟨c0, c1⟩ := HBN.out w3.drew C3.out.drew
      go_wp2
      go_region_held3 (fun W => W.cell? ⟨g, off + k * 2, none⟩ = some (.int .i64 x) ∧ W.cell? ⟨g, off + k * 2 + 1, none⟩ = some (.int .i64 l)) (first | exact ⟨c0, c1⟩ | exact ⟨c04, c14⟩ | exact ⟨c05, c15⟩) (first
        | (go_at_call 12; refine (PUT.out).mono ?_; rintro e w4 ⟨rfl, o4, hw4, hc4, ho4⟩; have C4 := Lib.hid (C3.out.drew.up hc4 AB.out); have AB4 := Lib.hid (AB.out.step (w := w3.drew) C3.out.drew.size ho4); have W4 := Lib.hid hw4; have O4 := Lib.hid (hc4.own O3.out.drew (bools_apart O3.out W3.out)); obtain ⟨c04, c14⟩ := HBN.out w4 C4.out; clear hw4 hc4 ho4)
        | (go_at_call 13; refine (HCOST.out _).mono ?_; rintro e w5 ⟨rfl, hc5⟩; have C5 := Lib.hid (C4.out.next hc5); have W5 := Lib.hid (W4.out.kept hc5 (by simp) (by simp)); have O5 := Lib.hid (hc5.own O4.out (fun _ _ => by simp)); obtain ⟨c05, c15⟩ := HBN.out w5 C5.out; clear hc5)
        | (go_at_call 14; refine (bits_any b o4 B w5 W5.out).mono ?_; rintro e w6 ⟨rfl, rfl⟩; rw [HM.out]))
      go_wp2
      go_roundw
      case rel => exact ⟨k + 1, o4, by have := HLT.out; omega, by go_num, by rw [SUB.out]; exact W5.out, AB4.out, by have := O5.out; rw [SUB.out]; rw [HM.out] at this ⊢; exact this, C5.out⟩
      case measure => simp [intOf]; have := HLT.out; omega
    · obtain rfl : k = ps.length := by omega
      obtain ⟨A, hA⟩ : ∃ A, bgAll [] (ps.take ps.length) = A := ⟨_, rfl⟩
      rw [hA] at hwr hbo hbl
      have WR := Lib.hid hwr; have BO := Lib.hid hbo; have CR := Lib.hid hcr; have HBL := Lib.hid hbl
      clear hwr hbo hcr hab hA hbl
      go_wp2_with fail
      refine (bytes_any b o A wr WR.out (by have := HBL.out; omega)).mono ?_
      rintro e w5 ⟨g5, cap5, rfl, r5, hc5⟩
      have BO5 := Lib.hid (hc5.own BO.out (fun _ _ => by simp))
      have C5 := Lib.hid (CR.out.next hc5)
      have R5 := Lib.hid (RdB.of_own r5)
      clear hc5 r5 BO CR
      go_wp2_with fail
      refine (rbytes_any _ A w5 ⟨_, BO5.out⟩ (by have := HBL.out; omega)).mono ?_
      rintro e w6 ⟨g6, cap6, rfl, r6, hc6⟩
      have C6 := Lib.hid (C5.out.next hc6)
      have R56 := Lib.hid (R5.out.kept hc6 (by simp))
      have R6 := Lib.hid (RdB.of_own r6)
      clear hc6 r6 C5 R5
      go_wp2_with fail
      refine (same_any _ _ _ _ w6 R56.out R6.out (pack_lt _) (pack_lt _)).mono ?_
      rintro e w7 ⟨rfl, rfl⟩
      rw [show decide (pack A = pack A) = true from decide_eq_true rfl]
      go_wp2
      go_ret
      exact ⟨rfl, C6.out⟩

end Go.Proofs.Ytgnenelfbmpfgaa
