/- BudgetBack's walk. -/
import Derived.Test.YtgnenelfbmpfgaaBgPuts
import Derived.Test.YtgnenelfbmpfgaaBfBack
namespace Go.Proofs.Ytgnenelfbmpfgaa
open Go.RowKit

/-- pairs as values -/
def prs : List (Int × Int) → List Value
  | [] => []
  | p :: r => .int .i64 p.1 :: .int .i64 p.2 :: prs r
theorem prs_length (ps : List (Int × Int)) : (prs ps).length = ps.length * 2 := by
  induction ps with
  | nil => rfl
  | cons p r ih => simp [prs, ih]; omega
theorem prs_append (a b : List (Int × Int)) : prs (a ++ b) = prs a ++ prs b := by
  induction a with
  | nil => rfl
  | cons p r ih => simp [prs, ih]
theorem prs_get (ps : List (Int × Int)) (i : Nat) (h : i < ps.length) : (prs ps)[i * 2]? = some (.int .i64 (ps.getD i (0, 0)).1) ∧ (prs ps)[i * 2 + 1]? = some (.int .i64 (ps.getD i (0, 0)).2) := by
  induction ps generalizing i with
  | nil => simp at h
  | cons p r ih =>
    cases i with
    | zero => exact ⟨rfl, rfl⟩
    | succ i =>
      have := ih i (by simpa using h)
      rw [show (i + 1) * 2 = i * 2 + 1 + 1 by omega]
      exact this
theorem RdPr.of_own {w : World} {base n : Nat} {v : Value} {ps : List (Int × Int)} (h : w.ownsRow base 29 2 v n (prs ps)) : RdPr w v ps := by
  have hl := h.1
  rw [prs_length] at hl
  rcases h.2 with ⟨rfl, rfl⟩ | ⟨g, cap, cur, rfl, _⟩
  · exact .inl ⟨List.eq_nil_of_length_eq_zero (by omega), none, 0, rfl⟩
  · refine .inr ⟨g, 0, cap, by simp; omega, fun j hj => ?_⟩
    have hh := prs_get ps j hj
    rw [Nat.zero_add, h.cellAt (j * 2) (by omega), h.cellAt (j * 2 + 1) (by omega)]
    exact hh
theorem pairs_apart {w : World} {base n b : Nat} {v : Value} {xs : List Value} {o : Option Nat} {bs : List Bool} (h : w.ownsRow base 29 2 v n xs) (hw : Wr w b o bs) : ∀ k, v.ownBlock = some k → ¬ (k = b ∨ some k = o) := by
  intro k hk
  obtain ⟨v2, hb, ho, hown⟩ := hw
  rintro (hx | hx)
  · exact row_ne h hb (by decide) k hk hx
  · rcases hown.2 with ⟨rfl, _⟩ | ⟨g2, cap2, cur2, rfl, _, hg2, _⟩
    · rw [← hx] at ho; simp [Value.ownBlock] at ho
    · rw [← hx] at ho
      simp only [Value.ownBlock, Option.some.injEq] at ho
      exact row_ne h hg2 (by decide) k hk ho.symm

def okB (q : Int × Int) : Bool := decide (bCan q.1 q.2)
/-- the bits of pairs that may be put -/
def allB : List (Int × Int) → List Bool
  | [] => []
  | q :: r => bitsOf q.1.toNat (widthI q.2) ++ allB r
theorem allB_append (a b : List (Int × Int)) : allB (a ++ b) = allB a ++ allB b := by
  induction a with
  | nil => rfl
  | cons p r ih => simp [allB, ih]
theorem bgAll_allB (bs : List Bool) (ps : List (Int × Int)) : bgAll bs ps = bs ++ allB (ps.filter okB) := by
  induction ps generalizing bs with
  | nil => simp [bgAll, allB]
  | cons q r ih =>
    simp only [bgAll]
    rw [ih]
    by_cases h : bCan q.1 q.2
    · rw [List.filter_cons_of_pos (by unfold okB; exact decide_eq_true h)]
      unfold bgPutB
      rw [if_pos h]
      simp [allB]
    · rw [List.filter_cons_of_neg (by unfold okB; simpa using h)]
      unfold bgPutB
      rw [if_neg h]
theorem filterB_succ (ps : List (Int × Int)) (k : Nat) (h : k < ps.length) : (ps.take (k + 1)).filter okB = (ps.take k).filter okB ++ if okB (ps.getD k (0, 0)) = true then [ps.getD k (0, 0)] else [] := by
  rw [List.take_succ_eq_append_getElem h, List.filter_append, List.getD_eq_getElem?_getD, List.getElem?_eq_getElem h]
  simp only [Option.getD_some]
  by_cases hk : okB ps[k] = true
  · rw [if_pos hk, List.filter_cons_of_pos hk, List.filter_nil]
  · rw [if_neg hk, List.filter_cons_of_neg hk, List.filter_nil]
/-- the number that was put is taken -/
theorem bgTk_put (F : List (Int × Int)) (hF : ∀ q ∈ F, bCan q.1 q.2) (i : Nat) (hi : i < F.length) :
    bgTk (pack (allB F)) (allB (F.take i)).length (F.getD i (0, 0)).2 = ((F.getD i (0, 0)).1, 0, (allB (F.take (i + 1))).length) := by
  have hq := hF _ (getD_memP hi)
  have hsu : allB (F.take (i + 1)) = allB (F.take i) ++ bitsOf (F.getD i (0, 0)).1.toNat (widthI (F.getD i (0, 0)).2) := by
    rw [List.take_succ_eq_append_getElem hi, allB_append, List.getD_eq_getElem?_getD, List.getElem?_eq_getElem hi]
    simp [allB]
  have hall : allB F = allB (F.take (i + 1)) ++ allB (F.drop (i + 1)) := by rw [← allB_append, List.take_append_drop]
  obtain ⟨q, hqe⟩ : ∃ q, F.getD i (0, 0) = q := ⟨_, rfl⟩
  rw [hqe] at hq hsu ⊢
  obtain ⟨h1, h2, h3, h4⟩ := hq
  have hw := width_13 h1 h2
  have hlen : (allB (F.take (i + 1))).length = (allB (F.take i)).length + widthI q.2 := by rw [hsu, List.length_append, bitsOf_length]
  have hfit : (allB (F.take i)).length + widthI q.2 ≤ 8 * (pack (allB F)).length := by
    rw [pack_length]
    have : (allB (F.take (i + 1))).length ≤ (allB F).length := by rw [hall, List.length_append]; omega
    omega
  have hv : fv (pack (allB F)) (allB (F.take i)).length (widthI q.2) = q.1.toNat := by
    have e := bits_pack_more (allB F) []
    rw [List.append_nil] at e
    unfold fv
    rw [e, hall, hsu, List.append_assoc, List.append_assoc, List.drop_left, List.take_append_of_le_length (by rw [bitsOf_length]; omega), List.take_of_length_le (by rw [bitsOf_length]; omega), val_bitsOf, Nat.mod_eq_of_lt (by omega)]
  unfold bgTk
  rw [if_pos ⟨h1, h2⟩, if_pos hfit, hv, if_pos (by omega), hlen]
  simp only [Prod.mk.injEq, and_true, true_and]
  omega

theorem Try.infoPair : (Try.prog.info? 29).map (fun i => (i.zero, i.size, i.bytes)) = some (some (.agg #[.int .i64 0, .int .i64 0]), 2, 16) := by kernel_rfl

set_option maxRecDepth 20000 in
set_option maxHeartbeats 4000000 in
theorem budgetBack_walk (v : Value) (ps : List (Int × Int)) (w : World) (h : RdPr w v ps) (hf : ∀ q ∈ ps, pairFits q) :
    Calls Try.prog 5 #[v] w fun e w' => e = .returned (.bool true) ∧ Chg (fun _ => False) w w' := by
  obtain ⟨ii, hi, hz0, hz1, hz2⟩ := info_parts Try.infoPair
  obtain ⟨ao, cap, rfl⟩ := h.form
  have H := Lib.hid h; have HF := Lib.hid hf
  clear h hf
  by_cases hbig : 40 < ps.length
  · have hb' : decide (40 < (ps.length : Int)) = true := decide_eq_true (by omega)
    go_enter Try.func5, Try.ntmps5
    go_wp2_with fail
    refine (awake13_any w).mono ?_
    rintro e w1 ⟨rfl, hc1⟩
    go_wp2
    go_ret
    exact ⟨rfl, hc1⟩
  have hb' : decide (40 < (ps.length : Int)) = false := decide_eq_false (by omega)
  go_enter Try.func5, Try.ntmps5
  go_wp2_with fail
  refine (awake13_any w).mono ?_
  rintro e w1 ⟨rfl, hc1⟩
  have C1 := Lib.hid hc1
  clear hc1
  go_wp2_with fail
  refine (new_wr w1).mono ?_
  rintro e w2 ⟨rfl, hw2, hc2⟩
  obtain ⟨b, hb⟩ : ∃ b, w1.heap.size = b := ⟨_, rfl⟩
  rw [hb] at hw2 ⊢
  have HBW := Lib.hid (show w.heap.size ≤ b by have := C1.out.size; omega)
  have W2 := Lib.hid hw2; have C2 := Lib.hid (C1.out.next hc2)
  clear hw2 hc2 C1 hb
  go_wp2
  go_loopw [5, 6, 7] (fun o5 o6 _ wr => ∃ (k : Nat) (o : Option Nat), k ≤ ps.length ∧ o6 = .int .i64 (k : Int) ∧ Wr wr b o (bgAll [] (ps.take k)) ∧ Above w.heap.size b o ∧ wr.ownsRow w.heap.size 29 2 o5 ((ps.take k).filter okB).length (prs ((ps.take k).filter okB)) ∧ Chg (fun _ => False) w wr) (fun _ o6 _ _ => ps.length - (intOf o6).toNat)
  case atStart => exact ⟨0, none, Nat.zero_le _, rfl, W2.out, ⟨HBW.out, by simp⟩, World.ownsRow_nil _ _ _ _, C2.out⟩
  case round =>
    obtain ⟨k, o, hk, rfl, hwr, hab, hbo, hcr⟩ := hrel
    clear W2 C2
    have hbl := bgAll_take ps k (by omega)
    by_cases hlt : k < ps.length
    · obtain ⟨g, off, rfl, c0, c1⟩ := (H.out.kept hcr (by simp)).at k hlt
      have hfit := HF.out _ (getD_memP hlt)
      have hsu := bgAll_succ [] ps k hlt
      have hfs := filterB_succ ps k hlt
      have hfl : ((ps.take k).filter okB).length ≤ 40 := by
        have h1 := List.length_filter_le okB (ps.take k)
        have h2 : (ps.take k).length ≤ k := List.length_take_le _ _
        omega
      have HCELL := Lib.hid fun W (hW : Chg (fun _ => False) w W) => (H.out.kept hW (by simp)).at' k hlt
      obtain ⟨q, hq⟩ : ∃ q, ps.getD k (0, 0) = q := ⟨_, rfl⟩
      rw [hq] at c0 c1 hfit hsu HCELL hfs
      obtain ⟨x, l⟩ := q
      simp only [] at c0 c1 hsu HCELL
      obtain ⟨hx, hl⟩ := hfit
      simp only [] at hx hl
      obtain ⟨A, hA⟩ : ∃ A, bgAll [] (ps.take k) = A := ⟨_, rfl⟩
      rw [hA] at hwr hbl hsu
      obtain ⟨F, hFF⟩ : ∃ F, (ps.take k).filter okB = F := ⟨_, rfl⟩
      rw [hFF] at hbo hfs hfl
      have PUT := Lib.hid (bgput_any b o A x l wr.drew hwr.drew (by omega) hx hl)
      rw [← hsu] at PUT
      have WR := Lib.hid hwr; have AB := Lib.hid hab; have BO := Lib.hid hbo; have CR := Lib.hid hcr; have FS := Lib.hid hfs; have HLT := Lib.hid hlt; have FL := Lib.hid hfl
      clear hwr hab hbo hcr hsu hfs hq hA hFF hx hl hbl hfl
      go_wp2
      go_still_tail 11, (by kernel_rfl)
      change wpList _ _ _ _ _ wr.drew
      go_wp2_with fail
      refine (PUT.out).mono ?_
      rintro e w3 ⟨rfl, o3, hw3, hc3, ho3⟩
      have C3 := Lib.hid (CR.out.drew.up hc3 AB.out)
      have AB3 := Lib.hid (AB.out.step (w := wr.drew) CR.out.drew.size ho3)
      have W3 := Lib.hid hw3
      have hb3 : w3.ownsRow w.heap.size 29 2 u5 F.length (prs F) := hc3.own (show wr.drew.ownsRow _ _ _ _ _ _ from BO.out) (pairs_apart BO.out WR.out)
      have hsz3 := C3.out.size
      clear hw3 hc3 ho3 c0 c1 PUT WR AB BO CR
      obtain ⟨c0, c1⟩ := HCELL.out w3 C3.out
      by_cases hok : bCan x l
      · rw [decide_eq_true hok]
        have hfs := FS.out
        rw [if_pos (show okB (x, l) = true from decide_eq_true hok)] at hfs
        have FS2 := Lib.hid hfs
        have hF40 := FL.out
        clear hfs FS hok
        go_wp2_with (at_builtin; refine wpList_append_own _ rfl (.tmp 40) (.tmp 45) 22 rfl w.heap.size 29 ii (.agg #[.int .i64 0, .int .i64 0]) 2 16 Try.underlying22 hi hz0 hz1 hz2 rfl (by decide) _ F.length _ rfl (hb3.alloc _) ⟨w3.heap.size, 0, none⟩ 1 1 _ rfl rfl (cell_two_new _ _ _ _) ?_ (by unfold maxLen; omega) (by omega) (by simp; omega) ?_)
        · intro y hy; simp at hy; rcases hy with rfl | rfl <;> rfl
        intro v' w5 ho5 hg5 _
        have hapn := pairs_apart hb3 W3.out
        have hcg : Chg (fun q => some q = u5.ownBlock) w3 w5 := (Chg.alloc _ w3 _).trans (Chg.of_grown hg5) (fun _ _ hx => hx)
        have W5 := Lib.hid (W3.out.kept hcg (fun hx => hapn _ hx.symm (.inl rfl)) (fun q hq hx => hapn q hx.symm (.inr hq.symm)))
        have C5 := Lib.hid (C3.out.trans hcg (S := fun _ => False) (fun q hq hx => by have := (hb3.lt q hx.symm).1; omega))
        rw [show prs F ++ [Value.int .i64 x, .int .i64 l] = prs (F ++ [(x, l)]) from by rw [prs_append]; rfl, show F.length + 1 = (F ++ [(x, l)]).length from by simp, ← FS2.out] at ho5
        have O5 := Lib.hid ho5
        clear hcg hg5 hapn hb3 W3 C3 c0 c1 FS2 ho5
        go_wp2
        go_roundw
        case rel => exact ⟨k + 1, o3, by have := HLT.out; omega, by go_num, W5.out, AB3.out, O5.out, C5.out⟩
        case measure => simp [intOf]; have := HLT.out; omega
      · rw [decide_eq_false hok]
        have hfs := FS.out
        rw [if_neg (show ¬ okB (x, l) = true from by unfold okB; simpa using hok), List.append_nil] at hfs
        have FS2 := Lib.hid hfs; have B3 := Lib.hid hb3
        clear hfs FS hok hb3 c0 c1
        go_wp2
        go_roundw
        case rel => exact ⟨k + 1, o3, by have := HLT.out; omega, by go_num, W3.out, AB3.out, by rw [FS2.out]; exact B3.out, C3.out⟩
        case measure => simp [intOf]; have := HLT.out; omega
    · obtain rfl : k = ps.length := by omega
      rw [List.take_length] at hwr hbo hbl
      have hbits := bgAll_allB [] ps
      rw [List.nil_append] at hbits
      obtain ⟨F, hFF⟩ : ∃ F, ps.filter okB = F := ⟨_, rfl⟩
      have hFok : ∀ q ∈ F, bCan q.1 q.2 := fun q hq => by
        rw [← hFF] at hq
        have := (List.mem_filter.1 hq).2
        unfold okB at this
        exact of_decide_eq_true this
      have hFl : F.length ≤ 40 := by rw [← hFF]; have := List.length_filter_le okB ps; omega
      rw [hFF] at hbits hbo
      rw [hbits] at hwr hbl
      have htk := fun i hi => bgTk_put F hFok i hi
      have htl : (allB (F.take F.length)).length = (allB F).length := by rw [List.take_length]
      obtain ⟨A, hA⟩ : ∃ A, allB F = A := ⟨_, rfl⟩
      rw [hA] at hwr hbl htk htl
      have hfF : ∀ i, i < F.length → pairFits (F.getD i (0, 0)) := fun i hi => HF.out _ (by
        have := getD_memP hi
        rw [← hFF] at this ⊢
        exact (List.mem_filter.1 this).1)
      have hrp := RdPr.of_own hbo
      obtain ⟨a5, cp5, rfl⟩ := hrp.form
      have WR := Lib.hid hwr; have RP := Lib.hid hrp; have CR := Lib.hid hcr; have TK := Lib.hid htk; have TL := Lib.hid htl; have FF := Lib.hid hfF; have HBL := Lib.hid hbl
      clear hwr hbo hcr hab hbl hFF hFok hbits hA htk htl hfF hrp
      obtain ⟨wa, hwa⟩ : ∃ wa, wa = wr := ⟨_, rfl⟩
      subst hwa
      go_wp2_with fail
      refine (bytes_any b o A wa WR.out (by have := HBL.out; omega)).mono ?_
      rintro e w5 ⟨g5, cap5, rfl, r5, hc5⟩
      have NW := Lib.hid (fnew_any _ (pack A) w5 (RdB.of_own r5) (by rw [pack_length]; have := HBL.out; omega) (pack_lt A))
      have C5 := Lib.hid (CR.out.next hc5); have RP5 := Lib.hid (RP.out.kept hc5 (by simp))
      clear r5 hc5 WR CR RP
      go_wp2_with fail
      refine (NW.out).mono ?_
      rintro e w6 ⟨br, orr, rfl, r6, ab6, hc6⟩
      have C6 := Lib.hid (C5.out.next hc6); have RP6 := Lib.hid (RP5.out.kept hc6 (by simp)); have R6 := Lib.hid r6
      have HBR := Lib.hid (show w.heap.size ≤ br by have := ab6.1; have := C5.out.size; omega)
      have HGB := Lib.hid (show ∀ g off, a5 = some ⟨g, off, none⟩ → 0 < F.length → g ≠ br from fun g off hg h0 => by
        subst hg
        have h1 := block_lt_of_cell (RP5.out.at' 0 h0).1
        have h2 := ab6.1
        exact Nat.ne_of_lt (Nat.lt_of_lt_of_le h1 h2))
      clear r6 ab6 hc6 C5 RP5 NW
      go_wp2
      go_loopw [9, 10, 11] (fun o9 _ _ wr => ∃ i : Nat, i ≤ F.length ∧ o9 = .int .i64 (i : Int) ∧ Rf wr br orr (pack A) (allB (F.take i)).length ∧ RdPr wr (.slice a5 F.length cp5) F ∧ Chg (fun _ => False) w wr) (fun o9 _ _ _ => F.length - (intOf o9).toNat)
      case atStart => exact ⟨0, Nat.zero_le _, rfl, R6.out, RP6.out, C6.out⟩
      case round =>
        obtain ⟨i, hiF, rfl, hr, hp, hc⟩ := hrel
        clear R6 RP6 C6
        by_cases hlt2 : i < F.length
        · obtain ⟨g, off, rfl, c0, c1⟩ := hp.at i hlt2
          have hne := HGB.out g off rfl (by omega)
          have htk := TK.out i hlt2
          have hft := FF.out i hlt2
          have HP2 := Lib.hid fun W (hW : RdPr W (.slice (some ⟨g, off, none⟩) F.length cp5) F) => hW.at' i hlt2
          obtain ⟨q, hq⟩ : ∃ q, F.getD i (0, 0) = q := ⟨_, rfl⟩
          rw [hq] at c0 c1 htk hft HP2
          obtain ⟨x, l⟩ := q
          simp only [] at c0 c1 htk HP2
          have T1 := Lib.hid (bgtake_any br orr (pack A) _ l wr hr hft.2)
          rw [htk] at T1
          have P := Lib.hid hp; have C := Lib.hid hc; have NE := Lib.hid hne; have HLT2 := Lib.hid hlt2
          clear hr hp hc hne htk hft hq
          go_wp2_with fail
          refine (T1.out).mono ?_
          rintro e w8 ⟨rfl, r8, hc8⟩
          have P8 := Lib.hid (P.out.kept hc8 (fun k hk (hh : k = br) => by simp [Value.ownBlock] at hk; exact NE.out (by omega)))
          have C8 := Lib.hid (C.out.trans hc8 (S := fun _ => False) (fun k hk (hh : k = br) => by have := HBR.out; omega))
          have R8 := Lib.hid r8
          clear r8 hc8 P C c0 c1 T1
          obtain ⟨c0, c1⟩ := HP2.out w8 P8.out
          have hxx : (x != x) = false := by simp
          go_wp2
          go_roundw
          case rel => exact ⟨i + 1, by have := HLT2.out; omega, by go_num, R8.out, P8.out, C8.out⟩
          case measure => simp [intOf]; have := HLT2.out; omega
        · obtain rfl : i = F.length := by omega
          rw [TL.out] at hr
          have R := Lib.hid hr; have C := Lib.hid hc
          clear hr hc hp
          go_wp2_with fail
          refine (fpad_any br orr (pack A) A.length wr R.out).mono ?_
          rintro e w8 (⟨-, rfl, r8, hc8⟩ | ⟨hno, -, -⟩)
          · have C8 := Lib.hid (C.out.trans hc8 (S := fun _ => False) (fun k hk (hh : k = br) => by have := HBR.out; omega))
            have R8 := Lib.hid r8
            clear r8 hc8 C R
            go_wp2_with fail
            refine (fleft_any br orr (pack A) _ w8 R8.out).mono ?_
            rintro e w9 ⟨rfl, hc9⟩
            rw [show 8 * (pack A).length - 8 * ((A.length + 7) / 8) = 0 by rw [pack_length]; omega]
            have C9 := Lib.hid (C8.out.next hc9)
            clear hc9
            go_wp2
            go_ret
            exact ⟨rfl, C9.out⟩
          · exfalso
            have := clear_pack A []
            rw [List.append_nil] at this
            exact hno this

end Go.Proofs.Ytgnenelfbmpfgaa
