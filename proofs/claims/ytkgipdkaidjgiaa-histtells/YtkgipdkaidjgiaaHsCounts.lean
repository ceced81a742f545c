/- The walks of HistCounts and HistTells. -/
import Derived.Test.YtkgipdkaidjgiaaHsAwake
import Derived.Test.YtkgipdkaidjgiaaHsRef
namespace Go.Proofs.Ytkgipdkaidjgiaa
open Go.RowKit

set_option maxHeartbeats 1000000 in
theorem hcounts_any (v : Value) (xs : List Nat) (w : World) (h : RdB w v xs) (hx : ∀ x ∈ xs, x < 256) :
    Calls Try.prog 3 #[v] w fun e w' => Says w e w' := by
  obtain ⟨ao, cap, rfl⟩ := h.form
  have H := Lib.hid h; have HX := Lib.hid hx
  clear h hx
  by_cases hbig : 200 < xs.length
  · have hb' : decide (200 < (xs.length : Int)) = true := by simp; omega
    go_enter Try.func3, Try.ntmps3
    go_wp2_with fail
    refine (awake5_any w).mono ?_
    rintro e w1 ⟨rfl, hc1⟩
    go_wp2
    go_ret
    exact ⟨rfl, hc1⟩
  · have hb' : decide (200 < (xs.length : Int)) = false := by simp; omega
    go_enter Try.func3, Try.ntmps3
    go_wp2_with fail
    refine (awake5_any w).mono ?_
    rintro e w1 ⟨rfl, hc1⟩
    go_wp2_with fail
    refine (hof_any _ xs w1 (H.out.kept hc1 (by simp)) HX.out (by omega)).mono ?_
    rintro e w2 ⟨v2, rfl, ho2, hc2⟩
    have hc2' := hc1.trans hc2 (fun _ _ h => h)
    clear hc1 hc2
    go_wp2_with fail
    refine (r5of_any _ xs w2 (H.out.kept hc2' (by simp)) HX.out (by omega)).mono ?_
    rintro e w3 ⟨v3, rfl, ho3, hc3⟩
    have ho23 := ho2.kept hc3 (by simp)
    have hc3' := hc2'.trans hc3 (fun _ _ h => h)
    clear hc2' hc3 ho2
    go_wp2_with fail
    refine (ints_c v2 v3 (cnt xs) (cnt xs) w3 ho23.rd ho3.rd (by rw [cnt_length]; omega) (by rw [cnt_length]; omega)).mono ?_
    rintro e w4 ⟨rfl, hc4⟩
    rw [decide_eq_true rfl]
    have hc4' := hc3'.trans hc4 (fun _ _ h => h)
    clear hc3' hc4 ho3 ho23
    go_wp2
    go_ret
    exact ⟨rfl, hc4'⟩

set_option maxHeartbeats 1000000 in
theorem htells_any (v : Value) (cs : List Int) (w : World) (h : RdI w v cs) (hb : ∀ z ∈ cs, -9223372036854775808 ≤ z ∧ z ≤ 9223372036854775807) :
    Calls Try.prog 4 #[v] w fun e w' => Says w e w' := by
  obtain ⟨ao, cap, rfl⟩ := h.form
  have H := Lib.hid h; have HB := Lib.hid hb
  clear h hb
  by_cases hbig : 300 < cs.length
  · have hb' : decide (300 < (cs.length : Int)) = true := by simp; omega
    go_enter Try.func4, Try.ntmps4
    go_wp2_with fail
    refine (awake5_any w).mono ?_
    rintro e w1 ⟨rfl, hc1⟩
    go_wp2
    go_ret
    exact ⟨rfl, hc1⟩
  · have hb' : decide (300 < (cs.length : Int)) = false := by simp; omega
    go_enter Try.func4, Try.ntmps4
    go_wp2_with fail
    refine (awake5_any w).mono ?_
    rintro e w1 ⟨rfl, hc1⟩
    go_wp2_with fail
    refine (hright_c _ cs w1 (H.out.kept hc1 (by simp)) HB.out (by omega)).mono ?_
    rintro e w2 ⟨rfl, hc2⟩
    have hc2' := hc1.trans hc2 (fun _ _ h => h)
    clear hc1 hc2
    obtain ⟨r, hr⟩ : ∃ r, decide (isRight cs) = r := ⟨_, rfl⟩
    rw [hr]
    have HRR := Lib.hid hr
    clear hr
    go_wp2_with fail
    refine (r5right_any _ cs w2 (H.out.kept hc2' (by simp)) HB.out (by omega)).mono ?_
    rintro e w3 ⟨rfl, rfl⟩
    rw [HRR.out]
    clear HRR
    have hrr : (r == r) = true := by simp
    go_wp2_with fail
    refine (hmany_c _ cs w3 (H.out.kept hc2' (by simp)) HB.out (by omega)).mono ?_
    rintro e w4 ⟨rfl, hc4⟩
    have hc4' := hc2'.trans hc4 (fun _ _ h => h)
    clear hc2' hc4 hrr
    obtain ⟨m, hm⟩ : ∃ m, manyI cs = m := ⟨_, rfl⟩
    rw [hm]
    have HM := Lib.hid hm
    clear hm
    go_wp2_with fail
    refine (r5many_any _ cs w4 (H.out.kept hc4' (by simp)) HB.out (by omega)).mono ?_
    rintro e w5 ⟨rfl, rfl⟩
    rw [HM.out]
    clear HM
    go_wp2_with fail
    refine (htotal_c _ cs w5 (H.out.kept hc4' (by simp)) HB.out (by omega)).mono ?_
    rintro e w6 ⟨rfl, hc6⟩
    have hc6' := hc4'.trans hc6 (fun _ _ h => h)
    clear hc4' hc6
    obtain ⟨t, ht⟩ : ∃ t, totalI cs = t := ⟨_, rfl⟩
    rw [ht]
    have HT := Lib.hid ht
    clear ht
    go_wp2_with fail
    refine (r5total_any _ cs w6 (H.out.kept hc6' (by simp)) HB.out (by omega)).mono ?_
    rintro e w7 ⟨rfl, rfl⟩
    rw [HT.out]
    clear HT
    go_wp2
    go_ret
    exact ⟨rfl, hc6'⟩

end Go.Proofs.Ytkgipdkaidjgiaa
