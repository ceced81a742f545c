/- The walk of CtxTells. -/
import Derived.Test.YtjddaneafmdeeaaCxAwake
import Derived.Test.YtjddaneafmdeeaaCxRefW
namespace Go.Proofs.Ytjddaneafmdeeaa
open Go.RowKit

set_option maxHeartbeats 2000000 in
theorem xtells_any (v : Value) (xs : List Nat) (i c : Int) (w : World) (h : RdB w v xs) (hx : ∀ x ∈ xs, x < 256) (hr : RoomOk v) (hi : -9223372036854775808 ≤ i ∧ i ≤ 9223372036854775807) (hcb : -9223372036854775808 ≤ c ∧ c ≤ 9223372036854775807) :
    Calls Try.prog 3 #[v, .int .i64 i, .int .i64 c] w fun e w' => Says w e w' := by
  obtain ⟨ao, cap, rfl⟩ := h.form
  have H := Lib.hid h; have HX := Lib.hid hx; have HR := Lib.hid hr; have HI := Lib.hid hi; have HCB := Lib.hid hcb
  clear h hx hr hi hcb
  by_cases hbig : 100 < xs.length
  · have hb' : decide (100 < (xs.length : Int)) = true := by simp; omega
    go_enter Try.func3, Try.ntmps3
    go_wp2_with fail
    refine (awake6_any w).mono ?_
    rintro e w1 ⟨rfl, hc1⟩
    go_wp2
    go_ret
    exact ⟨rfl, hc1⟩
  have hb' : decide (100 < (xs.length : Int)) = false := by simp; omega
  have hl : xs.length < 10000000000 := by omega
  have hpl : (pres xs).length < 100000000000 := by have := presTo_length xs 256; unfold pres; omega
  have HPL := Lib.hid hpl
  obtain ⟨P, hP⟩ : ∃ P, pres xs = P := ⟨_, rfl⟩
  obtain ⟨W, hW⟩ : ∃ W, widest xs = W := ⟨_, rfl⟩
  obtain ⟨A, hA⟩ : ∃ A, atI xs i = A := ⟨_, rfl⟩
  obtain ⟨F, hF⟩ : ∃ F, cnt (sel xs c) = F := ⟨_, rfl⟩
  have hfl : F.length < 100000000000 := by rw [← hF, cnt_length]; omega
  rw [hP] at HPL
  have HP := Lib.hid hP; have HW := Lib.hid hW; have HA := Lib.hid hA; have HF := Lib.hid hF; have HFL := Lib.hid hfl
  clear hpl hP hW hA hF hfl
  go_enter Try.func3, Try.ntmps3
  go_wp2_with fail
  refine (awake6_any w).mono ?_
  rintro e w1 ⟨rfl, hc1⟩
  go_wp2_with fail
  refine (xat_c _ xs i w1 (H.out.kept hc1 (by simp)) HX.out hl HI.out).mono ?_
  rintro e w2 ⟨rfl, hc2⟩
  rw [HA.out]
  have q2 := hc1.trans hc2 (fun _ _ h => h)
  clear hc1 hc2
  go_wp2_with fail
  refine (r6at_any _ xs i w2 (H.out.kept q2 (by simp)) HX.out hl HI.out).mono ?_
  rintro e w3 ⟨rfl, hc3⟩
  rw [HA.out]
  have q3 := q2.trans hc3 (fun _ _ h => h)
  clear q2 hc3
  go_wp2_with fail
  refine (xfor_any _ xs c w3 (H.out.kept q3 (by simp)) HX.out hl HCB.out).mono ?_
  rintro e w4 ⟨v4, rfl, ho4, hc4⟩
  rw [HF.out] at ho4
  have q4 := q3.trans hc4 (fun _ _ h => h)
  clear q3 hc4
  go_wp2_with fail
  refine (r6for_any _ xs c w4 (H.out.kept q4 (by simp)) HX.out hl).mono ?_
  rintro e w5 ⟨v5, rfl, ho5, hc5⟩
  rw [HF.out] at ho5
  have o4 := ho4.kept hc5 (by simp)
  have q5 := q4.trans hc5 (fun _ _ h => h)
  clear q4 hc5 ho4
  go_wp2_with fail
  refine (ints_c _ _ F F w5 o4.rd ho5.rd HFL.out HFL.out).mono ?_
  rintro e w6 ⟨rfl, hc6⟩
  rw [decide_eq_true rfl]
  have q6 := q5.trans hc6 (fun _ _ h => h)
  clear q5 hc6 o4 ho5
  go_wp2_with fail
  refine (xpresent_any _ xs w6 (H.out.kept q6 (by simp)) HX.out hl HR.out).mono ?_
  rintro e w7 ⟨v7, rfl, ho7, hc7⟩
  rw [HP.out] at ho7
  have q7 := q6.trans hc7 (fun _ _ h => h)
  clear q6 hc7
  go_wp2_with fail
  refine (r6present_any _ xs w7 (H.out.kept q7 (by simp)) HX.out hl).mono ?_
  rintro e w8 ⟨v8, rfl, ho8, hc8⟩
  rw [HP.out] at ho8
  have o7 := ho7.kept hc8 (by simp)
  have q8 := q7.trans hc8 (fun _ _ h => h)
  clear q7 hc8 ho7
  go_wp2_with fail
  refine (ints_c _ _ P P w8 o7 ho8 HPL.out HPL.out).mono ?_
  rintro e w9 ⟨rfl, hc9⟩
  rw [decide_eq_true rfl]
  have q9 := q8.trans hc9 (fun _ _ h => h)
  clear q8 hc9 o7 ho8
  go_wp2_with fail
  refine (xwidest_any _ xs w9 (H.out.kept q9 (by simp)) HX.out (by omega)).mono ?_
  rintro e w10 ⟨rfl, hc10⟩
  rw [HW.out]
  have q10 := q9.trans hc10 (fun _ _ h => h)
  clear q9 hc10
  go_wp2_with fail
  refine (r6widest_any _ xs w10 (H.out.kept q10 (by simp)) HX.out hl).mono ?_
  rintro e w11 ⟨rfl, hc11⟩
  rw [HW.out]
  have q11 := q10.trans hc11 (fun _ _ h => h)
  clear q10 hc11
  go_wp2
  go_ret
  exact ⟨rfl, q11⟩

end Go.Proofs.Ytjddaneafmdeeaa
