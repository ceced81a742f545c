/- The walk of CtxWidest. -/
import Derived.Test.YtjddaneafmdeeaaCxAwake
import Derived.Test.YtjddaneafmdeeaaHsAwake
namespace Go.Proofs.Ytjddaneafmdeeaa
open Go.RowKit

set_option maxHeartbeats 2000000 in
theorem xwid_any (v : Value) (xs : List Nat) (c : Nat) (w : World) (h : RdB w v xs) (hx : ∀ x ∈ xs, x < 256) (hc8 : c < 256) :
    Calls Try.prog 6 #[v, .int .u8 (c : Int)] w fun e w' => Says w e w' := by
  obtain ⟨ao, cap, rfl⟩ := h.form
  have H := Lib.hid h; have HX := Lib.hid hx
  clear h hx
  by_cases hbig : 100 < xs.length
  · have hb' : decide (100 < (xs.length : Int)) = true := by simp; omega
    go_enter Try.func6, Try.ntmps6
    go_wp2_with fail
    refine (awake6_any w).mono ?_
    rintro e w1 ⟨rfl, hc1⟩
    go_wp2
    go_ret
    exact ⟨rfl, hc1⟩
  have hb' : decide (100 < (xs.length : Int)) = false := by simp; omega
  have hl : xs.length < 10000000000 := by omega
  have h1 := wid_ge xs 256 c hc8
  have h2 := widest_top xs HX.out (by omega)
  have h3 := widest_pos xs HX.out (by omega)
  have h4 := manyI_le (cnt xs)
  rw [show wid xs 256 = widest xs from rfl] at h1
  have hs := sel_len xs (c : Int)
  have HB1 := Lib.hid (cnt_bounds (sel xs (c : Int)) (by omega))
  have HB2 := Lib.hid (cnt_bounds xs (by omega))
  obtain ⟨W, hW⟩ : ∃ W, widest xs = W := ⟨_, rfl⟩
  obtain ⟨A, hA⟩ : ∃ A, manyI (cnt (sel xs (c : Int))) = A := ⟨_, rfl⟩
  obtain ⟨B, hB⟩ : ∃ B, manyI (cnt xs) = B := ⟨_, rfl⟩
  rw [hW] at h1 h2 h3
  rw [hA] at h1
  rw [hB] at h2 h4
  have HW := Lib.hid hW; have HA := Lib.hid hA; have HBB := Lib.hid hB
  have d1 : decide ((A : Int) ≤ (W : Int)) = true := by simp; omega
  have d2 : decide ((W : Int) ≤ (B : Int)) = true := by simp; omega
  have H3 := Lib.hid h3
  clear hW hA hB h3 h4 hs d1 d2
  go_enter Try.func6, Try.ntmps6
  go_wp2_with fail
  refine (awake6_any w).mono ?_
  rintro e w1 ⟨rfl, q1⟩
  go_wp2_with fail
  refine (xwidest_any _ xs w1 (H.out.kept q1 (by simp)) HX.out (by omega)).mono ?_
  rintro e w2 ⟨rfl, hc2⟩
  rw [HW.out]
  have q2 := q1.trans hc2 (fun _ _ h => h)
  clear q1 hc2
  go_wp2_with fail
  refine (xfor_any _ xs (c : Int) w2 (H.out.kept q2 (by simp)) HX.out hl (by omega)).mono ?_
  rintro e w3 ⟨v3, rfl, ho3, hc3⟩
  have q3 := q2.trans hc3 (fun _ _ h => h)
  clear q2 hc3
  go_wp2_with fail
  refine (hmany_c _ _ w3 ho3.rd HB1.out (by rw [cnt_length]; omega)).mono ?_
  rintro e w4 ⟨rfl, hc4⟩
  rw [HA.out]
  have q4 := q3.trans hc4 (fun _ _ h => h)
  clear q3 hc4 ho3
  go_wp2_with fail
  refine (hof_any _ xs w4 (H.out.kept q4 (by simp)) HX.out (by omega)).mono ?_
  rintro e w5 ⟨v5, rfl, ho5, hc5⟩
  have q5 := q4.trans hc5 (fun _ _ h => h)
  clear q4 hc5
  go_wp2_with fail
  refine (hmany_c _ _ w5 ho5.rd HB2.out (by rw [cnt_length]; omega)).mono ?_
  rintro e w6 ⟨rfl, hc6⟩
  rw [HBB.out]
  have q6 := q5.trans hc6 (fun _ _ h => h)
  clear q5 hc6 ho5
  have h3 := H3.out
  by_cases hpos : 0 < xs.length
  · have e1 : 0 < W := h3.2 hpos
    have e2 : decide (0 < (xs.length : Int)) = true := by simp; omega
    clear h3 H3
    go_wp2
    go_ret
    exact ⟨rfl, q6⟩
  · have hW0 : W = 0 := by
      have : ¬ 0 < W := fun h => hpos (h3.1 h)
      omega
    subst hW0
    obtain rfl : xs = [] := List.eq_nil_of_length_eq_zero (by omega)
    clear h3 H3
    go_wp2
    go_ret
    exact ⟨rfl, q6⟩

end Go.Proofs.Ytjddaneafmdeeaa
