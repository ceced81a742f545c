/- HeaderBack's walk. -/
import Derived.Test.YtllkfmnofklpmaaHdCost
import Derived.Test.YtllkfmnofklpmaaHdTakes
import Derived.Test.YtllkfmnofklpmaaBase3
import Derived.Test.YtllkfmnofklpmaaApBytes
namespace Go.Proofs.Ytllkfmnofklpmaa
open Go.RowKit

set_option maxRecDepth 20000 in
set_option maxHeartbeats 4000000 in
theorem headerBack_walk (v u : Value) (xs ms : List Nat) (r : Nat) (w : World) (h : RdH w v xs) (hx : ∀ x ∈ xs, x < 65536) (hr : r < 256) (hu : RdB w u ms) (hms : ∀ y ∈ ms, y < 256) :
    Calls Try.prog 5 #[v, .int .u8 (r : Int), u] w fun e w' => e = .returned (.bool true) ∧ Chg (fun _ => False) w w' := by
  obtain ⟨ao, cap, rfl⟩ := h.form
  obtain ⟨au, capu, rfl⟩ := hu.form
  have H := Lib.hid h; have HX := Lib.hid hx; have HU := Lib.hid hu; have HMS := Lib.hid hms
  clear h hx hu hms
  by_cases h80 : 80 < xs.length
  · have d3 : decide (80 < (xs.length : Int)) = true := decide_eq_true (by omega)
    go_enter Try.func5, Try.ntmps5
    go_wp2_with fail
    refine (awake15_any _).mono ?_
    rintro e w1 ⟨rfl, hc⟩
    go_wp2
    go_ret
    exact ⟨rfl, hc⟩
  have d3 : decide (80 < (xs.length : Int)) = false := decide_eq_false (by omega)
  by_cases h60 : 60 < ms.length
  · have d4 : decide (60 < (ms.length : Int)) = true := decide_eq_true (by omega)
    go_enter Try.func5, Try.ntmps5
    go_wp2_with fail
    refine (awake15_any _).mono ?_
    rintro e w1 ⟨rfl, hc⟩
    go_wp2
    go_ret
    exact ⟨rfl, hc⟩
  have d4 : decide (60 < (ms.length : Int)) = false := decide_eq_false (by omega)
  go_enter Try.func5, Try.ntmps5
  go_wp2_with fail
  refine (awake15_any _).mono ?_
  rintro e w1 ⟨rfl, hc⟩
  have C1 := Lib.hid hc
  clear hc
  go_wp2_with fail
  refine (r8some_room _ xs r _ (H.out.kept C1.out (by simp)) HX.out (by omega) hr).mono ?_
  rintro e w2 ⟨v2, q, k, rfl, ho, hq, hk5, hk9, hc2, hrm⟩
  have HRM := Lib.hid hrm
  clear hrm
  have C2 := Lib.hid (C1.out.next hc2)
  have RQ2 := Lib.hid ho.rd
  have HQ := Lib.hid hq; have HBD := Lib.hid hq.bnd; have HQL := Lib.hid (show q.length < 100000000000 by rw [hq.1]; omega)
  have HOB := Lib.hid (show ∀ j, v2.ownBlock = some j → j < w2.heap.size by
    obtain ⟨g, off, cp, rfl, -, hl, -⟩ := ho
    intro j hj
    have : g = j := by simpa [Value.ownBlock] using hj
    omega)
  have hk64 : (k : Int) ≤ 9 := by omega
  clear ho hq hc2 C1
  go_wp2_with fail
  refine (new_wr w2).mono ?_
  rintro e w3 ⟨rfl, hw3, hc3⟩
  obtain ⟨b, hb⟩ : ∃ b, w2.heap.size = b := ⟨_, rfl⟩
  rw [hb] at hw3 ⊢
  have C3 := Lib.hid (C2.out.next hc3)
  have HW2 := Lib.hid hb
  have HBW := Lib.hid (show w.heap.size ≤ b by have := C2.out.size; omega)
  have AB := Lib.hid (show Above w.heap.size b none from ⟨HBW.out, by simp⟩)
  have NE := Lib.hid (show ∀ j, v2.ownBlock = some j → ¬ (j = b ∨ some j = (none : Option Nat)) from fun j hj => by have := HOB.out j hj; simp; omega)
  have RQ3 := Lib.hid (RQ2.out.kept hc3 (by simp))
  have PUT := Lib.hid (hdput_any b none [] v2 q w3 hw3 (by simp) RQ3.out HRM.out (fun _ => NE.out) HBD.out HQL.out)
  rw [decide_eq_true (show logI (totalI q) ≠ 0 by rw [HQ.out.log]; omega), List.nil_append] at PUT
  have hcost := hdBits_length q
  have BK := Lib.hid fun zs (hc : atBits zs 0 (hdBits q)) => hd_back HQ.out hc
  have OT := Lib.hid fun zs => hd_other HQ.out (by omega) zs
  obtain ⟨A, hA⟩ : ∃ A, hdBits q = A := ⟨_, rfl⟩
  rw [hA] at PUT hcost BK
  have HAL := Lib.hid hcost
  clear hw3 hc3 hb hA hcost RQ2 C2
  go_wp2_with fail
  refine (PUT.out).mono ?_
  rintro e w4 ⟨rfl, o4, hw4, hc4, ho4⟩
  have C4 := Lib.hid (C3.out.up hc4 AB.out); have W4 := Lib.hid hw4; have RQ4 := Lib.hid (RQ3.out.kept hc4 NE.out)
  have WL4 := Lib.hid hw4.lt
  clear hw4 hc4 ho4 PUT C3 RQ3
  have hXb := BK.out (pack A ++ ms) ⟨_, by rw [List.drop_zero, bits_pack_more]⟩
  have hXo := OT.out (pack A ++ ms)
  have hXl := hdRes_len (pack A ++ ms) 0 ((k + 1 : Nat) : Int)
  have HCL := Lib.hid (clear_pack A ms); have HDR := Lib.hid (drop_pack A ms)
  have HXS := Lib.hid (show ∀ x ∈ pack A ++ ms, x < 256 from fun x hx => by
    rcases List.mem_append.1 hx with hx | hx
    · exact pack_lt A x hx
    · exact HMS.out x hx)
  have HPL := Lib.hid (show (pack A).length + ms.length < 100000000000 by rw [pack_length]; have := HAL.out; omega)
  have HXL := Lib.hid (show (pack A ++ ms).length < 100000000000 by rw [List.length_append]; exact HPL.out)
  have BY := Lib.hid fun W (hW : Wr W b o4 A) => bytes_any b o4 A W hW (by have := HAL.out; omega)
  obtain ⟨Y, hY⟩ : ∃ Y, pack A = Y := ⟨_, rfl⟩
  simp only [hY] at hXb hXo hXl HCL HDR HXS HPL HXL
  have HYE := Lib.hid hY
  clear hY BK OT
  go_wp2_with fail
  refine (BY.out w4 W4.out).mono ?_
  rintro e w5 ⟨g5, cap5, rfl, r5, hc5⟩
  rw [HYE.out] at r5 ⊢
  have C5 := Lib.hid (C4.out.next hc5); have S5 := Lib.hid hc5.size; have C45 := Lib.hid hc5
  have HG5 := Lib.hid (r5.lt g5 rfl)
  clear hc5
  go_wp2_with (at_builtin; refine wpList_append_bytes rfl (.tmp 42) (.tmp 43) rfl w4.heap.size _ Y rfl r5 _ ms rfl (HU.out.kept C5.out (by simp)) S5.out HPL.out ?_)
  intro v6 w6 r6 hc6
  have D6 := Lib.hid (C45.out.trans hc6 (S := fun _ => False) (fun j hj hh => by
    have : j = g5 := by simpa [Value.ownBlock] using hh
    have := HG5.out.1; omega))
  have C6 := Lib.hid (C4.out.next D6.out); have W6 := Lib.hid (W4.out.kept D6.out (by simp) (by simp)); have RQ6 := Lib.hid (RQ4.out.kept D6.out (by simp)); have S6 := Lib.hid D6.out.size
  have NW6 := Lib.hid (fnew_any v6 (Y ++ ms) w6 (RdB.of_own r6) HXL.out HXS.out)
  clear r5 r6 hc6 C5 C45 D6 W4 RQ4 C4
  go_wp2_with fail
  refine (NW6.out).mono ?_
  rintro e w7 ⟨bx, ox, rfl, x7, ab7, hc7⟩
  have C7 := Lib.hid (C6.out.next hc7); have W7 := Lib.hid (W6.out.kept hc7 (by simp) (by simp)); have RQ7 := Lib.hid (RQ6.out.kept hc7 (by simp)); have X7 := Lib.hid x7
  have HBX := Lib.hid (show w4.heap.size ≤ bx by have := ab7.1; have := S6.out; omega)
  have XL := Lib.hid x7.lt
  clear x7 ab7 hc7 NW6 C6 W6 RQ6
  go_wp2_with fail
  refine (BY.out w7 W7.out).mono ?_
  rintro e w8 ⟨g8, cap8, rfl, r8, hc8⟩
  rw [HYE.out] at r8 ⊢
  have C8 := Lib.hid (C7.out.next hc8); have S8 := Lib.hid hc8.size; have C78 := Lib.hid hc8
  have HG8 := Lib.hid (r8.lt g8 rfl)
  clear hc8
  go_wp2_with (at_builtin; refine wpList_append_bytes rfl (.tmp 47) (.tmp 48) rfl w7.heap.size _ Y rfl r8 _ ms rfl (HU.out.kept C8.out (by simp)) S8.out HPL.out ?_)
  intro v9 w9 r9 hc9
  have D9 := Lib.hid (C78.out.trans hc9 (S := fun _ => False) (fun j hj hh => by
    have : j = g8 := by simpa [Value.ownBlock] using hh
    have := HG8.out.1; omega))
  have C9 := Lib.hid (C7.out.next D9.out); have RQ9 := Lib.hid (RQ7.out.kept D9.out (by simp)); have X9 := Lib.hid (X7.out.kept D9.out (by simp) (by simp)); have S9 := Lib.hid D9.out.size
  have NW9 := Lib.hid (fnew_any v9 (Y ++ ms) w9 (RdB.of_own r9) HXL.out HXS.out)
  clear r8 r9 hc9 C8 C78 D9 W7 RQ7 X7 C7
  go_wp2_with fail
  refine (NW9.out).mono ?_
  rintro e w10 ⟨by', oy, rfl, y10, ab10, hc10⟩
  have C10 := Lib.hid (C9.out.next hc10); have RQ10 := Lib.hid (RQ9.out.kept hc10 (by simp)); have X10 := Lib.hid (X9.out.kept hc10 (by simp) (by simp)); have Y10 := Lib.hid y10
  have HXY := Lib.hid (show bx < by' ∧ (∀ j, ox = some j → j < by') ∧ (∀ j, oy = some j → bx < j) ∧ w.heap.size ≤ bx ∧ w.heap.size ≤ by' from ⟨by have := ab10.1; have := S9.out; have := XL.out.1; omega, fun j hj => by have := ab10.1; have := S9.out; have := (XL.out.2 j hj).1; omega, fun j hj => by have := ab10.2 j hj; have := S9.out; have := XL.out.1; omega, by have := HBX.out; have := WL4.out.1; have := HBW.out; omega, by have := ab10.1; have := C9.out.size; omega⟩)
  have HVQ := Lib.hid (show ∀ j, v2.ownBlock = some j → j < bx ∧ j < by' from fun j hj => by have := HOB.out j hj; have := HW2.out; have := WL4.out.1; have := HBX.out; have := HXY.out.1; omega)
  clear y10 ab10 hc10 NW9 C9 RQ9 X9
  have TX := Lib.hid (hdtake_any bx ox (Y ++ ms) 0 (k : Int) w10 X10.out (by omega))
  rw [hXb] at TX
  have TY := Lib.hid fun W (hW : Rf W by' oy (Y ++ ms) 0) => hdtake_any by' oy (Y ++ ms) 0 ((k + 1 : Nat) : Int) W hW (by omega)
  obtain ⟨R, hR⟩ : ∃ R, hdRes (Y ++ ms) 0 ((k + 1 : Nat) : Int) = R := ⟨_, rfl⟩
  rw [hR] at TY hXo hXl
  obtain ⟨Q2, e2, p2⟩ := R
  simp only [Nat.zero_add] at TX TY hXo hXl
  have HXO := Lib.hid hXo; have HXL2 := Lib.hid hXl
  obtain ⟨k1, hk1⟩ : ∃ k1, k + 1 = k1 := ⟨_, rfl⟩
  have hk1I : (k : Int) + 1 = (k1 : Int) := by omega
  rw [hk1] at TY
  clear hR hXo hXl hXb X10
  go_wp2_with fail
  refine (TX.out).mono ?_
  rintro e w11 ⟨v11, rfl, q11, f11, -, x11, hc11⟩
  have C11 := Lib.hid (C10.out.trans hc11 (S := fun _ => False) (fun j hj (hh : j = bx) => by have := HXY.out.2.2.2.1; omega))
  have Y11 := Lib.hid (Y10.out.kept hc11 (fun (hh : by' = bx) => by have := HXY.out.1; omega) (fun j hj (hh : j = bx) => by have := HXY.out.2.2.1 j hj; omega))
  have RQ11 := Lib.hid (RQ10.out.kept hc11 (fun j hj (hh : j = bx) => by have := (HVQ.out j hj).1; omega))
  have F11 := Lib.hid (show ∀ j, v11.ownBlock = some j → bx < j ∧ by' < j from fun j hj => by have := f11 j hj; have := Y10.out.lt.1; have := HXY.out.1; omega)
  have Q11 := Lib.hid q11; have X11 := Lib.hid x11
  clear q11 f11 x11 hc11 TX C10 Y10 RQ10
  go_wp2_with fail
  refine (TY.out w11 Y11.out).mono ?_
  rintro e w12 ⟨v12, rfl, q12, f12, -, -, hc12⟩
  have C12 := Lib.hid (C11.out.trans hc12 (S := fun _ => False) (fun j hj (hh : j = by') => by have := HXY.out.2.2.2.2; omega))
  have X12 := Lib.hid (X11.out.kept hc12 (fun (hh : bx = by') => by have := HXY.out.1; omega) (fun j hj (hh : j = by') => by have := HXY.out.2.1 j hj; omega))
  have RQ12 := Lib.hid (RQ11.out.kept hc12 (fun j hj (hh : j = by') => by have := (HVQ.out j hj).2; omega))
  have P12 := Lib.hid (Q11.out.kept hc12 (fun j hj (hh : j = by') => by have := (F11.out j hj).2; omega))
  have F12 := Lib.hid (show ∀ j, v12.ownBlock = some j → bx < j from fun j hj => by have := f12 j hj; have := X11.out.lt.1; omega)
  have O12 := Lib.hid q12
  clear q12 f12 hc12 TY C11 Y11 RQ11 X11 Q11
  go_wp2_with fail
  refine (fpad_any bx ox (Y ++ ms) A.length w12 X12.out).mono ?_
  rintro e w13 (⟨-, rfl, x13, hc13⟩ | ⟨hno, -, -⟩)
  · have C13 := Lib.hid (C12.out.trans hc13 (S := fun _ => False) (fun j hj (hh : j = bx) => by have := HXY.out.2.2.2.1; omega))
    have RQ13 := Lib.hid (RQ12.out.kept hc13 (fun j hj (hh : j = bx) => by have := (HVQ.out j hj).1; omega))
    have P13 := Lib.hid (P12.out.kept hc13 (fun j hj (hh : j = bx) => by have := (F11.out j hj).1; omega))
    have O13 := Lib.hid (O12.out.kept hc13 (fun j hj (hh : j = bx) => by have := F12.out j hj; omega))
    have X13 := Lib.hid x13
    clear x13 hc13 C12 RQ12 P12 O12 X12
    have IN := Lib.hid (ints_any v11 v2 q q w13 P13.out RQ13.out HQL.out HQL.out)
    rw [decide_eq_true (rfl : q = q)] at IN
    go_wp2_with fail
    refine (IN.out).mono ?_
    rintro e w14 ⟨rfl, m14, rfl⟩
    have c14 : Chg (fun _ => False) w13 (w13.drewN m14) := (Chg.refl _ _).drewN m14
    obtain ⟨w14, hw14⟩ : ∃ w14, w13.drewN m14 = w14 := ⟨_, rfl⟩
    rw [hw14] at c14 ⊢
    have C14 := Lib.hid (C13.out.next c14); have RQ14 := Lib.hid (RQ13.out.kept c14 (by simp)); have O14 := Lib.hid (O13.out.kept c14 (by simp)); have X14 := Lib.hid (X13.out.kept c14 (by simp) (by simp))
    clear c14 hw14 IN C13 RQ13 O13 X13 P13
    go_wp2_with fail
    refine (frest_q bx ox (Y ++ ms) _ ((A.length + 7) / 8) w14 X14.out (by omega)).mono ?_
    rintro e w15 ⟨v15, rfl, r15, hc15⟩
    rw [HDR.out] at r15
    have C15 := Lib.hid (C14.out.next hc15); have RQ15 := Lib.hid (RQ14.out.kept hc15 (by simp)); have O15 := Lib.hid (O14.out.kept hc15 (by simp))
    have SM := Lib.hid (same_eq v15 _ ms w15 r15 (HU.out.kept C15.out (by simp)) HMS.out)
    clear r15 hc15 C14 RQ14 O14 X14
    go_wp2_with fail
    refine (SM.out).mono ?_
    rintro e w16 ⟨rfl, rfl⟩
    have IN := Lib.hid (ints_any v12 v2 Q2 q w15 O15.out RQ15.out HXL2.out HQL.out)
    rw [decide_eq_false HXO.out] at IN
    go_wp2_with fail
    refine (IN.out).mono ?_
    rintro e w17 ⟨rfl, m17, rfl⟩
    go_wp2
    go_ret
    exact ⟨rfl, C15.out.drewN m17⟩
  · exact absurd HCL.out hno

end Go.Proofs.Ytllkfmnofklpmaa
