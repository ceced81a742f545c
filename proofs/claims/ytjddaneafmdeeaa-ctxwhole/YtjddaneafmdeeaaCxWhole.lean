/- The walk of CtxWhole. -/
import Derived.Test.YtjddaneafmdeeaaCxAwake
import Derived.Test.YtjddaneafmdeeaaCxMathB
import Derived.Test.YtjddaneafmdeeaaHsAwake
import Derived.Test.YtjddaneafmdeeaaHsAdd
namespace Go.Proofs.Ytjddaneafmdeeaa
open Go.RowKit

set_option maxHeartbeats 2000000 in
set_option maxRecDepth 100000 in
theorem xwhole_any (v : Value) (xs : List Nat) (w : World) (h : RdB w v xs) (hx : ∀ x ∈ xs, x < 256) (hr : RoomOk v) :
    Calls Try.prog 4 #[v] w fun e w' => Says w e w' := by
  obtain ⟨ao, cap, rfl⟩ := h.form
  have H := Lib.hid h; have HX := Lib.hid hx; have HR := Lib.hid hr
  clear h hx hr
  by_cases hbig : 100 < xs.length
  · have hb' : decide (100 < (xs.length : Int)) = true := by simp; omega
    go_enter Try.func4, Try.ntmps4
    go_wp2_with fail
    refine (awake6_any w).mono ?_
    rintro e w1 ⟨rfl, hc1⟩
    go_wp2
    go_ret
    exact ⟨rfl, hc1⟩
  have hb' : decide (100 < (xs.length : Int)) = false := by simp; omega
  have hl : xs.length < 10000000000 := by omega
  have HL := Lib.hid (show xs.length ≤ 1000 by omega)
  have hpl : (pres xs).length ≤ 256 := by have := presTo_length xs 256; unfold pres; omega
  have HPL := Lib.hid hpl
  obtain ⟨p, hp⟩ : ∃ p, (pres xs).length = p := ⟨_, rfl⟩
  rw [hp] at hpl
  have HP := Lib.hid hp
  have hp2 : (p : Int) ≤ 256 := by omega
  clear hpl hp
  go_enter Try.func4, Try.ntmps4
  go_wp2_with fail
  refine (awake6_any w).mono ?_
  rintro e w1 ⟨rfl, q1⟩
  go_wp2_with (at_make; refine wpList_make_ints rfl _ _ rfl 256 256 256 rfl rfl rfl rfl (by omega) (cnt (selL xs ((pres xs).take 0))) (by rw [List.take_zero, selL_nil, cnt_nil]) ?_)
  intro w2 h2 hc2
  have q2 := q1.trans hc2 (fun _ _ h => h)
  have s2 := h2.rd 256
  rw [cnt_length] at s2
  clear q1 hc2 h2
  go_wp2_with fail
  refine (xpresent_any _ xs w2 (H.out.kept q2 (by simp)) HX.out hl HR.out).mono ?_
  rintro e w3 ⟨v3, rfl, ho3, hc3⟩
  obtain ⟨ap, capp, rfl⟩ := ho3.form
  rw [HP.out] at ho3 ⊢
  have q3 := q2.trans hc3 (fun _ _ h => h)
  have S3 := Lib.hid (s2.kept hc3 (by simp)); have Q3 := Lib.hid q3; have P3 := Lib.hid ho3
  clear q2 hc3 s2 ho3 q3
  go_wp2
  go_loopw [4, 6] (fun o4 o6 wr => ∃ (i : Nat) (vs : Value), i ≤ p ∧ o6 = .int .i64 (i : Int) ∧ vs = o4 ∧ RdI wr vs (cnt (selL xs ((pres xs).take i))) ∧ RdI wr (.slice ap p capp) (pres xs) ∧ Chg (fun _ => False) w wr) (fun _ o6 _ => p - (intOf o6).toNat)
  case atStart => exact ⟨0, _, Nat.zero_le _, rfl, rfl, S3.out, P3.out, Q3.out⟩
  case round =>
    obtain ⟨i, vs, hi, rfl, rfl, hs, hpr, hc⟩ := hrel
    clear S3 P3 Q3
    by_cases hlt : i < p
    · have hip : i < (pres xs).length := by rw [HP.out]; exact hlt
      obtain ⟨g, off, rfl, hcell⟩ := hpr.at i hip
      have hrg := pres_range xs i hip
      have hws := whole_step xs i hip
      have hok := whole_ok xs HX.out HL.out ((pres xs).take i) ((pres xs).getD i 0)
      have hsm := whole_some xs HX.out HL.out i hip
      have hstep := fun h0 => pres_step xs i h0 hip
      have hcell0 : 0 < i → wr.cell? ⟨g, off + (i - 1), none⟩ = some (.int .i64 ((pres xs).getD (i - 1) 0)) := fun h0 => by
        obtain ⟨g', off', he, hc'⟩ := hpr.at (i - 1) (by omega)
        simp only [Option.some.injEq, Addr.mk.injEq] at he
        obtain ⟨rfl, rfl, -⟩ := he
        exact hc'
      have hb1 := cnt_bounds (selL xs ((pres xs).take i)) (by have := (selL_sub xs ((pres xs).take i)).length_le; omega)
      have hb2 := cnt_bounds (sel xs ((pres xs).getD i 0)) (by have := sel_len xs ((pres xs).getD i 0); omega)
      have hl1 : (cnt (selL xs ((pres xs).take i))).length < 100000000000 := by rw [cnt_length]; omega
      have hl2 : (cnt (sel xs ((pres xs).getD i 0))).length < 100000000000 := by rw [cnt_length]; omega
      obtain ⟨c, hce⟩ : ∃ c, (pres xs).getD i 0 = c := ⟨_, rfl⟩
      rw [hce] at hcell hrg hws hok hsm hb2 hl2 hstep
      obtain ⟨c0, hc0e⟩ : ∃ c0, (pres xs).getD (i - 1) 0 = c0 := ⟨_, rfl⟩
      rw [hc0e] at hcell0 hstep
      obtain ⟨A, hA⟩ : ∃ A, cnt (selL xs ((pres xs).take i)) = A := ⟨_, rfl⟩
      obtain ⟨B, hB⟩ : ∃ B, cnt (sel xs c) = B := ⟨_, rfl⟩
      rw [hA] at hs hws hok hb1 hl1
      rw [hB] at hws hok hsm hb2 hl2
      obtain ⟨t, ht⟩ : ∃ t, totalI B = t := ⟨_, rfl⟩
      rw [ht] at hsm
      have HS := Lib.hid hs; have HPR := Lib.hid hpr; have HC := Lib.hid hc; have HWS := Lib.hid hws; have HOK := Lib.hid hok; have HSM := Lib.hid hsm
      have HB1 := Lib.hid hb1; have HB2 := Lib.hid hb2; have HL1 := Lib.hid hl1; have HL2 := Lib.hid hl2; have HBE := Lib.hid hB; have HT := Lib.hid ht
      have HSTEP := Lib.hid hstep; have HCELL0 := Lib.hid hcell0; have HCELL := Lib.hid hcell; have HRG := Lib.hid hrg
      clear hs hpr hc hws hok hsm hb1 hb2 hl1 hl2 hB ht hstep hcell0 hce hc0e hA hrg
      go_wp2_with fail
      refine (xfor_any _ xs c wr (H.out.kept HC.out (by simp)) HX.out hl (by have := HRG.out; omega)).mono ?_
      rintro e w4 ⟨v4, rfl, ho4, hc4⟩
      rw [HBE.out] at ho4
      obtain ⟨a4, cap4, rfl⟩ := ho4.rd.form
      have R4 := Lib.hid ho4.rd; have S4 := Lib.hid (HS.out.kept hc4 (by simp)); have P4 := Lib.hid (HPR.out.kept hc4 (by simp)); have Q4 := Lib.hid (HC.out.trans hc4 (fun _ _ h => h))
      have C4 := Lib.hid hc4
      clear HS HPR HC hc4 ho4 hcell
      go_wp2_with fail
      refine (hadd_any _ _ A B w4 S4.out HB1.out HL1.out R4.out HB2.out HL2.out).mono ?_
      rintro e w5 ⟨v5, rfl, hyes, -, hc5⟩
      rw [decide_eq_true HOK.out]
      have S5 := Lib.hid (hyes HOK.out).rd; have R5 := Lib.hid (R4.out.kept hc5 (by simp)); have P5 := Lib.hid (P4.out.kept hc5 (by simp)); have Q5 := Lib.hid (Q4.out.trans hc5 (fun _ _ h => h))
      have C5 := C4.out.trans hc5 (fun _ _ h => h)
      have hg : g < wr.heap.size := block_lt_of_cell HCELL.out
      have k1 : w5.cell? ⟨g, off + i, none⟩ = some (.int .i64 c) := by rw [World.cell?_of_block (w := wr) (C5.block g hg (by simp))]; exact HCELL.out
      have k0 : 0 < i → w5.cell? ⟨g, off + (i - 1), none⟩ = some (.int .i64 c0) := fun h0 => by rw [World.cell?_of_block (w := wr) (C5.block g hg (by simp))]; exact HCELL0.out h0
      clear S4 R4 P4 Q4 C4 C5 hc5 hyes HCELL HCELL0 hg
      have HTQ : Hid (∀ m : Nat, Calls Try.prog 19 #[.slice a4 B.length cap4] (w5.drewN m) fun e w' => e = .returned (.int .i64 t) ∧ ∃ m', w' = (w5.drewN m).drewN m') :=
        Lib.hid fun m => by rw [← HT.out]; exact htotal_any _ B (w5.drewN m) (R5.out.kept ((Chg.refl (fun _ => False) w5).drewN m) (by simp)) HB2.out HL2.out
      have d1 : decide (t < 1) = false := by have := HSM.out.1; simp; omega
      by_cases h0 : 0 < i
      · obtain ⟨j, rfl⟩ : ∃ j, i = j + 1 := ⟨i - 1, by omega⟩
        have d2 : decide (0 < (((j + 1 : Nat)) : Int)) = true := by simp
        have k0' := k0 h0
        rw [Nat.add_sub_cancel] at k0'
        have hst := HSTEP.out h0
        have d3 : decide (c ≤ c0) = false := by simp; omega
        have hjp : j < p := by omega
        clear k0 hst
        go_wp2
        go_quiet (first | (go_at_call 19; with_reducible exact Calls.quiet_of (HTQ.out _)))
        go_wp2
        go_roundw
        case rel => exact ⟨j + 1 + 1, _, by omega, by go_num, rfl, by rw [HWS.out]; exact S5.out.kept ((Chg.refl (fun _ => False) w5).drewN _) (by simp), P5.out.kept ((Chg.refl (fun _ => False) w5).drewN _) (by simp), Q5.out.drewN _⟩
        case measure => simp [intOf]; omega
      · have d2 : decide (0 < (i : Int)) = false := by simp; omega
        obtain rfl : i = 0 := by omega
        clear k0
        go_wp2
        go_quiet (first | (go_at_call 19; with_reducible exact Calls.quiet_of (HTQ.out _)))
        go_wp2
        go_roundw
        case rel => exact ⟨0 + 1, _, by omega, by go_num, rfl, by rw [HWS.out]; exact S5.out.kept ((Chg.refl (fun _ => False) w5).drewN _) (by simp), P5.out.kept ((Chg.refl (fun _ => False) w5).drewN _) (by simp), Q5.out.drewN _⟩
        case measure => simp [intOf]; omega
    · obtain rfl : i = p := by omega
      have hall : (pres xs).take i = pres xs := by rw [← HP.out, List.take_length]
      rw [hall, selL_pres xs HX.out] at hs
      have HS := Lib.hid hs; have HC := Lib.hid hc
      clear hs hc hpr hall
      go_wp2_with fail
      refine (hof_any _ xs wr (H.out.kept HC.out (by simp)) HX.out (by omega)).mono ?_
      rintro e w4 ⟨v4, rfl, ho4, hc4⟩
      have S4 := HS.out.kept hc4 (by simp)
      have q4 := HC.out.trans hc4 (fun _ _ h => h)
      clear HS HC hc4
      go_wp2_with fail
      refine (ints_c _ _ (cnt xs) (cnt xs) w4 S4 ho4.rd (by rw [cnt_length]; omega) (by rw [cnt_length]; omega)).mono ?_
      rintro e w5 ⟨rfl, hc5⟩
      rw [decide_eq_true rfl]
      have q5 := q4.trans hc5 (fun _ _ h => h)
      clear q4 hc5 S4 ho4
      go_wp2
      go_ret
      exact ⟨rfl, q5⟩

end Go.Proofs.Ytjddaneafmdeeaa
