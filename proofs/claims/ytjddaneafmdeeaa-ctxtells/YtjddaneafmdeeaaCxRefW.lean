/- What the document's own Widest (puncheonref06) tells. -/
import Derived.Test.YtjddaneafmdeeaaCxRef
namespace Go.Proofs.Ytjddaneafmdeeaa
open Go.RowKit

set_option maxHeartbeats 1000000 in
set_option maxRecDepth 100000 in
theorem r6widest_any (v : Value) (xs : List Nat) (w : World) (h : RdB w v xs) (hx : ∀ x ∈ xs, x < 256) (hl : xs.length < 10000000000) :
    Calls Try.prog 17 #[v] w fun e w' => e = .returned (.int .i64 ((widest xs : Nat) : Int)) ∧ Chg (fun _ => False) w w' := by
  obtain ⟨ao, cap, rfl⟩ := h.form
  have H := Lib.hid h; have HX := Lib.hid hx
  clear h hx
  obtain ⟨W, hW⟩ : ∃ W, widest xs = W := ⟨_, rfl⟩
  rw [hW]
  have HW := Lib.hid hW
  clear hW
  go_enter Try.func17, Try.ntmps17
  go_wp2
  go_loopw [3, 4] (fun o3 o4 wr => ∃ c : Nat, c ≤ 256 ∧ o4 = .int .i64 (c : Int) ∧ o3 = .int .i64 ((wid xs c : Nat) : Int) ∧ Chg (fun _ => False) w wr) (fun _ o4 _ => 256 - (intOf o4).toNat)
  case atStart => exact ⟨0, Nat.zero_le _, rfl, rfl, Chg.refl _ _⟩
  case round =>
    obtain ⟨c, hcc, rfl, rfl, hc⟩ := hrel
    by_cases hlt : c < 256
    · have hwd : wid xs (c + 1) = max (wid xs c) (manyI (cnt (sel xs (c : Int)))) := rfl
      have hml := manyI_le (cnt (sel xs (c : Int)))
      have hwl := wid_le xs c
      obtain ⟨m, hm⟩ : ∃ m, manyI (cnt (sel xs (c : Int))) = m := ⟨_, rfl⟩
      obtain ⟨q, hq⟩ : ∃ q, wid xs c = q := ⟨_, rfl⟩
      rw [hm] at hwd hml
      rw [hq] at hwd hwl ⊢
      have HWD := Lib.hid hwd; have HM := Lib.hid hm
      have HML := Lib.hid hml; have HWL := Lib.hid hwl; have HC := Lib.hid hc
      clear hwd hm hq hml hwl hc
      have d8 : decide ((c : Int) < 256) = true := by simp; omega
      go_wp2_with fail
      refine (r6for_any _ xs (c : Int) wr (H.out.kept HC.out (by simp)) HX.out hl).mono ?_
      rintro e w2 ⟨v2, rfl, ho2, hc2⟩
      have hc2' := HC.out.trans hc2 (fun _ _ h => h)
      clear HC hc2
      go_wp2_with fail
      refine (r5many_any _ _ w2 ho2.rd (fun z hz => ?_) (by rw [cnt_length]; omega)).mono ?_
      · obtain ⟨i, hi, rfl⟩ := List.mem_iff_getElem.1 hz
        rw [cnt_length] at hi
        have h1 := cnt_getD (sel xs (c : Int)) i hi
        rw [List.getD_eq_getElem?_getD, List.getElem?_eq_getElem (by rw [cnt_length]; exact hi)] at h1
        simp only [Option.getD_some] at h1
        have h2 := List.count_le_length (l := sel xs (c : Int)) (a := i)
        have h3 := sel_len xs (c : Int)
        rw [h1]; omega
      rintro e w3 ⟨rfl, rfl⟩
      rw [HM.out]
      clear ho2 HM
      have hml := HML.out; have hwl := HWL.out
      have hmx : max (q : Int) (m : Int) = ((max q m : Nat) : Int) := by omega
      by_cases hqm : q ≤ m
      · have d1 : max q m = m := by omega
        rw [d1] at HWD
        clear d1 hmx
        go_wp2
        all_goals first
          | (go_roundw
             case rel => exact ⟨c + 1, by omega, by go_num, by rw [HWD.out]; go_num, hc2'⟩
             case measure => simp [intOf]; omega)
          | (exfalso; omega)
      · have d1 : max q m = q := by omega
        rw [d1] at HWD
        clear d1 hmx
        go_wp2
        all_goals first
          | (go_roundw
             case rel => exact ⟨c + 1, by omega, by go_num, by rw [HWD.out]; go_num, hc2'⟩
             case measure => simp [intOf]; omega)
          | (exfalso; omega)
    · obtain rfl : c = 256 := by omega
      rw [show wid xs 256 = W from HW.out]
      go_wp2
      go_ret
      exact ⟨rfl, hc⟩

end Go.Proofs.Ytjddaneafmdeeaa
