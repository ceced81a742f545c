/- The walk of CrcTells. -/
import Derived.Test.YtcmepbgaafdcfaaCrAwake
import Derived.Test.YtcmepbgaafdcfaaCrRef
namespace Go.Proofs.Ytcmepbgaafdcfaa
open Go.RowKit

set_option maxHeartbeats 2000000 in
theorem ctells_any (v : Value) (xs : List Nat) (s : Nat) (w : World) (h : RdB w v xs) (hx : ∀ x ∈ xs, x < 256) (hs : s < 4294967296) :
    Calls Try.prog 3 #[v, .int .u32 (s : Int)] w fun e w' => Says w e w' := by
  obtain ⟨ao, cap, rfl⟩ := h.form
  have H := Lib.hid h; have HX := Lib.hid hx
  clear h hx
  by_cases hbig : 300 < xs.length
  · have hb' : decide (300 < (xs.length : Int)) = true := by simp; omega
    go_enter Try.func3, Try.ntmps3
    go_wp2_with fail
    refine (awake4_any w).mono ?_
    rintro e w1 ⟨rfl, hc1⟩
    go_wp2_with fail
    refine (cnew_any w1).mono ?_
    rintro e w2 ⟨b, rfl, t2, hb, hc2⟩
    have hc2' := hc1.trans hc2 (fun _ _ h => h)
    clear hc1 hc2 t2
    go_wp2
    go_ret
    exact ⟨rfl, hc2'⟩
  · have hb' : decide (300 < (xs.length : Int)) = false := by simp; omega
    go_enter Try.func3, Try.ntmps3
    go_wp2_with fail
    refine (awake4_any w).mono ?_
    rintro e w1 ⟨rfl, hc1⟩
    go_wp2_with fail
    refine (cnew_any w1).mono ?_
    rintro e w2 ⟨b, rfl, t2, hb, hc2⟩
    have hc2' := hc1.trans hc2 (fun _ _ h => h)
    clear hc1 hc2
    go_wp2_with fail
    refine (cof_c b _ xs w2 t2 (H.out.kept hc2' (by simp)) HX.out (by omega)).mono ?_
    rintro e w3 ⟨rfl, hc3⟩
    have t3 := t2.kept hc3 (by simp)
    have hc3' := hc2'.trans hc3 (fun _ _ h => h)
    clear t2 hc3 hc2'
    obtain ⟨A, hA⟩ : ∃ A, crcAdd 0 xs = A := ⟨_, rfl⟩
    rw [hA]
    have HA := Lib.hid hA
    clear hA
    go_wp2_with fail
    refine (r4of_any _ xs w3 (H.out.kept hc3' (by simp)) HX.out (by omega)).mono ?_
    rintro e w4 ⟨rfl, rfl⟩
    rw [HA.out]
    clear HA
    go_wp2_with fail
    refine (cadd_c b _ s xs w3 t3 (H.out.kept hc3' (by simp)) HX.out hs (by omega)).mono ?_
    rintro e w4 ⟨rfl, hc4⟩
    have hc4' := hc3'.trans hc4 (fun _ _ h => h)
    clear t3 hc4 hc3'
    obtain ⟨B, hB⟩ : ∃ B, crcAdd s xs = B := ⟨_, rfl⟩
    rw [hB]
    have HB := Lib.hid hB
    clear hB
    go_wp2_with fail
    refine (r4add_any _ s xs w4 (H.out.kept hc4' (by simp)) HX.out hs (by omega)).mono ?_
    rintro e w5 ⟨rfl, rfl⟩
    rw [HB.out]
    go_wp2
    go_ret
    exact ⟨rfl, hc4'⟩

end Go.Proofs.Ytcmepbgaafdcfaa
