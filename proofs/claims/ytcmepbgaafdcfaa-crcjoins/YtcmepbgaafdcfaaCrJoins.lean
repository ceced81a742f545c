/- The walk of CrcJoins. -/
import Derived.Test.YtcmepbgaafdcfaaCrAwake
import Derived.Test.YtcmepbgaafdcfaaApBytes
namespace Go.Proofs.Ytcmepbgaafdcfaa
open Go.RowKit

set_option maxHeartbeats 4000000 in
set_option maxRecDepth 100000 in
theorem cjoins_any (v u : Value) (xs ys : List Nat) (s : Nat) (w : World) (h : RdB w v xs) (hx : ∀ x ∈ xs, x < 256) (hu : RdB w u ys) (hy : ∀ y ∈ ys, y < 256) (hs : s < 4294967296) :
    Calls Try.prog 4 #[v, u, .int .u32 (s : Int)] w fun e w' => Says w e w' := by
  obtain ⟨ao, cap, rfl⟩ := h.form
  obtain ⟨au, capu, rfl⟩ := hu.form
  have H := Lib.hid h; have HX := Lib.hid hx; have HU := Lib.hid hu; have HY := Lib.hid hy
  clear h hx hu hy
  by_cases hbig : 300 < xs.length
  · have hb' : decide (300 < (xs.length : Int)) = true := by simp; omega
    go_enter Try.func4, Try.ntmps4
    go_wp2_with fail
    refine (awake4_any w).mono ?_
    rintro e w1 ⟨rfl, hc1⟩
    go_wp2_with fail
    refine (cnew_any w1).mono ?_
    rintro e w2 ⟨b, rfl, t2, hb, hc2⟩
    have hc2' := hc1.trans hc2 (fun _ _ h => h)
    clear hc1 hc2 t2
    go_wp2
    go_ret
    exact ⟨rfl, hc2'⟩
  have hb' : decide (300 < (xs.length : Int)) = false := by simp; omega
  by_cases hbig2 : 300 < ys.length
  · have hb2' : decide (300 < (ys.length : Int)) = true := by simp; omega
    go_enter Try.func4, Try.ntmps4
    go_wp2_with fail
    refine (awake4_any w).mono ?_
    rintro e w1 ⟨rfl, hc1⟩
    go_wp2_with fail
    refine (cnew_any w1).mono ?_
    rintro e w2 ⟨b, rfl, t2, hb, hc2⟩
    have hc2' := hc1.trans hc2 (fun _ _ h => h)
    clear hc1 hc2 t2
    go_wp2
    go_ret
    exact ⟨rfl, hc2'⟩
  have hb2' : decide (300 < (ys.length : Int)) = false := by simp; omega
  have HJ0 := Lib.hid (crcAdd_append 0 xs ys HX.out)
  have HJs := Lib.hid (crcAdd_append s xs ys HX.out)
  have HL := Lib.hid (show (xs ++ ys).length < 100000000000 by rw [List.length_append]; omega)
  have HXY : Hid (∀ x ∈ xs ++ ys, x < 256) := Lib.hid fun x hx => by
    rcases List.mem_append.1 hx with hx | hx
    · exact HX.out x hx
    · exact HY.out x hx
  have hxl : xs.length < 100000000000 := by omega
  have hyl : ys.length < 100000000000 := by omega
  go_enter Try.func4, Try.ntmps4
  go_wp2_with fail
  refine (awake4_any w).mono ?_
  rintro e w1 ⟨rfl, hc1⟩
  go_wp2_with fail
  refine (cnew_any w1).mono ?_
  rintro e w2 ⟨b, rfl, t2, hb, hc2⟩
  have hc2' := hc1.trans hc2 (fun _ _ h => h)
  have z2 := hc2'.size
  clear hc1 hc2
  have hca := Chg.alloc (fun _ => False) w2 (.cells #[] 5)
  have hrx := H.out.kept (hc2'.trans hca (fun _ _ h => h)) (by simp)
  have HRX := Lib.hid hrx; have HCA := Lib.hid hca
  clear hrx hca
  go_wp2_with (at_builtin; refine wpList_append_bytes rfl (.tmp 25) (.tmp 26) rfl w2.heap.size _ [] rfl (own_empty w2) _ xs rfl HRX.out (by simp) (by simp; omega) ?_)
  intro v3 w3 ho3 hc3
  have hc3' : Chg (fun _ => False) w w3 := (hc2'.trans HCA.out (fun _ _ h => h)).trans hc3 (fun k hk hx => by simp [Value.ownBlock] at hx; omega)
  have t3 : Tb w3 b := (t2.kept HCA.out (by simp)).kept hc3 (fun hx => by simp [Value.ownBlock] at hx; have := lt_of_block t2; omega)
  have z3 : w2.heap.size ≤ w3.heap.size := Nat.le_trans HCA.out.size hc3.size
  have hlt3 := ho3.lt
  have hru := HU.out.kept hc3' (by simp)
  have hbl := lt_of_block t2
  clear hc3 HCA HRX
  go_wp2_with (at_builtin; refine wpList_append_bytes rfl (.tmp 27) (.tmp 28) rfl w2.heap.size v3 xs rfl ho3 _ ys rfl hru z3 (by omega) ?_)
  intro v4 w4 ho4 hc4
  have hc4' : Chg (fun _ => False) w w4 := hc3'.trans hc4 (fun k hk hx => by have := (hlt3 k hx.symm).1; omega)
  have t4 : Tb w4 b := t3.kept hc4 (fun hx => by have := (hlt3 b hx.symm).1; omega)
  have rd4 := RdB.of_own ho4
  obtain ⟨zs, hzs⟩ : ∃ zs, xs ++ ys = zs := ⟨_, rfl⟩
  rw [hzs] at rd4 HJ0 HJs HL HXY
  obtain ⟨ao4, cap4, hv4⟩ := rd4.form
  subst hv4
  have RD4 := Lib.hid rd4
  clear hzs ho4 hc4 rd4 hru ho3 t3 hc3' t2 hc2' hlt3 z2 z3 hbl
  go_wp2_with fail
  refine (cof_c b _ zs w4 t4 RD4.out HXY.out HL.out).mono ?_
  rintro e w5 ⟨rfl, hc5⟩
  rw [HJ0.out]
  have t5 := t4.kept hc5 (by simp)
  have hc5' := hc4'.trans hc5 (fun _ _ h => h)
  have rd5 := Lib.hid (RD4.out.kept hc5 (by simp))
  clear t4 hc5 hc4' RD4
  have hA2 := crcAdd_lt 0 xs
  obtain ⟨A, hA⟩ : ∃ A, crcAdd 0 xs = A := ⟨_, rfl⟩
  rw [hA] at hA2 ⊢
  have HA := Lib.hid hA
  clear hA
  obtain ⟨B, hB⟩ : ∃ B, crcAdd A ys = B := ⟨_, rfl⟩
  rw [hB]
  have HB := Lib.hid hB
  clear hB
  go_wp2_with fail
  refine (cof_c b _ xs w5 t5 (H.out.kept hc5' (by simp)) HX.out hxl).mono ?_
  rintro e w6 ⟨rfl, hc6⟩
  rw [HA.out]
  have t6 := t5.kept hc6 (by simp)
  have hc6' := hc5'.trans hc6 (fun _ _ h => h)
  have rd6 := Lib.hid (rd5.out.kept hc6 (by simp))
  clear t5 hc6 hc5' rd5
  go_wp2_with fail
  refine (cadd_c b _ A ys w6 t6 (HU.out.kept hc6' (by simp)) HY.out hA2 hyl).mono ?_
  rintro e w7 ⟨rfl, hc7⟩
  rw [HB.out]
  have t7 := t6.kept hc7 (by simp)
  have hc7' := hc6'.trans hc7 (fun _ _ h => h)
  have rd7 := Lib.hid (rd6.out.kept hc7 (by simp))
  clear t6 hc7 hc6' rd6 HA HB HJ0
  go_wp2_with fail
  refine (cadd_c b _ s zs w7 t7 rd7.out HXY.out hs HL.out).mono ?_
  rintro e w8 ⟨rfl, hc8⟩
  rw [HJs.out]
  have t8 := t7.kept hc8 (by simp)
  have hc8' := hc7'.trans hc8 (fun _ _ h => h)
  clear t7 hc8 hc7' rd7
  have hC2 := crcAdd_lt s xs
  obtain ⟨C, hC⟩ : ∃ C, crcAdd s xs = C := ⟨_, rfl⟩
  rw [hC] at hC2 ⊢
  have HC := Lib.hid hC
  clear hC
  obtain ⟨D, hD⟩ : ∃ D, crcAdd C ys = D := ⟨_, rfl⟩
  rw [hD]
  have HD := Lib.hid hD
  clear hD
  go_wp2_with fail
  refine (cadd_c b _ s xs w8 t8 (H.out.kept hc8' (by simp)) HX.out hs hxl).mono ?_
  rintro e w9 ⟨rfl, hc9⟩
  rw [HC.out]
  have t9 := t8.kept hc9 (by simp)
  have hc9' := hc8'.trans hc9 (fun _ _ h => h)
  clear t8 hc9 hc8'
  go_wp2_with fail
  refine (cadd_c b _ C ys w9 t9 (HU.out.kept hc9' (by simp)) HY.out hC2 hyl).mono ?_
  rintro e w10 ⟨rfl, hc10⟩
  rw [HD.out]
  have t10 := t9.kept hc10 (by simp)
  have hc10' := hc9'.trans hc10 (fun _ _ h => h)
  clear t9 hc10 hc9' HC HD
  go_wp2_with fail
  refine (cadd_c b _ s [] w10 t10 (.inl ⟨rfl, _, _, rfl⟩) (by simp) hs (by simp)).mono ?_
  rintro e w11 ⟨rfl, hc11⟩
  rw [crcAdd_nil hs]
  have hc11' := hc10'.trans hc11 (fun _ _ h => h)
  clear t10 hc11 hc10'
  go_wp2
  go_ret
  exact ⟨rfl, hc11'⟩

end Go.Proofs.Ytcmepbgaafdcfaa
