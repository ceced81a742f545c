/- The walk of CrcBursts. -/
import Derived.Test.YtcmepbgaafdcfaaCrAwake
import Derived.Test.YtcmepbgaafdcfaaApBytes
namespace Go.Proofs.Ytcmepbgaafdcfaa
open Go.RowKit

theorem flips_step (xs : List Nat) (k y i : Nat) (h : y / 2 ^ i % 2 = 1) : flips xs k y (i + 1) = (flips xs k y i).set ((k + i) / 8) ((flips xs k y i).getD ((k + i) / 8) 0 ^^^ 2 ^ ((k + i) % 8)) := by
  rw [flips, if_pos h]; rfl

theorem ne_turned (a : List Nat) (ha : ∀ x ∈ a, x < 256) (k y m : Nat) (hm : m ≤ 32) (hk : k + m ≤ 8 * a.length) : (((crcAdd 0 (flips a k y m) : Nat) : Int) != ((crcAdd 0 a : Nat) : Int)) = decide (y % 2 ^ m ≠ 0) := by
  have h := crc_bursts a ha k y m hm hk
  rw [Bool.eq_iff_iff, bne_iff_ne, decide_eq_true_iff, ne_eq, ne_eq, ← h]
  omega

set_option maxHeartbeats 4000000 in
set_option maxRecDepth 100000 in
theorem cbursts_any (v : Value) (xs : List Nat) (at' y : Nat) (w : World) (h : RdB w v xs) (hx : ∀ x ∈ xs, x < 256) (hat : at' < 65536) (hy : y < 4294967296) :
    Calls Try.prog 6 #[v, .int .u16 (at' : Int), .int .u32 (y : Int)] w fun e w' => Says w e w' := by
  obtain ⟨ao, cap, rfl⟩ := h.form
  have H := Lib.hid h; have HX := Lib.hid hx
  clear h hx
  by_cases hbig : 300 < xs.length
  · have hb' : decide (300 < (xs.length : Int)) = true := by simp; omega
    go_enter Try.func6, Try.ntmps6
    go_wp2_with fail
    refine (awake4_any w).mono ?_
    rintro e w1 ⟨rfl, hc1⟩
    go_wp2_with fail
    refine (cnew_any w1).mono ?_
    rintro e w2 ⟨b, rfl, t2, hb, hc2⟩
    have hc2' := hc1.trans hc2 (fun _ _ h => h)
    clear hc1 hc2 t2
    go_wp2
    go_ret
    exact ⟨rfl, hc2'⟩
  have hb' : decide (300 < (xs.length : Int)) = false := by simp; omega
  by_cases h0 : xs.length = 0
  · have h0' : ((xs.length : Int) == 0) = true := by rw [beq_iff_eq]; omega
    go_enter Try.func6, Try.ntmps6
    go_wp2_with fail
    refine (awake4_any w).mono ?_
    rintro e w1 ⟨rfl, hc1⟩
    go_wp2_with fail
    refine (cnew_any w1).mono ?_
    rintro e w2 ⟨b, rfl, t2, hb, hc2⟩
    have hc2' := hc1.trans hc2 (fun _ _ h => h)
    clear hc1 hc2 t2
    go_wp2
    go_ret
    exact ⟨rfl, hc2'⟩
  have h0' : ((xs.length : Int) == 0) = false := by rw [beq_eq_false_iff_ne]; omega
  obtain ⟨k, hk, hkl⟩ : ∃ k : Nat, (at' : Int) % (8 * (xs.length : Int)) = (k : Int) ∧ k < 8 * xs.length := ⟨at' % (8 * xs.length), by simp, Nat.mod_lt _ (by omega)⟩
  have hxl : xs.length < 100000000000 := by omega
  go_enter Try.func6, Try.ntmps6
  go_wp2_with fail
  refine (awake4_any w).mono ?_
  rintro e w1 ⟨rfl, hc1⟩
  go_wp2_with fail
  refine (cnew_any w1).mono ?_
  rintro e w2 ⟨b, rfl, t2, hb, hc2⟩
  have hc2' := hc1.trans hc2 (fun _ _ h => h)
  have z2 := hc2'.size
  have hbl := lt_of_block t2
  clear hc1 hc2
  have hca := Chg.alloc (fun _ => False) w2 (.cells #[] 5)
  have hrx := H.out.kept (hc2'.trans hca (fun _ _ h => h)) (by simp)
  have HRX := Lib.hid hrx; have HCA := Lib.hid hca
  clear hrx hca
  go_wp2_with (at_builtin; refine wpList_append_bytes rfl (.tmp 28) (.tmp 29) rfl w2.heap.size _ [] rfl (own_empty w2) _ xs rfl HRX.out (by simp) (by simp; omega) ?_)
  intro v3 w3 ho3 hc3
  have hc3' : Chg (fun _ => False) w w3 := (hc2'.trans HCA.out (fun _ _ h => h)).trans hc3 (fun k hk hx => by simp [Value.ownBlock] at hx; omega)
  have t3 : Tb w3 b := (t2.kept HCA.out (by simp)).kept hc3 (fun hx => by simp [Value.ownBlock] at hx; omega)
  obtain ⟨g3, cap3, hv3, hg3⟩ := slice_of_own ho3 (by omega)
  subst hv3
  have HG : Hid (w.heap.size ≤ g3 ∧ g3 ≠ b) := Lib.hid ⟨by omega, by omega⟩
  clear hc3 HCA HRX t2 hc2' hg3 hbl z2
  go_wp2
  rw [hk]
  clear hk
  go_loopw [11, 12] (fun o11 o12 wr => ∃ i : Nat, i ≤ 32 ∧ k + i ≤ 8 * xs.length ∧ o12 = .int .i64 (i : Int) ∧ o11 = .bool (decide (y % 2 ^ i ≠ 0)) ∧ wr.ownsRow 0 5 1 (.slice (some ⟨g3, 0, none⟩) xs.length cap3) xs.length (bv (flips xs k y i)) ∧ Tb wr b ∧ Chg (fun _ => False) w wr) (fun _ o12 _ => 32 - (intOf o12).toNat)
  case atStart => exact ⟨0, Nat.zero_le _, by omega, rfl, by simp [Nat.mod_one], ownsRow_mono ho3 (Nat.zero_le _), t3, hc3'⟩
  case round =>
    obtain ⟨i, hi, hki, rfl, rfl, ho, t, hc⟩ := hrel
    clear ho3 t3 hc3'
    by_cases hgo : i < 32 ∧ k + i < 8 * xs.length
    · have d1 : decide ((i : Int) < 32) = true := decide_eq_true (by omega)
      have d2 : decide ((k : Int) + (i : Int) < 8 * (xs.length : Int)) = true := decide_eq_true (by omega)
      have hbit := mod_pow_bit y i
      have hand := and_one_bit y i hy
      by_cases hb1 : y / 2 ^ i % 2 = 1
      · rw [decide_eq_true hb1] at hand hbit
        rw [Bool.or_true] at hbit
        have hst := flips_step xs k y i hb1
        have hfl := flips_length xs k y i
        have hf256 := getD_lt _ (flips_lt xs HX.out k y i) ((k + i) / 8)
        have hcell := ho.cellAt ((k + i) / 8) (by omega)
        rw [bv_get _ _ (by omega)] at hcell
        have hfr := ho.frozenAt ((k + i) / 8)
        obtain ⟨j, hj⟩ : ∃ j, (k + i) / 8 = j := ⟨_, rfl⟩
        obtain ⟨r, hr⟩ : ∃ r, (k + i) % 8 = r := ⟨_, rfl⟩
        have hj' : ((k : Int) + (i : Int)) / 8 = (j : Int) := by omega
        have hr' : ((k : Int) + (i : Int)) % 8 = (r : Int) := by omega
        have hr8 : r < 8 := by omega
        have hjl : (j : Int) < (xs.length : Int) := by omega
        rw [hj] at hcell hfr hst hf256
        rw [hr] at hst
        have hp : 2 ^ r < 256 := Nat.pow_lt_pow_right (n := 8) (by omega) hr8
        have hxor := xor_u8 ((flips xs k y i).getD j 0) (2 ^ r) hf256 hp
        have hsto := ho.stored j (.int .u8 (((flips xs k y i).getD j 0 ^^^ 2 ^ r : Nat) : Int))
        rw [bv_set, ← hst] at hsto
        have hch : Chg (fun _ => False) w (wr.setCell ⟨g3, j, none⟩ (.int .u8 (((flips xs k y i).getD j 0 ^^^ 2 ^ r : Nat) : Int))) := hc.trans (Chg.setCell wr ⟨g3, j, none⟩ _) (fun q hq h => by have := HG.out; simp at h; omega)
        have tch : Tb (wr.setCell ⟨g3, j, none⟩ (.int .u8 (((flips xs k y i).getD j 0 ^^^ 2 ^ r : Nat) : Int))) b := t.kept (Chg.setCell wr ⟨g3, j, none⟩ _) (fun h => HG.out.2 h.symm)
        have hsto1 := hsto.1
        obtain ⟨x, hxe⟩ : ∃ x, (flips xs k y i).getD j 0 = x := ⟨_, rfl⟩
        rw [hxe] at hcell hf256 hxor hsto1 hch tch
        have hxor' : bits .xor .u8 (x : Int) (2 ^ r % 256) = ((x ^^^ 2 ^ r : Nat) : Int) := by
          have e : ((2 : Int) ^ r % 256) = ((2 ^ r : Nat) : Int) := by
            rw [show ((2 : Int) ^ r) = ((2 ^ r : Nat) : Int) from by simp]
            exact Int.emod_eq_of_lt (Int.natCast_nonneg _) (by exact_mod_cast hp)
          rw [e]; exact hxor
        have HS := Lib.hid hsto1; have HCH := Lib.hid hch; have HTC := Lib.hid tch; have HBIT := Lib.hid hbit; have HXR := Lib.hid hxor'
        have h58 : IntKind.i64.wrap ((k : Int) + (i : Int)) = (k : Int) + (i : Int) := by rw [IntKind.wrap_i64]; omega
        have h59 : ((k : Int) + (i : Int)).tdiv 8 = (j : Int) := by rw [Int.tdiv_eq_ediv_of_nonneg (by omega)]; exact hj'
        have h70 : ((k : Int) + (i : Int)).tmod 8 = (r : Int) := by rw [Int.tmod_eq_emod_of_nonneg (by omega)]; exact hr'
        have hwj : IntKind.i64.wrap (j : Int) = (j : Int) := by rw [IntKind.wrap_i64]; omega
        have hwr : IntKind.i64.wrap (r : Int) = (r : Int) := by rw [IntKind.wrap_i64]; omega
        have h0j : (0 : Int) ≤ (j : Int) := by omega
        have h0r : (0 : Int) ≤ (r : Int) := by omega
        clear hst hsto hsto1 hch tch hbit hxor hxe hj hr hfl hxor'
        go_wp2
        go_still_tail 19, (by kernel_rfl)
        change wpList _ _ _ _ _ wr.drew
        go_wp2
        rw [HXR.out]
        go_roundw
        case rel => exact ⟨i + 1, by omega, by omega, by go_num, by rw [HBIT.out], HS.out.drew, HTC.out, HCH.out.drew⟩
        case measure => simp [intOf]; omega
      · rw [decide_eq_false hb1] at hand hbit
        rw [Bool.or_false] at hbit
        have hfl : flips xs k y (i + 1) = flips xs k y i := by rw [flips, if_neg hb1]
        rw [← hbit]
        rw [← hfl] at ho
        clear hbit hfl
        go_wp2
        go_roundw
        case rel => exact ⟨i + 1, by omega, by omega, by go_num, rfl, ho, t, hc⟩
        case measure => simp [intOf]; omega
    · have hne := ne_turned xs HX.out k y i hi hki
      have rd := RdB.of_own ho
      have HF := Lib.hid (flips_lt xs HX.out k y i)
      have hfl := flips_length xs k y i
      obtain ⟨cs, hcs⟩ : ∃ cs, flips xs k y i = cs := ⟨_, rfl⟩
      rw [hcs] at hne rd HF hfl
      obtain ⟨A, hA⟩ : ∃ A, crcAdd 0 cs = A := ⟨_, rfl⟩
      obtain ⟨B, hB⟩ : ∃ B, crcAdd 0 xs = B := ⟨_, rfl⟩
      obtain ⟨D, hD⟩ : ∃ D, decide (y % 2 ^ i ≠ 0) = D := ⟨_, rfl⟩
      rw [hA, hB, hD] at hne
      rw [hD]
      have HA := Lib.hid hA; have HB := Lib.hid hB
      have RD := Lib.hid rd
      clear hcs hA hB hD rd ho
      by_cases hi32 : i < 32
      · have d1 : decide ((i : Int) < 32) = true := decide_eq_true (by omega)
        have d2 : decide ((k : Int) + (i : Int) < 8 * (xs.length : Int)) = false := decide_eq_false (by omega)
        go_wp2_with fail
        refine (cof_c b _ cs wr t RD.out HF.out (by rw [hfl]; omega)).mono ?_
        rintro e w5 ⟨rfl, hc5⟩
        rw [HA.out]
        have t5 := t.kept hc5 (by simp)
        have hc5' := hc.trans hc5 (fun _ _ h => h)
        clear t hc5 hc HA
        go_wp2_with fail
        refine (cof_c b _ xs w5 t5 (H.out.kept hc5' (by simp)) HX.out hxl).mono ?_
        rintro e w6 ⟨rfl, hc6⟩
        rw [HB.out]
        have hc6' := hc5'.trans hc6 (fun _ _ h => h)
        clear t5 hc6 hc5' HB
        go_wp2
        go_ret
        exact ⟨rfl, hc6'⟩
      · have d1 : decide ((i : Int) < 32) = false := decide_eq_false (by omega)
        go_wp2_with fail
        refine (cof_c b _ cs wr t RD.out HF.out (by rw [hfl]; omega)).mono ?_
        rintro e w5 ⟨rfl, hc5⟩
        rw [HA.out]
        have t5 := t.kept hc5 (by simp)
        have hc5' := hc.trans hc5 (fun _ _ h => h)
        clear t hc5 hc HA
        go_wp2_with fail
        refine (cof_c b _ xs w5 t5 (H.out.kept hc5' (by simp)) HX.out hxl).mono ?_
        rintro e w6 ⟨rfl, hc6⟩
        rw [HB.out]
        have hc6' := hc5'.trans hc6 (fun _ _ h => h)
        clear t5 hc6 hc5' HB
        go_wp2
        go_ret
        exact ⟨rfl, hc6'⟩

end Go.Proofs.Ytcmepbgaafdcfaa
