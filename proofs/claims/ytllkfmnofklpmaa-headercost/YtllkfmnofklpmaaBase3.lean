/- Texts that other texts of this claim rest on, one behind the other (BgProg RnProg HdProgB HdProgC HdWalk OpInts OpIntsC HdProgD HdProgE HsHist HpMath HpA HpAB NqBase NqMath NqHeap NqSwap NqDiv NqOps NqFill NqThin NmProg HdProg HdAwake NmSome OpU16 NmRefC NmSomeQ). -/
import Derived.Test.YtllkfmnofklpmaaBase2
import Derived.Deep.CutRange
import Derived.Deep.RegionWith
import Derived.Handy
import Derived.StillTailTactics
import Derived.BigRegion
import Derived.Deep.RegionHeld3
import Derived.WalkSmall
import Derived.OneCell
import Derived.Deep.AppendLies
import Derived.Deep.RegionLaw
import Derived.BigQuiet
/- What budget's Put, Take and Cost do. THIS ALONE SPEAKS OF THE PROGRAM'S OWN TEXT. -/
namespace Go.Proofs.Ytllkfmnofklpmaa
open Go.RowKit

theorem bgwithin_i (n a z : Int) (w : World) : Calls Try.prog 73 #[.int .i64 n, .int .i64 a, .int .i64 z] w fun e w' => e = .returned (.bool (decide (a ≤ n ∧ n ≤ z))) ∧ w' = w := by
  by_cases h1 : a ≤ n
  · have d1 : decide (a ≤ n) = true := decide_eq_true h1
    have hd : decide (a ≤ n ∧ n ≤ z) = decide (n ≤ z) := decide_eq_decide.2 ⟨fun h => h.2, fun h => ⟨h1, h⟩⟩
    rw [hd]
    clear hd h1
    go_enter Try.func73, Try.ntmps73
    go_wp2
    go_ret
    exact ⟨rfl, rfl⟩
  · have d1 : decide (a ≤ n) = false := decide_eq_false h1
    have hd : decide (a ≤ n ∧ n ≤ z) = false := decide_eq_false fun h => h1 h.1
    rw [hd]
    clear hd h1
    go_enter Try.func73, Try.ntmps73
    go_wp2
    go_ret
    exact ⟨rfl, rfl⟩

theorem bgwithin_u (n a z : Int) (w : World) : Calls Try.prog 85 #[.int .u32 n, .int .u32 a, .int .u32 z] w fun e w' => e = .returned (.bool (decide (a ≤ n ∧ n ≤ z))) ∧ w' = w := by
  by_cases h1 : a ≤ n
  · have d1 : decide (a ≤ n) = true := decide_eq_true h1
    have hd : decide (a ≤ n ∧ n ≤ z) = decide (n ≤ z) := decide_eq_decide.2 ⟨fun h => h.2, fun h => ⟨h1, h⟩⟩
    rw [hd]
    clear hd h1
    go_enter Try.func85, Try.ntmps85
    go_wp2
    go_ret
    exact ⟨rfl, rfl⟩
  · have d1 : decide (a ≤ n) = false := decide_eq_false h1
    have hd : decide (a ≤ n ∧ n ≤ z) = false := decide_eq_false fun h => h1 h.1
    rw [hd]
    clear hd h1
    go_enter Try.func85, Try.ntmps85
    go_wp2
    go_ret
    exact ⟨rfl, rfl⟩

theorem bgleft_any (l : Int) (w : World) : Calls Try.prog 72 #[.int .i64 l] w fun e w' => e = .returned (.bool (decide (1 ≤ l ∧ l ≤ 4096))) ∧ w' = w := by
  have HI := Lib.hid (bgwithin_i l 1 4096 w)
  go_enter Try.func72, Try.ntmps72
  go_wp2_with fail
  refine (HI.out).mono ?_
  rintro e w1 ⟨rfl, rfl⟩
  go_wp2
  go_ret
  exact ⟨by rw [Bool.decide_and]; rfl, rfl⟩

theorem bgmay_any (v l : Int) (w : World) : Calls Try.prog 55 #[.int .i64 v, .int .i64 l] w fun e w' => e = .returned (.bool (decide (bCan v l))) ∧ w' = w := by
  have HL := Lib.hid (bgleft_any l w)
  by_cases h1 : 1 ≤ l ∧ l ≤ 4096
  · have hd : decide (bCan v l) = decide (0 ≤ v ∧ v ≤ l) := decide_eq_decide.2 ⟨fun h => h.2.2, fun h => ⟨h1.1, h1.2, h.1, h.2⟩⟩
    have HI := Lib.hid (bgwithin_i v 0 l w)
    rw [hd]
    rw [decide_eq_true h1] at HL
    clear hd h1
    go_enter Try.func55, Try.ntmps55
    go_wp2_with fail
    refine (HL.out).mono ?_
    rintro e w1 ⟨rfl, rfl⟩
    go_wp2_with fail
    refine (HI.out).mono ?_
    rintro e w1 ⟨rfl, rfl⟩
    go_wp2
    go_ret
    exact ⟨by rw [Bool.decide_and]; rfl, rfl⟩
  · have hd : decide (bCan v l) = false := decide_eq_false fun h => h1 ⟨h.1, h.2.1⟩
    rw [hd]
    rw [decide_eq_false h1] at HL
    clear hd h1
    go_enter Try.func55, Try.ntmps55
    go_wp2_with fail
    refine (HL.out).mono ?_
    rintro e w1 ⟨rfl, rfl⟩
    go_wp2
    go_ret
    exact ⟨rfl, rfl⟩

theorem bgput_any (b : Nat) (o : Option Nat) (bs : List Bool) (v l : Int) (w : World) (h : Wr w b o bs) (hlen : bs.length < 900000000) (hv : -9223372036854775808 ≤ v ∧ v ≤ 9223372036854775807) (hl : -9223372036854775808 ≤ l ∧ l ≤ 9223372036854775807) :
    Calls Try.prog 31 #[.pointer (some ⟨b, 0, none⟩), .int .i64 v, .int .i64 l] w fun e w' => e = .returned (.bool (decide (bCan v l))) ∧ WrTo w w' b o (bgPutB bs v l) := by
  have HC := Lib.hid (bgmay_any v l w)
  by_cases hc : bCan v l
  · obtain ⟨h1, h2, h3, h4⟩ := hc
    have hw := width_13 h1 h2
    have HW := Lib.hid (lwidth_w l w (by omega) (by omega))
    have hbs : bgPutB bs v l = bs ++ bitsOf v.toNat (widthI l) := by unfold bgPutB; rw [if_pos ⟨h1, h2, h3, h4⟩]
    have hdt : decide (bCan v l) = true := decide_eq_true (show bCan v l from ⟨h1, h2, h3, h4⟩)
    rw [hdt] at HC ⊢
    clear hdt
    obtain ⟨x, rfl⟩ := Int.eq_ofNat_of_zero_le h3
    rw [Int.toNat_natCast] at hbs
    have HP := Lib.hid (put_yes b o bs x (widthI l) w h hlen (by omega) (by omega))
    have hx : (x : Int) % 4294967296 = (x : Int) := by omega
    obtain ⟨n, hn⟩ : ∃ n, widthI l = n := ⟨_, rfl⟩
    rw [hn] at HW HP hbs
    have HBS := Lib.hid hbs
    clear hbs hn h hw hlen
    go_enter Try.func31, Try.ntmps31
    go_wp2_with fail
    refine (HC.out).mono ?_
    rintro e w1 ⟨rfl, rfl⟩
    go_wp2_with fail
    refine (HW.out).mono ?_
    rintro e w1 ⟨rfl, rfl⟩
    go_wp2_with fail
    refine (HP.out).mono ?_
    rintro e w2 ⟨rfl, ho2⟩
    have HO2 := Lib.hid ho2
    clear ho2
    go_wp2
    go_ret
    exact ⟨rfl, by rw [HBS.out]; exact HO2.out⟩
  · have hbs : bgPutB bs v l = bs := by unfold bgPutB; rw [if_neg hc]
    rw [decide_eq_false hc] at HC ⊢
    have HBS := Lib.hid hbs; have HO := Lib.hid h
    clear hbs h hc
    go_enter Try.func31, Try.ntmps31
    go_wp2_with fail
    refine (HC.out).mono ?_
    rintro e w1 ⟨rfl, rfl⟩
    go_wp2
    go_ret
    exact ⟨rfl, by rw [HBS.out]; exact ⟨o, HO.out, Chg.refl _ _, .inl rfl⟩⟩

theorem bgcost_any (v l : Int) (w : World) (_hv : -9223372036854775808 ≤ v ∧ v ≤ 9223372036854775807) (hl : -9223372036854775808 ≤ l ∧ l ≤ 9223372036854775807) :
    Calls Try.prog 39 #[.int .i64 v, .int .i64 l] w fun e w' => e = .returned (.int .i64 ((bgCostN v l : Nat) : Int)) ∧ Chg (fun _ => False) w w' := by
  have HC := Lib.hid (bgmay_any v l w)
  by_cases hc : bCan v l
  · have hb : bgCostN v l = widthI l := by unfold bgCostN; rw [if_pos hc]
    have HW := Lib.hid (lwidth_w l w (by have := hc.2.1; omega) (by omega))
    rw [decide_eq_true hc] at HC
    rw [hb]
    clear hb hc
    go_enter Try.func39, Try.ntmps39
    go_wp2_with fail
    refine (HC.out).mono ?_
    rintro e w1 ⟨rfl, rfl⟩
    go_wp2_with fail
    refine (HW.out).mono ?_
    rintro e w1 ⟨rfl, rfl⟩
    go_wp2
    go_ret
    exact ⟨rfl, Chg.refl _ _⟩
  · have hb : bgCostN v l = 0 := by unfold bgCostN; rw [if_neg hc]
    rw [decide_eq_false hc] at HC
    rw [hb]
    clear hb hc
    go_enter Try.func39, Try.ntmps39
    go_wp2_with fail
    refine (HC.out).mono ?_
    rintro e w1 ⟨rfl, rfl⟩
    go_wp2
    go_ret
    exact ⟨rfl, Chg.refl _ _⟩

theorem bgtake_any (b : Nat) (o : Option Nat) (xs : List Nat) (p : Nat) (l : Int) (w : World) (h : Rf w b o xs p) (hl : -9223372036854775808 ≤ l ∧ l ≤ 9223372036854775807) :
    Calls Try.prog 78 #[.pointer (some ⟨b, 0, none⟩), .int .i64 l] w fun e w' => e = .returned (.tuple #[.int .i64 (bgTk xs p l).1, .int .i64 (bgTk xs p l).2.1]) ∧ Rf w' b o xs (bgTk xs p l).2.2 ∧ Chg (fun k => k = b) w w' := by
  have H := Lib.hid h
  have HL := Lib.hid (bgleft_any l w)
  by_cases h1 : 1 ≤ l ∧ l ≤ 4096
  · rw [decide_eq_true h1] at HL
    have hw := width_13 h1.1 h1.2
    have HW := Lib.hid (lwidth_w l w (by omega) (by omega))
    obtain ⟨n, hn⟩ : ∃ n, widthI l = n := ⟨_, rfl⟩
    have hb : bgTk xs p l = if p + n ≤ 8 * xs.length then (if ((fv xs p n : Nat) : Int) ≤ l then (((fv xs p n : Nat) : Int), 0, p + n) else (0, 13, p + n)) else (0, 3, p) := by unfold bgTk; rw [if_pos h1, hn]
    rw [hn] at HW hw
    have hfv := fv_lt xs p n
    by_cases hh : p + n ≤ 8 * xs.length
    · have HT := Lib.hid (ftake_yes b o xs p n w h (by omega) hh)
      rw [if_pos hh] at hb
      obtain ⟨f, hf⟩ : ∃ f, fv xs p n = f := ⟨_, rfl⟩
      rw [hf] at hb HT hfv
      have hf13 : f < 8192 := Nat.lt_of_lt_of_le hfv (by have := pow_le hw.2.1; have : (2 : Nat) ^ 13 = 8192 := by decide
                                                         omega)
      have hlm : l % 4294967296 = l := by omega
      by_cases hle : (f : Int) ≤ l
      · rw [if_pos hle] at hb
        rw [hb]
        have HU := bgwithin_u (f : Int) 0 l
        rw [decide_eq_true (show 0 ≤ (f : Int) ∧ (f : Int) ≤ l by omega)] at HU
        have HU := Lib.hid HU
        clear hb hf hfv hw hn h h1 hle
        go_enter Try.func78, Try.ntmps78
        go_wp2_with fail
        refine (HL.out).mono ?_
        rintro e w1 ⟨rfl, rfl⟩
        go_wp2_with fail
        refine (HW.out).mono ?_
        rintro e w1 ⟨rfl, rfl⟩
        go_wp2_with fail
        refine (HT.out).mono ?_
        rintro e w2 ⟨rfl, hx2, hc2⟩
        have HX2 := Lib.hid hx2; have HC2 := Lib.hid hc2
        clear hx2 hc2
        go_wp2_with fail
        refine (HU.out _).mono ?_
        rintro e w3 ⟨rfl, rfl⟩
        go_wp2
        go_ret2
        exact ⟨rfl, HX2.out, HC2.out⟩
      · rw [if_neg hle] at hb
        rw [hb]
        have HU := bgwithin_u (f : Int) 0 l
        rw [decide_eq_false (show ¬ (0 ≤ (f : Int) ∧ (f : Int) ≤ l) by omega)] at HU
        have HU := Lib.hid HU
        clear hb hf hfv hw hn h h1 hle
        go_enter Try.func78, Try.ntmps78
        go_wp2_with fail
        refine (HL.out).mono ?_
        rintro e w1 ⟨rfl, rfl⟩
        go_wp2_with fail
        refine (HW.out).mono ?_
        rintro e w1 ⟨rfl, rfl⟩
        go_wp2_with fail
        refine (HT.out).mono ?_
        rintro e w2 ⟨rfl, hx2, hc2⟩
        have HX2 := Lib.hid hx2; have HC2 := Lib.hid hc2
        clear hx2 hc2
        go_wp2_with fail
        refine (HU.out _).mono ?_
        rintro e w3 ⟨rfl, rfl⟩
        go_wp2
        go_ret2
        exact ⟨rfl, HX2.out, HC2.out⟩
    · have HT := Lib.hid (ftake_no b o xs p (n : Int) w h (by omega))
      rw [if_neg hh] at hb
      rw [hb]
      clear hb hfv hw hn h h1 hh
      go_enter Try.func78, Try.ntmps78
      go_wp2_with fail
      refine (HL.out).mono ?_
      rintro e w1 ⟨rfl, rfl⟩
      go_wp2_with fail
      refine (HW.out).mono ?_
      rintro e w1 ⟨rfl, rfl⟩
      go_wp2_with fail
      refine (HT.out).mono ?_
      rintro e w2 ⟨rfl, hc2⟩
      have HC2 := Lib.hid hc2
      clear hc2
      go_wp2
      go_ret2
      exact ⟨rfl, H.out.kept HC2.out (fun h => h) (fun _ _ h => h), HC2.out.mono fun _ _ h => h.elim⟩
  · rw [decide_eq_false h1] at HL
    have hb : bgTk xs p l = (0, 1, p) := by unfold bgTk; rw [if_neg h1]
    rw [hb]
    clear hb h h1
    go_enter Try.func78, Try.ntmps78
    go_wp2_with fail
    refine (HL.out).mono ?_
    rintro e w1 ⟨rfl, rfl⟩
    go_wp2
    go_ret2
    exact ⟨rfl, H.out, Chg.refl _ _⟩

end Go.Proofs.Ytllkfmnofklpmaa

/- What runs' Put, Take and Cost do. THIS ALONE SPEAKS OF THE PROGRAM'S OWN TEXT. -/
namespace Go.Proofs.Ytllkfmnofklpmaa
open Go.RowKit

/-- k threes, in two bits each -/
def rn3 : Nat → List Bool
  | 0 => []
  | k + 1 => rn3 k ++ bitsOf 3 2
theorem rn3_length (k : Nat) : (rn3 k).length = 2 * k := by
  induction k with
  | zero => rfl
  | succ k ih => rw [rn3, List.length_append, ih, bitsOf_length]; omega
theorem rn3_front (k : Nat) : bitsOf 3 2 ++ rn3 k = rn3 (k + 1) := by
  induction k with
  | zero => rfl
  | succ k ih => rw [rn3, ← List.append_assoc, ih]; rfl
theorem rnB_threes (n : Nat) : rnB n = rn3 (n / 3) ++ bitsOf (n % 3) 2 := by
  induction n using Nat.strongRecOn with
  | ind n ih =>
    by_cases h3 : n < 3
    · rw [rnB_small h3, Nat.div_eq_of_lt h3, Nat.mod_eq_of_lt h3]; rfl
    · obtain ⟨k, rfl⟩ : ∃ k, n = k + 3 := ⟨n - 3, by omega⟩
      rw [rnB, ih k (by omega), ← List.append_assoc, rn3_front, show (k + 3) / 3 = k / 3 + 1 by omega, show (k + 3) % 3 = k % 3 by omega]

theorem rnmay_any (n : Int) (w : World) : Calls Try.prog 58 #[.int .i64 n] w fun e w' => e = .returned (.bool (decide (rnOk n))) ∧ w' = w := by
  by_cases h1 : 0 ≤ n
  · have d1 : decide (0 ≤ n) = true := decide_eq_true h1
    have hd : decide (rnOk n) = decide (n ≤ 255) := decide_eq_decide.2 ⟨fun h => h.2, fun h => ⟨h1, h⟩⟩
    rw [hd]
    clear hd h1
    go_enter Try.func58, Try.ntmps58
    go_wp2
    go_ret
    exact ⟨rfl, rfl⟩
  · have d1 : decide (0 ≤ n) = false := decide_eq_false h1
    have hd : decide (rnOk n) = false := decide_eq_false fun h => h1 h.1
    rw [hd]
    clear hd h1
    go_enter Try.func58, Try.ntmps58
    go_wp2
    go_ret
    exact ⟨rfl, rfl⟩

/-- two bits are what they add, and whether more come -/
theorem rnmean_any (y : Nat) (w : World) (hy : y < 4) : Calls Try.prog 87 #[.int .u32 (y : Int)] w fun e w' => e = .returned (.tuple #[.int .i64 (y : Int), .bool (decide (y = 3))]) ∧ w' = w := by
  by_cases h3 : y = 3
  · subst h3
    go_enter Try.func87, Try.ntmps87
    go_wp2
    go_ret2
    exact ⟨rfl, rfl⟩
  · have d3 : decide ((y : Int) = 3) = false := decide_eq_false (by omega)
    have d4 : ((y : Int) == 3) = false := d3
    have d3' : decide (y = 3) = false := decide_eq_false h3
    rw [d3']
    clear d3' h3
    go_enter Try.func87, Try.ntmps87
    go_wp2
    go_ret2
    exact ⟨rfl, rfl⟩

theorem rnput_any (b : Nat) (o : Option Nat) (bs : List Bool) (n : Int) (w : World) (h : Wr w b o bs) (hlen : bs.length < 800000000) (hn : -9223372036854775808 ≤ n ∧ n ≤ 9223372036854775807) :
    Calls Try.prog 33 #[.pointer (some ⟨b, 0, none⟩), .int .i64 n] w fun e w' => e = .returned (.bool (decide (rnOk n))) ∧ WrTo w w' b o (rnPutB bs n) := by
  have HM := Lib.hid (rnmay_any n w)
  by_cases hok : rnOk n
  · rw [decide_eq_true hok] at HM ⊢
    obtain ⟨k, rfl⟩ := Int.eq_ofNat_of_zero_le hok.1
    have hk := hok.2
    have hbs : rnPutB bs (k : Int) = bs ++ rn3 (k / 3) ++ bitsOf (k % 3) 2 := by unfold rnPutB; rw [if_pos hok, Int.toNat_natCast, rnB_threes, List.append_assoc]
    rw [hbs]
    have hq : (k : Int).tdiv 3 = ((k / 3 : Nat) : Int) := by rw [Int.tdiv_eq_ediv_of_nonneg (by omega)]; omega
    have hr : (k : Int).tmod 3 = ((k % 3 : Nat) : Int) := by rw [Int.tmod_eq_emod_of_nonneg (by omega)]; omega
    obtain ⟨q, hqe⟩ : ∃ q, k / 3 = q := ⟨_, rfl⟩
    obtain ⟨r, hre⟩ : ∃ r, k % 3 = r := ⟨_, rfl⟩
    rw [hqe] at hq ⊢
    rw [hre] at hr ⊢
    have hq85 : q ≤ 85 := by omega
    have hr3 : r < 3 := by omega
    have hst : WrTo w w b o (bs ++ rn3 0) := ⟨o, by rw [rn3, List.append_nil]; exact h, Chg.refl _ _, .inl rfl⟩
    have HST := Lib.hid hst; have HL := Lib.hid hlen
    clear hbs hok h hqe hre hst hlen
    go_enter Try.func33, Try.ntmps33
    go_wp2_with fail
    refine (HM.out).mono ?_
    rintro e w1 ⟨rfl, rfl⟩
    go_wp2
    go_loopw [10] (fun i wr => ∃ j : Nat, j ≤ q ∧ i = .int .i64 (j : Int) ∧ WrTo w1 wr b o (bs ++ rn3 j)) (fun i _ => q - (intOf i).toNat)
    case atStart => exact ⟨0, Nat.zero_le _, rfl, HST.out⟩
    case round =>
      obtain ⟨j, hj, rfl, hwr⟩ := hrel
      by_cases hlt : j < q
      · obtain ⟨o1, hw1, hc1, ho1⟩ := hwr
        have P := Lib.hid (put_yes b o1 (bs ++ rn3 j) 3 2 wr hw1 (by rw [List.length_append, rn3_length]; have := HL.out; omega) (by decide) (by decide))
        have K := Lib.hid (And.intro hc1 ho1)
        clear hw1 hc1 ho1
        go_wp2_with fail
        refine (P.out).mono ?_
        rintro e w2 ⟨rfl, hw2⟩
        have hw2' := WrTo.trans K.out.1 K.out.2 hw2
        rw [List.append_assoc] at hw2'
        have HW2 := Lib.hid hw2'
        clear hw2 hw2' P
        go_wp2
        go_roundw
        case rel => exact ⟨j + 1, by omega, by go_num, HW2.out⟩
        case measure => simp [intOf]; omega
      · obtain rfl : j = q := by omega
        obtain ⟨o1, hw1, hc1, ho1⟩ := hwr
        have P := Lib.hid (put_yes b o1 (bs ++ rn3 j) r 2 wr hw1 (by rw [List.length_append, rn3_length]; have := HL.out; omega) (by omega) (by decide))
        have K := Lib.hid (And.intro hc1 ho1)
        have hr32 : (r : Int) % 4294967296 = (r : Int) := by omega
        clear hw1 hc1 ho1
        go_wp2_with fail
        refine (P.out).mono ?_
        rintro e w2 ⟨rfl, hw2⟩
        have HW2 := Lib.hid (WrTo.trans K.out.1 K.out.2 hw2)
        clear hw2 P
        go_wp2
        go_ret
        exact ⟨rfl, HW2.out⟩
  · have hbs : rnPutB bs n = bs := by unfold rnPutB; rw [if_neg hok]
    rw [decide_eq_false hok] at HM ⊢
    have HBS := Lib.hid hbs; have HO := Lib.hid h
    clear hbs h hok
    go_enter Try.func33, Try.ntmps33
    go_wp2_with fail
    refine (HM.out).mono ?_
    rintro e w1 ⟨rfl, rfl⟩
    go_wp2
    go_ret
    exact ⟨rfl, by rw [HBS.out]; exact ⟨o, HO.out, Chg.refl _ _, .inl rfl⟩⟩

theorem rncost_any (n : Int) (w : World) (hn : -9223372036854775808 ≤ n ∧ n ≤ 9223372036854775807) :
    Calls Try.prog 41 #[.int .i64 n] w fun e w' => e = .returned (.int .i64 ((rnCostN n : Nat) : Int)) ∧ Chg (fun _ => False) w w' := by
  have HM := Lib.hid (rnmay_any n w)
  by_cases hok : rnOk n
  · rw [decide_eq_true hok] at HM
    obtain ⟨k, rfl⟩ := Int.eq_ofNat_of_zero_le hok.1
    have hk := hok.2
    have hb : rnCostN (k : Int) = 2 * (k / 3) + 2 := by unfold rnCostN; rw [if_pos hok, Int.toNat_natCast]
    have hq : (k : Int).tdiv 3 = ((k / 3 : Nat) : Int) := by rw [Int.tdiv_eq_ediv_of_nonneg (by omega)]; omega
    rw [hb]
    obtain ⟨q, hqe⟩ : ∃ q, k / 3 = q := ⟨_, rfl⟩
    rw [hqe] at hq ⊢
    have hq85 : q ≤ 85 := by omega
    clear hb hok hqe
    go_enter Try.func41, Try.ntmps41
    go_wp2_with fail
    refine (HM.out).mono ?_
    rintro e w1 ⟨rfl, rfl⟩
    go_wp2
    go_ret
    exact ⟨congrArg (fun z => Ending.returned (Value.int .i64 z)) (by omega), Chg.refl _ _⟩
  · have hb : rnCostN n = 0 := by unfold rnCostN; rw [if_neg hok]
    rw [decide_eq_false hok] at HM
    rw [hb]
    clear hb hok
    go_enter Try.func41, Try.ntmps41
    go_wp2_with fail
    refine (HM.out).mono ?_
    rintro e w1 ⟨rfl, rfl⟩
    go_wp2
    go_ret
    exact ⟨rfl, Chg.refl _ _⟩

/-- whether more come is what the loop asks -/
def moreN : Value → Nat
  | .bool true => 257
  | _ => 256

set_option maxHeartbeats 1000000 in
theorem rntake_any (b : Nat) (o : Option Nat) (xs : List Nat) (p : Nat) (l : Int) (w : World) (h : Rf w b o xs p) (hl : -9223372036854775808 ≤ l ∧ l ≤ 9223372036854775807) :
    Calls Try.prog 86 #[.pointer (some ⟨b, 0, none⟩), .int .i64 l] w fun e w' => e = .returned (.tuple #[.int .i64 (rnTk xs p l).1, .int .i64 (rnTk xs p l).2.1]) ∧ Rf w' b o xs (rnTk xs p l).2.2 ∧ Chg (fun k => k = b) w w' := by
  have H := Lib.hid h
  have HM := Lib.hid (rnmay_any l w)
  by_cases hok : rnOk l
  · rw [decide_eq_true hok] at HM
    obtain ⟨k, rfl⟩ := Int.eq_ofNat_of_zero_le hok.1
    have hk255 := hok.2
    have hb : rnTk xs p (k : Int) = rnGo xs k (4 * xs.length + 1) p 0 := by unfold rnTk; rw [if_pos hok, Int.toNat_natCast]
    rw [hb]
    obtain ⟨G, hG⟩ : ∃ G, rnGo xs k (4 * xs.length + 1) p 0 = G := ⟨_, rfl⟩
    rw [hG]
    have HG := Lib.hid hG; have HP0 := Lib.hid h.2.2.1
    clear hb hG h hok
    go_enter Try.func86, Try.ntmps86
    go_wp2_with fail
    refine (HM.out).mono ?_
    rintro e w1 ⟨rfl, rfl⟩
    go_wp2
    go_loopw [6, 7, 8, 9, 10] (fun o6 o7 _ _ _ wr => ∃ (q acc : Nat) (m : Bool), o6 = .int .i64 (acc : Int) ∧ o7 = .bool m ∧ acc ≤ k ∧ (m = true → ∃ f, rnGo xs k f q acc = G ∧ 8 * xs.length < q + 2 * f) ∧ (m = false → G = ((acc : Int), 0, q)) ∧ q ≤ 8 * xs.length ∧ Rf wr b o xs q ∧ Chg (fun k => k = b) w1 wr) (fun o6 o7 _ _ _ _ => moreN o7 - (intOf o6).toNat)
    case atStart => exact ⟨p, 0, true, rfl, rfl, Nat.zero_le _, fun _ => ⟨4 * xs.length + 1, HG.out, by omega⟩, fun h => by simp at h, HP0.out, H.out, Chg.refl _ _⟩
    case round =>
      obtain ⟨q, acc, m, rfl, rfl, hak, hmt, hmf, hq8, hx, hc⟩ := hrel
      cases m with
      | false =>
        have hg := hmf rfl
        have HGG := Lib.hid hg; have X := Lib.hid hx; have C := Lib.hid hc
        clear hmt hmf hg hx hc
        go_wp2
        go_ret2
        rw [HGG.out]
        exact ⟨rfl, X.out, C.out⟩
      | true =>
        obtain ⟨f, hg, hfuel⟩ := hmt rfl
        clear hmt hmf
        obtain ⟨f, rfl⟩ : ∃ f', f = f' + 1 := ⟨f - 1, by omega⟩
        have hv4 := fv_lt xs q 2
        simp only [rnGo] at hg
        have C := Lib.hid hc
        have haI : (acc : Int) ≤ 255 := by omega
        clear hc
        by_cases hh : q + 2 ≤ 8 * xs.length
        · rw [if_pos hh] at hg
          have hT := ftake_yes b o xs q 2 wr hx (by decide) hh
          obtain ⟨y, hy⟩ : ∃ y, fv xs q 2 = y := ⟨_, rfl⟩
          rw [hy] at hg hT hv4
          have hy4 : y < 4 := hv4
          have T := Lib.hid hT
          obtain ⟨s, hs⟩ : ∃ s, acc + y = s := ⟨_, rfl⟩
          have hsI : (acc : Int) + (y : Int) = (s : Int) := by omega
          rw [hs] at hg
          have HS := Lib.hid hs; have HFU := Lib.hid hfuel; have HH := Lib.hid hh
          have ME := Lib.hid fun W => rnmean_any y W hy4
          clear hT hy hs hfuel hv4 hx
          by_cases h3 : k < s
          · rw [if_pos h3] at hg
            have HGG := Lib.hid hg
            have d4 : k < s := h3
            clear hg hh h3
            go_wp2_with fail
            refine (T.out).mono ?_
            rintro e w3 ⟨rfl, hx3, hc3⟩
            have X3 := Lib.hid hx3; have C3 := Lib.hid (C.out.trans hc3 fun _ _ h => h)
            clear hx3 hc3
            go_wp2_with fail
            refine (ME.out _).mono ?_
            rintro e w4 ⟨rfl, rfl⟩
            go_wp2
            go_ret2
            rw [← HGG.out]
            exact ⟨rfl, X3.out, C3.out⟩
          · rw [if_neg h3] at hg
            have HGG := Lib.hid hg; have H3 := Lib.hid h3
            have d4 : s ≤ k := by omega
            clear hg hh h3
            go_wp2_with fail
            refine (T.out).mono ?_
            rintro e w3 ⟨rfl, hx3, hc3⟩
            have X3 := Lib.hid hx3; have C3 := Lib.hid (C.out.trans hc3 fun _ _ h => h)
            clear hx3 hc3
            go_wp2_with fail
            refine (ME.out _).mono ?_
            rintro e w4 ⟨rfl, rfl⟩
            go_wp2
            go_roundw
            case rel =>
              refine ⟨q + 2, s, decide (y = 3), rfl, rfl, d4, fun hm => ?_, fun hm => ?_, HH.out, X3.out, C3.out⟩
              · have hy3 := of_decide_eq_true hm
                have hg := HGG.out
                rw [if_neg (by omega)] at hg
                exact ⟨f, hg, by have := HFU.out; omega⟩
              · have hy3 := of_decide_eq_false hm
                have hg := HGG.out
                rw [if_pos (by omega)] at hg
                exact hg.symm
            case measure =>
              have hs := HS.out
              by_cases hy3 : y = 3
              · rw [decide_eq_true hy3]; simp [intOf, moreN]; omega
              · rw [decide_eq_false hy3]; simp [intOf, moreN]; omega
        · rw [if_neg hh] at hg
          have T := Lib.hid (ftake_no b o xs q (2 : Int) wr hx (by omega)); have HGG := Lib.hid hg; have X := Lib.hid hx
          clear hg hv4 hx hh
          go_wp2_with fail
          refine (T.out).mono ?_
          rintro e w3 ⟨rfl, hc3⟩
          have C3 := Lib.hid hc3
          clear hc3
          go_wp2
          go_ret2
          rw [← HGG.out]
          exact ⟨rfl, X.out.kept C3.out (fun h => h) (fun _ _ h => h), C.out.trans (C3.out.mono fun _ _ h => h.elim) fun _ _ h => h⟩
  · have hb : rnTk xs p l = (0, 1, p) := by unfold rnTk; rw [if_neg hok]
    rw [decide_eq_false hok] at HM
    rw [hb]
    clear hb h hok
    go_enter Try.func86, Try.ntmps86
    go_wp2_with fail
    refine (HM.out).mono ?_
    rintro e w1 ⟨rfl, rfl⟩
    go_wp2
    go_ret2
    exact ⟨rfl, H.out, Chg.refl _ _⟩

end Go.Proofs.Ytllkfmnofklpmaa

/- What header's zerosTaken and taken tell: a number of zeros, counts, or what they panic with. THIS ALONE SPEAKS OF THE PROGRAM'S OWN TEXT. -/
namespace Go.Proofs.Ytllkfmnofklpmaa
open Go.RowKit

/-- how a number, or an error, is told deep down -/
def deep (t : Int × Int × Nat) : Ending := if t.2.1 = 0 then .returned (.int .i64 t.1) else .panicked (wrongP t.2.1)
theorem deep_ok {v : Int} {p : Nat} : deep (v, 0, p) = .returned (.int .i64 v) := rfl
theorem deep_no {v e : Int} {p : Nat} (h : e ≠ 0) : deep (v, e, p) = .panicked (wrongP e) := by unfold deep; rw [if_neg h]

/-- how many zeros more there are from symbol t on -/
def runT (xs : List Nat) (p t : Nat) : Int × Int × Nat :=
  if 255 < t then (0, 13, p) else if (rnTk xs p (255 - (t : Int))).2.1 ≠ 0 then (0, (rnTk xs p (255 - (t : Int))).2.1, (rnTk xs p (255 - (t : Int))).2.2) else ((rnTk xs p (255 - (t : Int))).1, 0, (rnTk xs p (255 - (t : Int))).2.2)
set_option maxRecDepth 20000 in
theorem runT_ok {xs : List Nat} {p t : Nat} (h : (runT xs p t).2.1 = 0) : t ≤ 255 ∧ ∃ v : Nat, (runT xs p t).1 = (v : Int) ∧ t + v ≤ 255 := by
  unfold runT at h ⊢
  by_cases h5 : 255 < t
  · rw [if_pos h5] at h; simp at h
  · rw [if_neg h5] at h ⊢
    by_cases he : (rnTk xs p (255 - (t : Int))).2.1 ≠ 0
    · rw [if_pos he] at h; exact absurd h he
    · rw [if_neg he]
      obtain ⟨n, e1, e2, -, -⟩ := rnTk_ok (xs := xs) (p := p) (most := 255 - (t : Int)) (by omega) (by omega) (by simpa using he)
      exact ⟨by omega, n, e1, by omega⟩

theorem hdTk_step (xs : List Nat) (fu p left s : Nat) (z : Bool) (q : List Int) (h0 : left ≠ 0) (h5 : s ≤ 255) :
    hdTk xs (fu + 1) p left s z q = if (bgTk xs p (left : Int)).2.1 ≠ 0 then ([], (bgTk xs p (left : Int)).2.1, (bgTk xs p (left : Int)).2.2)
      else if (bgTk xs p (left : Int)).1 = 0 then (if z = true then ([], 13, (bgTk xs p (left : Int)).2.2)
        else if (runT xs (bgTk xs p (left : Int)).2.2 (s + 1)).2.1 ≠ 0 then ([], (runT xs (bgTk xs p (left : Int)).2.2 (s + 1)).2.1, (runT xs (bgTk xs p (left : Int)).2.2 (s + 1)).2.2)
        else hdTk xs fu (runT xs (bgTk xs p (left : Int)).2.2 (s + 1)).2.2 left (s + 1 + (runT xs (bgTk xs p (left : Int)).2.2 (s + 1)).1.toNat) true (q.set s 0))
      else hdTk xs fu (bgTk xs p (left : Int)).2.2 (left - (bgTk xs p (left : Int)).1.toNat) (s + 1) false (q.set s (bgTk xs p (left : Int)).1) := by
  simp only [hdTk]
  rw [if_neg h0, if_neg (by omega)]
  obtain ⟨P, hP⟩ : ∃ P, (bgTk xs p (left : Int)).2.2 = P := ⟨_, rfl⟩
  rw [hP]
  by_cases h6 : 255 < s + 1
  · have hr : runT xs P (s + 1) = (0, 13, P) := by unfold runT; rw [if_pos h6]
    rw [hr, if_pos h6]
    simp only []
    rw [if_pos (show (13 : Int) ≠ 0 by decide)]
  · rw [if_neg h6]
    by_cases hr : (rnTk xs P (255 - ((s + 1 : Nat) : Int))).2.1 ≠ 0
    · have hr' : runT xs P (s + 1) = (0, (rnTk xs P (255 - ((s + 1 : Nat) : Int))).2.1, (rnTk xs P (255 - ((s + 1 : Nat) : Int))).2.2) := by unfold runT; rw [if_neg h6, if_pos hr]
      rw [if_pos hr, hr']
      simp only []
      rw [if_pos hr]
    · have hr' : runT xs P (s + 1) = ((rnTk xs P (255 - ((s + 1 : Nat) : Int))).1, 0, (rnTk xs P (255 - ((s + 1 : Nat) : Int))).2.2) := by unfold runT; rw [if_neg h6, if_neg hr]
      rw [if_neg hr, hr']
      simp only []
      rw [if_neg (show ¬ ((0 : Int) ≠ 0) by simp)]

theorem hdzeros_any (b : Nat) (o : Option Nat) (xs : List Nat) (p t : Nat) (w : World) (h : Rf w b o xs p) (ht : t ≤ 256) :
    Calls Try.prog 79 #[.pointer (some ⟨b, 0, none⟩), .int .i64 (t : Int)] w fun e w' => e = deep (runT xs p t) ∧ Rf w' b o xs (runT xs p t).2.2 ∧ Chg (fun k => k = b) w w' := by
  obtain ⟨G, hG⟩ : ∃ G, runT xs p t = G := ⟨_, rfl⟩
  rw [hG]
  unfold runT at hG
  by_cases h5 : 255 < t
  · rw [if_pos h5] at hG
    subst hG
    have NO := Lib.hid fun w => hdmore_no t (by omega) w
    have H := Lib.hid h
    clear h h5 ht
    go_enter Try.func79, Try.ntmps79
    go_wp2_with fail
    refine (NO.out _).mono ?_
    rintro e w1 ⟨rfl, rfl⟩
    go_wp2
    exact ⟨rfl, (deep_no (by decide)).symm, H.out, Chg.refl _ _⟩
  · rw [if_neg h5] at hG
    have YES := Lib.hid fun w => hdmore_ok t (by omega) w
    have T := Lib.hid (rntake_any b o xs p (255 - (t : Int)) w h (by omega))
    have htI : (t : Int) ≤ 255 := by omega
    obtain ⟨B, hB⟩ : ∃ B, rnTk xs p (255 - (t : Int)) = B := ⟨_, rfl⟩
    rw [hB] at hG T
    obtain ⟨v, er, p1⟩ := B
    simp only [] at hG T
    clear hB h h5 ht
    by_cases he : er ≠ 0
    · rw [if_pos he] at hG
      have NO := Lib.hid fun w => hdsound_no v er he w
      have HE := Lib.hid he
      subst hG
      clear he
      go_enter Try.func79, Try.ntmps79
      go_wp2_with fail
      refine (YES.out _).mono ?_
      rintro e w1 ⟨rfl, rfl⟩
      go_wp2_with fail
      refine (T.out).mono ?_
      rintro e w2 ⟨rfl, hx2, hc2⟩
      have X2 := Lib.hid hx2; have C2 := Lib.hid hc2
      clear hx2 hc2
      go_wp2_with fail
      refine (NO.out _).mono ?_
      rintro e w3 ⟨rfl, rfl⟩
      go_wp2
      exact ⟨rfl, (deep_no HE.out).symm, X2.out, C2.out⟩
    · rw [if_neg he] at hG
      obtain rfl : er = 0 := by omega
      have OK := Lib.hid fun w => hdsound_ok v w
      subst hG
      clear he
      go_enter Try.func79, Try.ntmps79
      go_wp2_with fail
      refine (YES.out _).mono ?_
      rintro e w1 ⟨rfl, rfl⟩
      go_wp2_with fail
      refine (T.out).mono ?_
      rintro e w2 ⟨rfl, hx2, hc2⟩
      have X2 := Lib.hid hx2; have C2 := Lib.hid hc2
      clear hx2 hc2
      go_wp2_with fail
      refine (OK.out _).mono ?_
      rintro e w3 ⟨rfl, rfl⟩
      go_wp2
      go_ret
      exact ⟨rfl, X2.out, C2.out⟩

set_option maxRecDepth 20000 in
set_option maxHeartbeats 4000000 in
theorem hdtaken_any (b : Nat) (o : Option Nat) (xs : List Nat) (p P : Nat) (w : World) (h : Rf w b o xs p) (hP4 : P ≤ 4096) :
    Calls Try.prog 65 #[.pointer (some ⟨b, 0, none⟩), .int .i64 (P : Int)] w fun e w' =>
      ((hdTk xs 257 p P 0 false (List.replicate 256 0)).2.1 = 0 ∧ e = .returned (.slice (some ⟨w.heap.size, 0, none⟩) 256 256) ∧ RdI w' (.slice (some ⟨w.heap.size, 0, none⟩) 256 256) (hdTk xs 257 p P 0 false (List.replicate 256 0)).1 ∨
       (hdTk xs 257 p P 0 false (List.replicate 256 0)).2.1 ≠ 0 ∧ (hdTk xs 257 p P 0 false (List.replicate 256 0)).1 = [] ∧ e = .panicked (wrongP (hdTk xs 257 p P 0 false (List.replicate 256 0)).2.1)) ∧
      Rf w' b o xs (hdTk xs 257 p P 0 false (List.replicate 256 0)).2.2 ∧ Chg (fun k => k = b) w w' := by
  have H := Lib.hid h
  have hlt := h.lt
  obtain ⟨Z, hZ⟩ : ∃ Z : List Int, Z = List.replicate 256 0 := ⟨_, rfl⟩
  have hZl : Z.length = 256 := by rw [hZ]; exact List.length_replicate
  rw [← hZ]
  obtain ⟨R, hR⟩ : ∃ R, hdTk xs 257 p P 0 false Z = R := ⟨_, rfl⟩
  rw [hR]
  have HR := Lib.hid hR; have HZ := Lib.hid hZ; have HZL := Lib.hid hZl; have HLT := Lib.hid hlt
  have hP4I : (P : Int) ≤ 4096 := by omega
  clear h hR hZ hZl hlt
  go_enter Try.func65, Try.ntmps65
  go_wp2_with (at_make; refine wpList_make_ints rfl _ _ rfl 256 256 256 rfl rfl rfl rfl (by omega) Z HZ.out ?_)
  intro w1 r1 c1
  obtain ⟨g, hg⟩ : ∃ g, w.heap.size = g := ⟨_, rfl⟩
  rw [hg] at r1 ⊢
  have HG := Lib.hid (show b < g ∧ (∀ q, o = some q → q < g) from ⟨by have := HLT.out.1; omega, fun q hq => by have := (HLT.out.2 q hq).1; omega⟩)
  have HGW := Lib.hid hg
  have R1 := Lib.hid r1; have C1 := Lib.hid (show Chg (fun k => k = b) w w1 from c1.mono fun _ _ h => h.elim); have X1 := Lib.hid (H.out.kept c1 (by simp) (by simp))
  clear r1 c1 hg
  go_wp2
  go_loopw [1, 6, 7, 8] (fun o1 o6 o7 _ wr => ∃ (fu q left s : Nat) (z : Bool) (y : Int) (cs : List Int), o1 = .int .i64 (left : Int) ∧ o6 = .int .i64 y ∧ o7 = .int .i64 (s : Int) ∧ ((z = true ∧ y = 1) ∨ (z = false ∧ y = 0)) ∧ hdTk xs fu q left s z cs = R ∧ 256 < s + fu ∧ s ≤ 256 ∧ left ≤ 4096 ∧ cs.length = 256 ∧ RowI wr g 3 cs ∧ Rf wr b o xs q ∧ Chg (fun k => k = b) w wr) (fun _ _ o7 _ _ => 256 - (intOf o7).toNat)
  case atStart => exact ⟨257, p, P, 0, false, 0, Z, rfl, rfl, rfl, .inr ⟨rfl, rfl⟩, HR.out, by omega, by omega, hP4, HZL.out, R1.out, X1.out, C1.out⟩
  case round =>
    obtain ⟨fu, q, left, s, z, y, cs, rfl, rfl, rfl, hzy, hg, hfu, hs, hl, hcs, hrow, hx, hc⟩ := hrel
    clear R1 C1 X1 HR
    obtain ⟨fu, rfl⟩ : ∃ f', fu = f' + 1 := ⟨fu - 1, by omega⟩
    have hsI : (s : Int) ≤ 256 := by omega
    have hlI : (left : Int) ≤ 4096 := by omega
    have ROW := Lib.hid hrow; have C := Lib.hid hc; have HCS := Lib.hid hcs; have HFU := Lib.hid hfu
    by_cases h0 : left = 0
    · subst h0
      simp only [hdTk] at hg
      rw [if_pos True.intro] at hg
      have HGG := Lib.hid hg; have X := Lib.hid hx
      clear hg hx hrow hc hcs hfu hzy
      go_wp2
      go_ret
      rw [← HGG.out, HGW.out]
      exact ⟨.inl ⟨rfl, rfl, by have := ROW.out.rd 256; rw [HCS.out] at this; exact this⟩, X.out, C.out⟩
    · have e0 : decide (0 < (left : Int)) = true := decide_eq_true (by omega)
      by_cases h5 : 255 < s
      · simp only [hdTk] at hg
        rw [if_neg h0, if_pos h5] at hg
        have HGG := Lib.hid hg; have X := Lib.hid hx
        have NO := Lib.hid fun w => hdmore_no s (by omega) w
        clear hg hx hrow hc hcs hfu hzy
        go_wp2_with fail
        refine (NO.out _).mono ?_
        rintro e w2 ⟨rfl, rfl⟩
        go_wp2
        rw [← HGG.out]
        exact ⟨rfl, .inr ⟨show (13 : Int) ≠ 0 by decide, rfl, rfl⟩, X.out, C.out⟩
      have hs255 : s ≤ 255 := by omega
      rw [hdTk_step xs fu q left s z cs h0 hs255] at hg
      have YES := Lib.hid fun w => hdmore_ok s hs255 w
      have hok := fun h => bgTk_ok (xs := xs) (p := q) (l := left) (show 1 ≤ left by omega) hl h
      have T := Lib.hid (bgtake_any b o xs q (left : Int) wr hx (by omega))
      obtain ⟨B, hB⟩ : ∃ B, bgTk xs q (left : Int) = B := ⟨_, rfl⟩
      rw [hB] at hg hok T
      obtain ⟨v, er, p1⟩ := B
      simp only [] at hg T hok
      clear hB hx hrow hc hcs hfu
      have KEEP := Lib.hid fun w3 (hc3 : Chg (fun k => k = b) wr w3) => (show RowI w3 g 3 cs ∧ Chg (fun k => k = b) w w3 from ⟨ROW.out.kept hc3 (fun (hh : g = b) => by have := HG.out.1; omega), C.out.trans hc3 fun _ _ h => h⟩)
      by_cases he : er ≠ 0
      · rw [if_pos he] at hg
        have NO := Lib.hid fun w => hdsound_no v er he w
        have HGG := Lib.hid hg; have HE := Lib.hid he
        clear hg hok he hzy h5
        go_wp2_with fail
        refine (YES.out _).mono ?_
        rintro e w2 ⟨rfl, rfl⟩
        go_wp2_with fail
        refine (T.out).mono ?_
        rintro e w3 ⟨rfl, hx3, hc3⟩
        have X3 := Lib.hid hx3; have C3 := Lib.hid (KEEP.out w3 hc3).2
        clear hx3 hc3
        go_wp2_with fail
        refine (NO.out _).mono ?_
        rintro e w4 ⟨rfl, rfl⟩
        go_wp2
        rw [← HGG.out]
        exact ⟨rfl, .inr ⟨HE.out, rfl, rfl⟩, X3.out, C3.out⟩
      · rw [if_neg he] at hg
        obtain rfl : er = 0 := by omega
        obtain ⟨v, rfl, hvl⟩ : ∃ n : Nat, v = (n : Int) ∧ n ≤ left := by
          obtain ⟨b1, b2, b3⟩ := hok rfl
          exact ⟨_, congrArg Prod.fst b3, b2⟩
        have OK := Lib.hid fun w => hdsound_ok (v : Int) w
        have hvI : (v : Int) ≤ (left : Int) := by omega
        have hs256 : (s : Int) < 256 := by omega
        have hsc : s < cs.length := by rw [HCS.out]; omega
        have HSC := Lib.hid hsc
        by_cases hvz : v = 0 ∧ z = true
        · obtain ⟨rfl, rfl⟩ := hvz
          rw [if_pos (show ((0 : Nat) : Int) = 0 from rfl), if_pos rfl] at hg
          have hy : y = 1 := by
            rcases hzy with h | h
            · exact h.2
            · exact absurd h.1 (by decide)
          subst hy
          have HGG := Lib.hid hg
          clear hg hok hzy h5 he hsc
          go_wp2_with fail
          refine (YES.out _).mono ?_
          rintro e w2 ⟨rfl, rfl⟩
          go_wp2_with fail
          refine (T.out).mono ?_
          rintro e w3 ⟨rfl, hx3, hc3⟩
          have X3 := Lib.hid hx3; have C3 := Lib.hid (KEEP.out w3 hc3).2
          clear hx3 hc3
          go_wp2_with fail
          refine (OK.out _).mono ?_
          rintro e w4 ⟨rfl, rfl⟩
          go_wp2
          rw [← HGG.out]
          exact ⟨rfl, .inr ⟨show (13 : Int) ≠ 0 by decide, rfl, rfl⟩, X3.out, C3.out⟩
        have dvy : decide ((v : Int) < y) = false := by
          refine decide_eq_false fun hh => hvz ?_
          rcases hzy with h | h
          · exact ⟨by omega, h.1⟩
          · omega
        have STO := Lib.hid fun w3 (hc3 : Chg (fun k => k = b) wr w3) (hx3 : Rf w3 b o xs p1) => (show w3.cell? ⟨g, s, none⟩ = some (.int .i64 (cs.getD s 0)) ∧ w3.frozen? ⟨g, s, none⟩ = false ∧ RowI (w3.setCell ⟨g, s, none⟩ (.int .i64 (v : Int))) g 3 (cs.set s (v : Int)) ∧ Rf (w3.setCell ⟨g, s, none⟩ (.int .i64 (v : Int))) b o xs p1 ∧ Chg (fun k => k = b) w (w3.setCell ⟨g, s, none⟩ (.int .i64 (v : Int))) by
          obtain ⟨k1, k2⟩ := KEEP.out w3 hc3
          have sc := Chg.setCell w3 ⟨g, s, none⟩ (.int .i64 (v : Int))
          exact ⟨k1.cell s HSC.out, k1.free s, k1.set s (v : Int), hx3.kept sc (fun (hh : b = g) => by have := HG.out.1; omega) (fun q hq (hh : q = g) => by have := HG.out.2 q hq; omega), k2.trans sc (fun q hq (hh : q = g) => by have := HGW.out; omega)⟩)
        clear hsc he hok h5
        by_cases hv0 : v = 0
        · subst hv0
          have hz0 : ¬ z = true := fun h => hvz ⟨rfl, h⟩
          rw [if_pos (show ((0 : Nat) : Int) = 0 from rfl), if_neg hz0] at hg
          have hy : y = 0 := by
            rcases hzy with h | h
            · exact absurd h.1 hz0
            · exact h.2
          subst hy
          obtain ⟨s1, hs1⟩ : ∃ s1, s + 1 = s1 := ⟨_, rfl⟩
          have hs1I : (s : Int) + 1 = (s1 : Int) := by omega
          rw [hs1] at hg
          have T2 := Lib.hid fun W (hX : Rf W b o xs p1) => hdzeros_any b o xs p1 s1 W hX (by omega)
          have hrok := fun h => runT_ok (xs := xs) (p := p1) (t := s1) h
          obtain ⟨B, hB⟩ : ∃ B, runT xs p1 s1 = B := ⟨_, rfl⟩
          rw [hB] at hg T2 hrok
          obtain ⟨n, er2, p2⟩ := B
          simp only [] at hg T2 hrok
          clear hB hvz hz0 hzy
          by_cases he2 : er2 ≠ 0
          · rw [if_pos he2] at hg
            rw [deep_no he2] at T2
            have HGG := Lib.hid hg; have HE := Lib.hid he2
            clear hg hrok he2
            go_wp2_with fail
            refine (YES.out _).mono ?_
            rintro e w2 ⟨rfl, rfl⟩
            go_wp2_with fail
            refine (T.out).mono ?_
            rintro e w3 ⟨rfl, hx3, hc3⟩
            obtain ⟨k1, k2, k3, k4, k5⟩ := STO.out w3 hc3 hx3
            have T3 := Lib.hid (T2.out _ k4); have C3 := Lib.hid k5
            clear hx3 hc3 k3 k4 k5
            go_wp2_with fail
            refine (OK.out _).mono ?_
            rintro e w4 ⟨rfl, rfl⟩
            go_wp2_with fail
            refine (T3.out).mono ?_
            rintro e w4 ⟨rfl, hx4, hc4⟩
            have X4 := Lib.hid hx4; have C4 := Lib.hid (C3.out.trans hc4 fun _ _ h => h)
            clear hx4 hc4
            go_wp2
            rw [← HGG.out]
            exact ⟨rfl, .inr ⟨HE.out, rfl, rfl⟩, X4.out, C4.out⟩
          · rw [if_neg he2] at hg
            obtain rfl : er2 = 0 := by omega
            obtain ⟨hs1b, n, rfl, hsn⟩ := hrok rfl
            rw [deep_ok] at T2
            rw [Int.toNat_natCast] at hg
            have hg' : hdTk xs fu p2 left (s1 + n) true (cs.set s ((0 : Nat) : Int)) = R := hg
            have HGG := Lib.hid hg'; have HS1 := Lib.hid hs1
            have hnI : (s1 : Int) + (n : Int) ≤ 255 := by omega
            have hn0 : (0 : Int) ≤ (n : Int) := by omega
            clear hg hg' hrok he2 hs1
            go_wp2_with fail
            refine (YES.out _).mono ?_
            rintro e w2 ⟨rfl, rfl⟩
            go_wp2_with fail
            refine (T.out).mono ?_
            rintro e w3 ⟨rfl, hx3, hc3⟩
            obtain ⟨k1, k2, k3, k4, k5⟩ := STO.out w3 hc3 hx3
            have T3 := Lib.hid (T2.out _ k4); have C3 := Lib.hid k5; have R3 := Lib.hid k3
            clear hx3 hc3 k3 k4 k5
            go_wp2_with fail
            refine (OK.out _).mono ?_
            rintro e w4 ⟨rfl, rfl⟩
            go_wp2_with fail
            refine (T3.out).mono ?_
            rintro e w4 ⟨rfl, hx4, hc4⟩
            have X4 := Lib.hid hx4; have C4 := Lib.hid (C3.out.trans hc4 fun _ _ h => h); have R4 := Lib.hid (R3.out.kept hc4 (fun (hh : g = b) => by have := HG.out.1; omega))
            clear hx4 hc4
            go_wp2
            go_roundw
            case rel => exact ⟨fu, p2, left, s1 + n, true, 1, _, by go_num, rfl, by go_num, .inl ⟨rfl, rfl⟩, HGG.out, by have := HFU.out; have := HS1.out; omega, by omega, hl, by rw [List.length_set]; exact HCS.out, R4.out, X4.out, C4.out⟩
            case measure => have := HS1.out; simp [intOf]; omega
        · have hvn : ¬ ((v : Int) = 0) := by omega
          rw [if_neg hvn, Int.toNat_natCast] at hg
          have HGG := Lib.hid hg
          have ev : ((v : Int) == 0) = false := by simp; omega
          clear hg hvz hzy hvn
          go_wp2_with fail
          refine (YES.out _).mono ?_
          rintro e w2 ⟨rfl, rfl⟩
          go_wp2_with fail
          refine (T.out).mono ?_
          rintro e w3 ⟨rfl, hx3, hc3⟩
          obtain ⟨k1, k2, k3, k4, k5⟩ := STO.out w3 hc3 hx3
          have X3 := Lib.hid k4; have C3 := Lib.hid k5; have R3 := Lib.hid k3
          clear hx3 hc3 k3 k4 k5
          go_wp2_with fail
          refine (OK.out _).mono ?_
          rintro e w4 ⟨rfl, rfl⟩
          go_wp2
          go_roundw
          case rel => exact ⟨fu, p1, left - v, s + 1, false, 0, _, by congr 1; omega, rfl, by go_num, .inr ⟨rfl, rfl⟩, HGG.out, by have := HFU.out; omega, by omega, by omega, by rw [List.length_set]; exact HCS.out, R3.out, X3.out, C3.out⟩
          case measure => simp [intOf]; omega

end Go.Proofs.Ytllkfmnofklpmaa

/- What header's Take tells: what is panicked with deep down is recovered from, and is the error. THIS ALONE SPEAKS OF THE PROGRAM'S OWN TEXT. -/
namespace Go.Proofs.Ytllkfmnofklpmaa
open Go.RowKit

set_option maxRecDepth 20000 in
set_option maxHeartbeats 2000000 in
theorem hdcaught_any (b : Nat) (o : Option Nat) (xs : List Nat) (p P : Nat) (w : World) (h : Rf w b o xs p) (hP4 : P ≤ 4096) :
    Calls Try.prog 43 #[.pointer (some ⟨b, 0, none⟩), .int .i64 (P : Int)] w fun e w' => ∃ v', e = .returned (.tuple #[v', .int .i64 (hdTk xs 257 p P 0 false (List.replicate 256 0)).2.1]) ∧ RdI w' v' (hdTk xs 257 p P 0 false (List.replicate 256 0)).1 ∧ (∀ k, v'.ownBlock = some k → w.heap.size ≤ k) ∧ RoomOk v' ∧ Rf w' b o xs (hdTk xs 257 p P 0 false (List.replicate 256 0)).2.2 ∧ Chg (fun k => k = b) w w' := by
  have H := Lib.hid h
  have hmf : ∀ (fn : Fn) (first cap : Array Value) (w : World), (Instr.makeFunc fn first cap).run Try.prog w = .ok (.func fn first cap) w := fun _ _ _ _ => rfl
  have CA := Lib.hid (show ∀ (x y : Value), Chg (fun _ => False) w ((w.alloc (.cells #[x] 22)).alloc (.cells #[y] 40)) from fun x y => (Chg.alloc _ _ _).trans (Chg.alloc (fun _ => False) _ _) fun _ _ h => h)
  have RE := Lib.hid fun W (hX : Rf W b o xs p) => hdtaken_any b o xs p P W hX hP4
  have hP4I : (P : Int) ≤ 4096 := by omega
  obtain ⟨R, hR⟩ : ∃ R, hdTk xs 257 p P 0 false (List.replicate 256 0) = R := ⟨_, rfl⟩
  rw [hR] at RE ⊢
  obtain ⟨L, E, Q⟩ := R
  simp only [] at RE ⊢
  have X1 := Lib.hid (H.out.kept (CA.out (.slice none 0 0) (.int .i64 0)) (by simp) (by simp))
  have R1 := Lib.hid (RE.out _ X1.out)
  have HLT := Lib.hid h.lt
  have hsz1 : ∀ (W : World) (z : Obj), (W.alloc z).heap.size = W.heap.size + 1 := fun W z => by simp
  have B1 := Lib.hid (show Bx ((w.alloc (.cells #[.slice none 0 0] 22)).alloc (.cells #[.int .i64 0] 40)) w.heap.size 22 (.slice none 0 0) from (Bx.new w 22 (.slice none 0 0)).kept (Chg.alloc (fun _ => False) _ _) (by simp))
  have B2 := Lib.hid (show Bx ((w.alloc (.cells #[.slice none 0 0] 22)).alloc (.cells #[.int .i64 0] 40)) (w.heap.size + 1) 40 (.int .i64 0) from by have := Bx.new (w.alloc (.cells #[.slice none 0 0] 22)) 40 (.int .i64 0); rwa [hsz1] at this)
  have hsz2 : ((w.alloc (.cells #[.slice none 0 0] 22)).alloc (.cells #[.int .i64 0] 40)).heap.size = w.heap.size + 1 + 1 := by rw [hsz1, hsz1]
  have CW := Lib.hid fun (W : World) (hc : Chg (fun k => k = b) ((w.alloc (.cells #[.slice none 0 0] 22)).alloc (.cells #[.int .i64 0] 40)) W) => show Chg (fun k => k = b) w W from ((CA.out _ _).mono fun _ _ h => h.elim).trans hc fun _ _ h => h
  have HSZ := Lib.hid hsz2
  clear h hR hsz1 hsz2 RE
  go_enter_defers Try.func43, Try.ntmps43
  go_wp2_with fail
  refine (R1.out).mono ?_
  rintro e w1 ⟨⟨hE, rfl, hv⟩ | ⟨hE, hL, rfl⟩, hx1, hc1⟩
  · rw [HSZ.out] at hv ⊢
    have k1 := B1.out.kept hc1 (fun (hh : w.heap.size = b) => by have := HLT.out.1; omega)
    have k2 := B2.out.kept hc1 (fun (hh : w.heap.size + 1 = b) => by have := HLT.out.1; omega)
    have s1 := Chg.setCell w1 ⟨w.heap.size, 0, none⟩ (.slice (some ⟨w.heap.size + 1 + 1, 0, none⟩) 256 256)
    have k3 := k1.set (.slice (some ⟨w.heap.size + 1 + 1, 0, none⟩) 256 256)
    have k4 := k2.kept s1 (fun (hh : w.heap.size + 1 = w.heap.size) => by omega)
    have s2 := Chg.setCell (w1.setCell ⟨w.heap.size, 0, none⟩ (.slice (some ⟨w.heap.size + 1 + 1, 0, none⟩) 256 256)) ⟨w.heap.size + 1, 0, none⟩ (.int .i64 0)
    have k5 := k3.kept s2 (fun (hh : w.heap.size = w.heap.size + 1) => by omega)
    have k6 := k4.set (.int .i64 0)
    have SC := Lib.hid (show Chg (fun k => k = w.heap.size ∨ k = w.heap.size + 1) w1 _ from (s1.mono fun k _ hk => .inl hk : Chg (fun k => k = w.heap.size ∨ k = w.heap.size + 1) _ _).trans (s2.mono fun k _ hk => .inr hk : Chg (fun k => k = w.heap.size ∨ k = w.heap.size + 1) _ _) fun _ _ h => h)
    have a1 := k1.cell; have a2 := k1.free; have b1 := k4.cell; have b2 := k4.free
    have K5 := Lib.hid k5.cell; have K6 := Lib.hid k6.cell
    have X2 := Lib.hid hx1; have C2 := Lib.hid hc1; have V2 := Lib.hid hv
    clear hx1 hc1 hv k1 k2 k3 k4 k5 k6 s1 s2
    subst hE
    go_wp2
    refine leaves_cons (f := 64) (args := #[.pointer (some ⟨w.heap.size, 0, none⟩), .pointer (some ⟨w.heap.size + 1, 0, none⟩)]) (by simp) (by simp [go_sem]) ?_
    refine (hddoor_idle ⟨w.heap.size, 0, none⟩ ⟨w.heap.size + 1, 0, none⟩ _).mono ?_
    rintro e u' w'' ⟨rfl, rfl, rfl⟩
    simp only [settle]
    have K5 := K5.out; have K6 := K6.out
    refine ⟨_, by simp [results, Try.results43, go_sem, K5, K6]; rfl, ?_⟩
    exact ⟨_, rfl, V2.out.kept SC.out (fun k hk => by simp [Value.ownBlock] at hk; omega), fun k hk => by simp [Value.ownBlock] at hk; omega, .of (Nat.le_refl _), X2.out.kept SC.out (by have := HLT.out.1; omega) (fun k hk => by have := (HLT.out.2 k hk).1; omega), (CW.out w1 C2.out).trans SC.out fun k hk hh => by omega⟩
  · have k1 := B1.out.kept hc1 (fun (hh : w.heap.size = b) => by have := HLT.out.1; omega)
    have k2 := B2.out.kept hc1 (fun (hh : w.heap.size + 1 = b) => by have := HLT.out.1; omega)
    have K1 := Lib.hid k1; have K2 := Lib.hid k2
    have X2 := Lib.hid hx1; have C2 := Lib.hid hc1
    clear hx1 hc1 k1 k2
    go_wp2
    refine leaves_cons (f := 64) (args := #[.pointer (some ⟨w.heap.size, 0, none⟩), .pointer (some ⟨w.heap.size + 1, 0, none⟩)]) (by simp) (by simp [go_sem]) ?_
    refine (hddoor_panics w.heap.size (w.heap.size + 1) _ _ _ _ E w1 K1.out K2.out (by omega)).mono ?_
    rintro e u' w'' ⟨rfl, rfl, k3, k4, hsc⟩
    simp only [settle, List.dropWhile]
    have K5 := k3.cell; have K6 := k4.cell
    refine ⟨_, by simp [results, Try.results43, go_sem, K5, K6]; rfl, ?_⟩
    exact ⟨_, rfl, .inl ⟨hL, none, 0, rfl⟩, by simp [Value.ownBlock], .of (Nat.le_refl _), X2.out.kept hsc (by have := HLT.out.1; omega) (fun k hk => by have := (HLT.out.2 k hk).1; omega), (CW.out w1 C2.out).trans hsc fun k hk hh => by omega⟩

set_option maxRecDepth 20000 in
theorem hdtake_any (b : Nat) (o : Option Nat) (xs : List Nat) (p : Nat) (l : Int) (w : World) (h : Rf w b o xs p) (hl : -9223372036854775808 ≤ l ∧ l ≤ 9223372036854775807) :
    Calls Try.prog 19 #[.pointer (some ⟨b, 0, none⟩), .int .i64 l] w fun e w' => ∃ v', e = .returned (.tuple #[v', .int .i64 (hdRes xs p l).2.1]) ∧ RdI w' v' (hdRes xs p l).1 ∧ (∀ k, v'.ownBlock = some k → w.heap.size ≤ k) ∧ RoomOk v' ∧ Rf w' b o xs (hdRes xs p l).2.2 ∧ Chg (fun k => k = b) w w' := by
  by_cases h1 : 1 ≤ l ∧ l ≤ 12
  · have hb : hdRes xs p l = hdTk xs 257 p (2 ^ l.toNat) 0 false (List.replicate 256 0) := by unfold hdRes; rw [if_pos h1]
    rw [hb]
    obtain ⟨k, rfl⟩ := Int.eq_ofNat_of_zero_le (show 0 ≤ l by omega)
    rw [Int.toNat_natCast]
    obtain ⟨P, hP⟩ : ∃ P, 2 ^ k = P := ⟨_, rfl⟩
    have hPI : (2 : Int) ^ k = (P : Int) := by rw [← hP]; simp
    have hP4 : P ≤ 4096 := by rw [← hP]; exact pow_le (show k ≤ 12 by omega)
    rw [hP]
    have RE := Lib.hid (hdcaught_any b o xs p P w h hP4)
    obtain ⟨R, hR⟩ : ∃ R, hdTk xs 257 p P 0 false (List.replicate 256 0) = R := ⟨_, rfl⟩
    rw [hR] at RE ⊢
    have d1 : decide ((k : Int) < 1) = false := decide_eq_false (by omega)
    have d2 : decide (12 < (k : Int)) = false := decide_eq_false (by omega)
    have hk64 : (k : Int) < 64 := by omega
    have hP4I : (P : Int) ≤ 4096 := by omega
    obtain ⟨L, E, Q⟩ := R
    simp only [] at RE ⊢
    clear hb h h1 hR hP
    go_enter Try.func19, Try.ntmps19
    go_wp2_with fail
    refine (RE.out).mono ?_
    rintro e w1 ⟨v1, rfl, hv, ho, hr, hx, hc⟩
    have K := Lib.hid (And.intro hv (And.intro ho (And.intro hr (And.intro hx hc))))
    clear hv ho hr hx hc
    go_wp2
    go_ret2
    exact ⟨_, rfl, K.out⟩
  · have hb : hdRes xs p l = ([], 1, p) := by unfold hdRes; rw [if_neg h1]
    rw [hb]
    have H := Lib.hid h
    by_cases h2 : l < 1
    · have d1 : decide (l < 1) = true := decide_eq_true h2
      clear hb h h1
      go_enter Try.func19, Try.ntmps19
      go_wp2
      go_ret2
      exact ⟨_, rfl, .inl ⟨rfl, none, 0, rfl⟩, by simp [Value.ownBlock], .of (Nat.le_refl _), H.out, Chg.refl _ _⟩
    · have d1 : decide (l < 1) = false := decide_eq_false h2
      have d2 : decide (12 < l) = true := decide_eq_true (by omega)
      clear hb h h1 h2
      go_enter Try.func19, Try.ntmps19
      go_wp2
      go_ret2
      exact ⟨_, rfl, .inl ⟨rfl, none, 0, rfl⟩, by simp [Value.ownBlock], .of (Nat.le_refl _), H.out, Chg.refl _ _⟩

end Go.Proofs.Ytllkfmnofklpmaa

/- Plain: how a walk over normalized counts goes on, step by step (for header's Put and Cost). -/
namespace Go.Proofs.Ytllkfmnofklpmaa
open Go

/-- so much is left at s, and there is fuel -/
structure HdAt (f : Nat → Nat) (fu left s : Nat) : Prop where
  sum : sumTo f 256 = sumTo f s + left
  fuel : 256 < s + fu
  hs : s ≤ 256
  hl : left ≤ 4096
theorem HdAt.begin {f : Nat → Nat} {L : Nat} (h : sumTo f 256 = L) (hl : L ≤ 4096) : HdAt f 257 L 0 := ⟨by rw [h]; show _ = 0 + _; omega, by omega, by omega, hl⟩
theorem HdAt.more {f : Nat → Nat} {fu left s : Nat} (h : HdAt f fu left s) (h0 : left ≠ 0) : s < 256 ∧ f s ≤ left ∧ ∃ fu', fu = fu' + 1 ∧
    (0 < f s → HdAt f fu' (left - f s) (s + 1) ∧ hdGo f fu left s = bitsOf (f s) (widthI (left : Int)) ++ hdGo f fu' (left - f s) (s + 1)) ∧
    (f s = 0 → ∃ z, s + 1 + z ≤ 255 ∧ (∀ j, j < z → f (s + 1 + j) = 0) ∧ 0 < f (s + 1 + z) ∧ HdAt f fu' left (s + 1 + z) ∧ hdGo f fu left s = bitsOf 0 (widthI (left : Int)) ++ (rnB z ++ hdGo f fu' left (s + 1 + z))) := by
  have hsum := h.sum
  have hs256 : s < 256 := by
    by_cases hh : s < 256
    · exact hh
    · have : s = 256 := by have := h.hs; omega
      rw [this] at hsum; omega
  have hfs : sumTo f (s + 1) = sumTo f s + f s := rfl
  have hm := sum_mono (f := f) (show s + 1 ≤ 256 by omega)
  refine ⟨hs256, by omega, fu - 1, by have := h.fuel; omega, fun hp => ⟨⟨by omega, by have := h.fuel; omega, by omega, by have := h.hl; omega⟩, ?_⟩, fun hz => ?_⟩
  · obtain ⟨fu', hfu⟩ : ∃ f', fu = f' + 1 := ⟨fu - 1, by have := h.fuel; omega⟩
    subst hfu
    simp only [hdGo]
    rw [if_neg h0, if_pos hp, Nat.add_sub_cancel]
  · obtain ⟨t, ht1, ht2, ht3⟩ := sum_some (f := f) (s := s + 1) (256 - (s + 1)) (by rw [show s + 1 + (256 - (s + 1)) = 256 by omega]; omega)
    have hst := zr_stop f (256 - (s + 1)) (s + 1) t ht1 (by omega) ht3
    have hzz := zr_zero f (256 - (s + 1)) (s + 1)
    refine ⟨zr f (256 - (s + 1)) (s + 1), by omega, hzz, hst.2, ⟨?_, by have := h.fuel; omega, by omega, h.hl⟩, ?_⟩
    · rw [sum_zero _ hzz]; omega
    · obtain ⟨fu', hfu⟩ : ∃ f', fu = f' + 1 := ⟨fu - 1, by have := h.fuel; omega⟩
      subst hfu
      simp only [hdGo]
      rw [if_neg h0, if_neg (by omega), hz, Nat.add_sub_cancel]
theorem hdGo_none {f : Nat → Nat} {fu s : Nat} : hdGo f fu 0 s = [] := by cases fu <;> simp [hdGo]

end Go.Proofs.Ytllkfmnofklpmaa

/- An argument of type []int, opened. -/
namespace Go.Proofs.Ytllkfmnofklpmaa
open Go.ChangeShapes Go.WideShapes Go.ChangeAt Go.RowKit Go.Deep

theorem open_ints64 {H : Type} {enc : TypeId × Value → H} {W : World} {base : Nat} {spare : Nat → Bool} {held : Bool} {a : Option Addr} {len cap : Nat} {d : DataW H} {p : List MemPlace}
    (h : DataW.Trod enc Try.prog W base spare held 22 (.slice a len cap) d p) : ∃ zs, RdI W (.slice a len cap) zs ∧ ∀ z ∈ zs, -9223372036854775808 ≤ z ∧ z ≤ 9223372036854775807 := by
  obtain ⟨fuel, hf⟩ := h
  rcases open_ints Try.underlying22 Try.underlying3 cellsInt hf with ⟨hcs, _⟩ | ⟨x, l, c, zs, hcs, _, hl, _, hz, _, hcell, hwz⟩
  · simp [Value.cells] at hcs
    obtain ⟨rfl, rfl, rfl⟩ := hcs
    exact ⟨[], .inl ⟨rfl, none, 0, rfl⟩, by simp⟩
  · simp [Value.cells] at hcs
    obtain ⟨rfl, rfl, rfl⟩ := hcs
    have hlen : len ≤ zs.length := by rw [hz]; split <;> omega
    refine ⟨zs.take len, ?_, fun z hz' => by have := bounds_i64 (hwz z (List.mem_of_mem_take hz')); omega⟩
    by_cases h0 : len = 0
    · subst h0
      exact .inl ⟨by simp, some x, cap, rfl⟩
    · obtain ⟨g, off, rfl⟩ := spot_none (hcell 0 (by omega))
      refine .inr ⟨g, off, cap, by simp; omega, fun j hj => ?_⟩
      have hj' : j < len := by simp at hj; omega
      have hc := hcell j (by omega)
      rw [add_lit] at hc
      rw [hc]
      simp [hj']

/-- the same, with how long it can be -/
theorem open_ints64L {H : Type} {enc : TypeId × Value → H} {W : World} {base : Nat} {spare : Nat → Bool} {held : Bool} {a : Option Addr} {len cap : Nat} {d : DataW H} {p : List MemPlace}
    (h : DataW.Trod enc Try.prog W base spare held 22 (.slice a len cap) d p) : ∃ zs, RdI W (.slice a len cap) zs ∧ (∀ z ∈ zs, -9223372036854775808 ≤ z ∧ z ≤ 9223372036854775807) ∧ zs.length ≤ 9223372036854775807 := by
  obtain ⟨zs, h1, h2⟩ := open_ints64 h
  refine ⟨zs, h1, h2, ?_⟩
  have hz : zs.length = len := by
    rcases h1 with ⟨rfl, ao, c, he⟩ | ⟨g, off, c, he, _⟩
    · simp only [Value.slice.injEq] at he; simp [he.2.1]
    · simp only [Value.slice.injEq] at he; exact he.2.1.symm
  obtain ⟨fuel, hf⟩ := h
  rcases open_ints Try.underlying22 Try.underlying3 cellsInt hf with ⟨hcs, _⟩ | ⟨x, l, c, ys, hcs, _, hl, hm, _⟩
  · simp [Value.cells] at hcs
    obtain ⟨rfl, rfl, rfl⟩ := hcs
    omega
  · simp [Value.cells] at hcs
    obtain ⟨rfl, rfl, rfl⟩ := hcs
    unfold maxLen at hm
    omega

end Go.Proofs.Ytllkfmnofklpmaa

/- An argument of type []int, opened, with what is known of its room; a list of ints cut from the left. -/
namespace Go.Proofs.Ytllkfmnofklpmaa
open Go.ChangeShapes Go.WideShapes Go.ChangeAt Go.RowKit Go.Deep

theorem open_ints64C {H : Type} {enc : TypeId × Value → H} {W : World} {base : Nat} {spare : Nat → Bool} {held : Bool} {a : Option Addr} {len cap : Nat} {d : DataW H} {p : List MemPlace}
    (h : DataW.Trod enc Try.prog W base spare held 22 (.slice a len cap) d p) : ∃ zs, (RdI W (.slice a len cap) zs ∧ (∀ z ∈ zs, -9223372036854775808 ≤ z ∧ z ≤ 9223372036854775807) ∧ zs.length ≤ 9223372036854775807) ∧ len ≤ cap ∧ cap ≤ maxLen := by
  obtain ⟨zs, hzs⟩ := open_ints64L h
  refine ⟨zs, hzs, ?_⟩
  obtain ⟨fuel, hf⟩ := h
  rcases open_ints Try.underlying22 Try.underlying3 cellsInt hf with ⟨hcs, _⟩ | ⟨x, l, c, ys, hcs, _, hl, hm, _⟩
  · simp [Value.cells] at hcs
    obtain ⟨rfl, rfl, rfl⟩ := hcs
    exact ⟨Nat.le_refl _, by unfold maxLen; omega⟩
  · simp [Value.cells] at hcs
    obtain ⟨rfl, rfl, rfl⟩ := hcs
    exact ⟨hl, hm⟩

theorem islice_l {w : World} {ao : Option Addr} {cap q : Nat} {zs : List Int} (h : RdI w (.slice ao zs.length cap) zs) (hq : q ≤ zs.length) (hcap : zs.length ≤ cap) :
    ∃ ao2 c2, (∀ W : World, (Instr.slice 22 (.slice ao zs.length cap) (some (.int .i64 (q : Int))) none none).run Try.prog W = .ok (.slice ao2 (zs.length - q) c2) W) ∧ zs.length - q ≤ c2 ∧ RdI w (.slice ao2 (zs.length - q) c2) (zs.drop q) := by
  refine ⟨if cap = q then ao else ao.map (·.add q), cap - q, fun W => ?_, by omega, ?_⟩
  · have hs : (sizeOf (Try.prog.elem 22)).run Try.prog W = .ok 1 W := by kernel_rfl
    rw [run_slice_l W 22 ao zs.length cap (by kernel_rfl) .i64 (q : Int) (by omega) (by omega), hs]
    simp [Result.andThen, sliced]
  · by_cases hz : q = zs.length
    · exact .inl ⟨by rw [hz, List.drop_length], _, _, by rw [hz, Nat.sub_self]⟩
    · rw [if_neg (by omega)]
      rcases h with ⟨hn, _⟩ | ⟨g, off, c, he, hcell⟩
      · rw [hn] at hz hq; simp at hq; exact absurd hq (by simpa using hz)
      · simp only [Value.slice.injEq] at he
        obtain ⟨rfl, -, -⟩ := he
        refine .inr ⟨g, off + q, cap - q, by rw [List.length_drop]; simp [Addr.add], fun j hj => ?_⟩
        rw [List.length_drop] at hj
        have := hcell (q + j) (by omega)
        rw [← Nat.add_assoc] at this
        rw [this, List.getD_eq_getElem?_getD, List.getD_eq_getElem?_getD, List.getElem?_drop]

end Go.Proofs.Ytllkfmnofklpmaa

/- What header's walk tells: it hands each count over, and each number of zeros, in their order; what that does is told by who hands the functions in. THIS ALONE SPEAKS OF THE PROGRAM'S OWN TEXT. -/
namespace Go.Proofs.Ytllkfmnofklpmaa
open Go.RowKit

theorem hdnot0_any (x : Int) (w : World) : Calls Try.prog 60 #[.int .i64 x] w fun e w' => e = .returned (.bool (decide (x ≠ 0))) ∧ w' = w := by
  by_cases h : x = 0
  · subst h
    go_enter Try.func60, Try.ntmps60
    go_wp2
    go_ret
    exact ⟨rfl, rfl⟩
  · have d1 : (x == 0) = false := by simpa using h
    have d2 : (x != 0) = true := by simpa using h
    rw [decide_eq_true h]
    go_enter Try.func60, Try.ntmps60
    go_wp2
    go_ret
    exact ⟨rfl, rfl⟩

set_option maxRecDepth 20000 in
theorem hdindex_any (v : Value) (cs : List Int) (z : Nat) (w : World) (h : RdI w v cs) (hl : cs.length ≤ 1000) (hz : z < cs.length) (h0 : ∀ j, j < z → cs.getD j 0 = 0) (h1 : cs.getD z 0 ≠ 0) :
    Calls Try.prog 59 #[v, .func (.func 60) #[] #[]] w fun e w' => e = .returned (.int .i64 (z : Int)) ∧ w' = w := by
  obtain ⟨ao, cap, rfl⟩ := h.form
  have H := Lib.hid h; have H0 := Lib.hid h0; have H1 := Lib.hid h1
  obtain ⟨n, hn⟩ : ∃ n, cs.length = n := ⟨_, rfl⟩
  have HN := Lib.hid hn
  rw [hn] at hl hz ⊢
  have hlI : (n : Int) ≤ 1000 := by omega
  have NZ := Lib.hid hdnot0_any
  clear h h0 h1 hn
  go_enter Try.func59, Try.ntmps59
  go_wp2
  go_loopw [4, 5, 8] (fun _ _ o8 wr => ∃ k : Nat, k ≤ z ∧ o8 = .int .i64 (k : Int) ∧ wr = w) (fun _ _ o8 _ => z + 1 - (intOf o8).toNat)
  case atStart => exact ⟨0, Nat.zero_le _, rfl, rfl⟩
  case round =>
    obtain ⟨k, hk, rfl, rfl⟩ := hrel
    have hkn : k < n := by omega
    obtain ⟨g, off, rfl, hc⟩ := H.out.at k (by rw [HN.out]; exact hkn)
    have d1 : decide ((k : Int) < (n : Int)) = true := decide_eq_true (by omega)
    have hki : (k : Int) < (n : Int) := by omega
    by_cases hlt : k < z
    · rw [H0.out k hlt] at hc
      go_wp2_with fail
      refine (NZ.out _ _).mono ?_
      rintro e w1 ⟨rfl, rfl⟩
      go_wp2
      go_roundw
      case rel => exact ⟨k + 1, by omega, by go_num, trivial⟩
      case measure => simp [intOf]; omega
    · obtain rfl : k = z := by omega
      have hne := H1.out
      obtain ⟨x, hx⟩ : ∃ x, cs.getD k 0 = x := ⟨_, rfl⟩
      rw [hx] at hc hne
      go_wp2_with fail
      refine (NZ.out _ _).mono ?_
      rintro e w1 ⟨rfl, rfl⟩
      rw [decide_eq_true hne]
      go_wp2
      go_ret
      exact ⟨rfl, rfl⟩

set_option maxRecDepth 20000 in
set_option maxHeartbeats 4000000 in
theorem hdwalk_any (J : World → List Bool → Prop) (m1 m2 : Nat) (P1 P2 : Value) (g off cap : Nat) (q : List Int) (f : Nat → Nat) (A0 : List Bool) (k : Nat) (w : World) (hn : NormQ q k) (hf : fq q = f) (hcap : 256 ≤ cap)
    (hm1 : ∀ args W, (callFunc m1 args).run Try.prog W = .ok (.enter m1 args) W) (hm2 : ∀ args W, (callFunc m2 args).run Try.prog W = .ok (.enter m2 args) W)
    (hj : J w A0) (hr : ∀ W A, J W A → RdI W (.slice (some ⟨g, off, none⟩) 256 cap) q)
    (hc : ∀ W A (n l : Nat), J W A → 1 ≤ l → l ≤ 4096 → n ≤ l → A.length ≤ A0.length + 3840 → Calls Try.prog m1 #[.int .i64 (n : Int), .int .i64 (l : Int), P1] W fun e W' => e = .returned (.tuple #[]) ∧ J W' (A ++ bitsOf n (widthI (l : Int))))
    (hz : ∀ W A (n : Nat), J W A → n ≤ 255 → A.length ≤ A0.length + 3840 → Calls Try.prog m2 #[.int .i64 (n : Int), P2] W fun e W' => e = .returned (.tuple #[]) ∧ J W' (A ++ rnB n)) :
    Calls Try.prog 34 #[.slice (some ⟨g, off, none⟩) 256 cap, .int .i64 ((2 ^ k : Nat) : Int), .func (.func m1) #[] #[P1], .func (.func m2) #[] #[P2]] w fun e w' => e = .returned (.tuple #[]) ∧ J w' (A0 ++ hdGo f 257 (2 ^ k) 0) := by
  have hst := HdAt.begin hn.sum hn.size
  have hlen : (hdGo f 257 (2 ^ k) 0).length ≤ 3840 := by
    have h1 := hdBits_length q
    have h2 : hdBits q = hdGo (fq q) 257 (2 ^ logI (totalI q)) 0 := by unfold hdBits; rw [if_neg (by rw [hn.log]; have := hn.2.2.2.1; omega)]
    rw [h2, hn.log, hf] at h1
    exact h1
  have HCE := Lib.hid fun W A (hJ : J W A) s hs => hn.cell (hr W A hJ) s hs
  have HAT := Lib.hid hn.at; have HQ256 := Lib.hid hn.1; have HCAP := Lib.hid hcap
  rw [hf] at hst HCE HAT
  obtain ⟨L, hL⟩ : ∃ L, 2 ^ k = L := ⟨_, rfl⟩
  have hL4 : (L : Int) ≤ 4096 := by have := hn.size; omega
  rw [hL] at hst hlen ⊢
  obtain ⟨D, hD⟩ : ∃ D, hdGo f 257 L 0 = D := ⟨_, rfl⟩
  rw [hD] at hlen ⊢
  have HST := Lib.hid hst; have HD := Lib.hid hlen; have HDE := Lib.hid hD; have HJ := Lib.hid hj; have HR := Lib.hid hr; have HC := Lib.hid hc; have HZZ := Lib.hid hz
  clear hst hlen hD hj hr hc hz hn hf hL hcap
  go_enter Try.func34, Try.ntmps34
  go_wp2
  go_loopw [1, 8, 9, 10] (fun o1 o8 _ _ wr => ∃ (fu left s : Nat) (A : List Bool), o1 = .int .i64 (left : Int) ∧ o8 = .int .i64 (s : Int) ∧ HdAt f fu left s ∧ A ++ hdGo f fu left s = A0 ++ D ∧ J wr A) (fun _ o8 _ _ _ => 256 - (intOf o8).toNat)
  case atStart => exact ⟨257, L, 0, A0, rfl, rfl, HST.out, by rw [HDE.out], HJ.out⟩
  case round =>
    obtain ⟨fu, left, s, A, rfl, rfl, hat, hA, hJ⟩ := hrel
    have hlI : (left : Int) ≤ 4096 := by have := hat.hl; omega
    have hsI : (s : Int) ≤ 256 := by have := hat.hs; omega
    by_cases h0 : left = 0
    · subst h0
      rw [hdGo_none, List.append_nil] at hA
      have HA := Lib.hid hA; have K := Lib.hid hJ
      clear hA hJ hat
      go_wp2
      go_end0
      exact ⟨rfl, by rw [← HA.out]; exact K.out⟩
    · obtain ⟨hs256, hfl, fu', rfl, hpos, hzer⟩ := hat.more h0
      have hAl : A.length ≤ A0.length + 3840 := by
        have := congrArg List.length hA
        rw [List.length_append, List.length_append] at this
        have := HD.out; omega
      have e0 : decide (0 < (left : Int)) = true := decide_eq_true (by omega)
      have c0 := HCE.out wr A hJ s hs256
      have CNT := Lib.hid (HC.out wr A (f s) left hJ (by omega) hat.hl hfl hAl)
      have h13 := width_13 (l := (left : Int)) (by omega) (by omega)
      have HAL := Lib.hid hAl
      obtain ⟨F, hF⟩ : ∃ F, f s = F := ⟨_, rfl⟩
      rw [hF] at c0 hfl CNT hpos hzer
      have hs255 : (s : Int) < 256 := by omega
      have hF4 : (F : Int) ≤ (left : Int) := by omega
      have HS := Lib.hid hs256
      clear hAl hF hJ
      by_cases hF0 : F = 0
      · subst hF0
        obtain ⟨z, hz1, hz2, hz3, hz4, hz5⟩ := hzer rfl
        rw [hz5] at hA
        have hAl2 : (A ++ bitsOf 0 (widthI (left : Int))).length ≤ A0.length + 3840 := by
          have := congrArg List.length hA
          simp only [List.length_append] at this ⊢
          have := HD.out; omega
        have HZ := Lib.hid (And.intro hz1 (And.intro hz2 hz3)); have HZ4 := Lib.hid hz4; have HA := Lib.hid hA; have HAL2 := Lib.hid hAl2
        have hzI : (s : Int) + 1 + (z : Int) ≤ 255 := by omega
        have hzn : (0 : Int) ≤ (z : Int) := by omega
        obtain ⟨s1, hs1⟩ : ∃ s1, s + 1 = s1 := ⟨_, rfl⟩
        have hs1I : (s : Int) + 1 = (s1 : Int) := by omega
        have HS1 := Lib.hid hs1
        clear hzer hpos hz1 hz2 hz3 hz4 hz5 hA hs1 hat hAl2
        go_wp2_with fail
        refine (CNT.out).mono ?_
        rintro e w3 ⟨rfl, hj3⟩
        have hrd := HR.out w3 _ hj3
        have hs1b : s1 ≤ 255 := by have := HS1.out; have := HZ.out.1; omega
        obtain ⟨a2, c2, hs2, hcp2, hrs2⟩ := islice_l (q := s1) (show RdI w3 (.slice (some ⟨g, off, none⟩) q.length cap) q by rw [HQ256.out]; exact hrd) (by rw [HQ256.out]; omega) (by rw [HQ256.out]; exact HCAP.out)
        rw [HQ256.out] at hs2 hrs2
        have hdl : (q.drop s1).length = 256 - s1 := by rw [List.length_drop, HQ256.out]
        have hdg : ∀ j, (q.drop s1).getD j 0 = ((f (s1 + j) : Nat) : Int) := fun j => by
          rw [← HAT.out (s1 + j), List.getD_eq_getElem?_getD, List.getD_eq_getElem?_getD, List.getElem?_drop]
        have ZR := Lib.hid (hdindex_any _ (q.drop s1) z w3 hrs2 (by rw [hdl]; omega) (by rw [hdl]; have := HZ.out.1; have := HS1.out; omega)
          (fun j hj => by rw [hdg j, ← HS1.out, HZ.out.2.1 j hj]; rfl)
          (by rw [hdg z, ← HS1.out]; have := HZ.out.2.2; omega))
        have RN := Lib.hid (HZZ.out w3 _ z hj3 (by have := HZ.out.1; omega) HAL2.out)
        have hs1I2 : (s1 : Int) ≤ 256 := by omega
        clear hrd hcp2 hrs2 hdl hdg hj3
        go_wp2_with fail
        with_reducible refine Calls.mono ZR.out ?_
        rintro e w4 ⟨rfl, rfl⟩
        go_wp2_with fail
        with_reducible refine Calls.mono RN.out ?_
        rintro e w5 ⟨rfl, hj5⟩
        have J5 := Lib.hid hj5
        clear hj5 RN
        go_wp2
        go_roundw
        case rel => exact ⟨fu', left, s + 1 + z, A ++ bitsOf 0 (widthI (left : Int)) ++ rnB z, by go_num, by go_num, HZ4.out, by rw [List.append_assoc, List.append_assoc]; exact HA.out, J5.out⟩
        case measure => simp [intOf]; omega
      · obtain ⟨hat2, hz5⟩ := hpos (by omega)
        rw [hz5] at hA
        have HA := Lib.hid hA; have HZ4 := Lib.hid hat2
        have eF : ((F : Int) == 0) = false := by simp; omega
        clear hzer hpos hz5 hA hat hat2
        go_wp2_with fail
        refine (CNT.out).mono ?_
        rintro e w3 ⟨rfl, hj3⟩
        have J3 := Lib.hid hj3
        clear hj3
        go_wp2
        go_roundw
        case rel => exact ⟨fu', left - F, s + 1, A ++ bitsOf F (widthI (left : Int)), by congr 1; omega, by go_num, HZ4.out, by rw [List.append_assoc]; exact HA.out, J3.out⟩
        case measure => simp [intOf]; omega

end Go.Proofs.Ytllkfmnofklpmaa

/- What the functions tell that header's Put and Cost hand to its walk. THIS ALONE SPEAKS OF THE PROGRAM'S OWN TEXT. -/
namespace Go.Proofs.Ytllkfmnofklpmaa
open Go.RowKit

theorem hdput1_any (b : Nat) (o : Option Nat) (A : List Bool) (B : Nat) (t : TypeId) (n l : Nat) (w : World) (h : Wr w b o A) (hB : Bx w B t (.pointer (some ⟨b, 0, none⟩))) (hlen : A.length < 900000000) (hl1 : 1 ≤ l) (hl : l ≤ 4096) (hn : n ≤ l) :
    Calls Try.prog 30 #[.int .i64 (n : Int), .int .i64 (l : Int), .pointer (some ⟨B, 0, none⟩)] w fun e w' => e = .returned (.tuple #[]) ∧ WrTo w w' b o (A ++ bitsOf n (widthI (l : Int))) := by
  have PUT := Lib.hid (bgput_any b o A (n : Int) (l : Int) w h hlen (by omega) (by omega))
  have hput : bgPutB A (n : Int) (l : Int) = A ++ bitsOf n (widthI (l : Int)) := by unfold bgPutB; rw [if_pos ⟨by omega, by omega, by omega, by omega⟩, Int.toNat_natCast]
  rw [hput] at PUT
  have hc := hB.cell
  clear hput h hB
  go_enter Try.func30, Try.ntmps30
  go_wp2_with fail
  refine (PUT.out).mono ?_
  rintro e w1 ⟨rfl, h1⟩
  go_wp2
  go_end0
  exact ⟨rfl, h1⟩

theorem hdput2_any (b : Nat) (o : Option Nat) (A : List Bool) (B : Nat) (t : TypeId) (n : Nat) (w : World) (h : Wr w b o A) (hB : Bx w B t (.pointer (some ⟨b, 0, none⟩))) (hlen : A.length < 800000000) (hn : n ≤ 255) :
    Calls Try.prog 32 #[.int .i64 (n : Int), .pointer (some ⟨B, 0, none⟩)] w fun e w' => e = .returned (.tuple #[]) ∧ WrTo w w' b o (A ++ rnB n) := by
  have PUT := Lib.hid (rnput_any b o A (n : Int) w h hlen (by omega))
  have hput : rnPutB A (n : Int) = A ++ rnB n := by unfold rnPutB; rw [if_pos ⟨by omega, by omega⟩, Int.toNat_natCast]
  rw [hput] at PUT
  have hc := hB.cell
  clear hput h hB
  go_enter Try.func32, Try.ntmps32
  go_wp2_with fail
  refine (PUT.out).mono ?_
  rintro e w1 ⟨rfl, h1⟩
  go_wp2
  go_end0
  exact ⟨rfl, h1⟩

theorem hdcost1_any (B : Nat) (t : TypeId) (c n l : Nat) (w : World) (hB : Bx w B t (.int .i64 (c : Int))) (hc : c ≤ 10000) (hl1 : 1 ≤ l) (hl : l ≤ 4096) (hn : n ≤ l) :
    Calls Try.prog 38 #[.int .i64 (n : Int), .int .i64 (l : Int), .pointer (some ⟨B, 0, none⟩)] w fun e w' => e = .returned (.tuple #[]) ∧ Bx w' B t (.int .i64 ((c + widthI (l : Int) : Nat) : Int)) ∧ Chg (fun k => k = B) w w' := by
  have hcost : bgCostN (n : Int) (l : Int) = widthI (l : Int) := by unfold bgCostN; rw [if_pos ⟨by omega, by omega, by omega, by omega⟩]
  have COST := Lib.hid fun W => bgcost_any (n : Int) (l : Int) W (by omega) (by omega)
  have hb := width_13 (l := (l : Int)) (by omega) (by omega)
  rw [hcost] at COST
  obtain ⟨X, hX⟩ : ∃ X, widthI (l : Int) = X := ⟨_, rfl⟩
  rw [hX] at COST hb ⊢
  have hwr : IntKind.i64.wrap ((c : Int) + (X : Int)) = ((c + X : Nat) : Int) := by rw [IntKind.wrap_i64]; omega
  have HW := Lib.hid hwr; have HB := Lib.hid hB
  have a1 := hB.cell; have a2 := hB.free
  have FIN := Lib.hid fun (w3 : World) (hc3 : Chg (fun _ => False) w.drew w3) => (show Bx (w3.setCell ⟨B, 0, none⟩ (.int .i64 (IntKind.i64.wrap ((c : Int) + (X : Int))))) B t (.int .i64 ((c + X : Nat) : Int)) ∧ Chg (fun k => k = B) w (w3.setCell ⟨B, 0, none⟩ (.int .i64 (IntKind.i64.wrap ((c : Int) + (X : Int))))) by
    have hb3 := HB.out.drew.kept hc3 (by simp)
    rw [HW.out]
    exact ⟨hb3.set _, ((Chg.refl (fun k => k = B) w).drew.trans hc3 (fun _ _ h => h.elim)).trans (Chg.setCell w3 ⟨B, 0, none⟩ _) fun _ _ h => h⟩)
  clear hcost hX hb hB hwr
  go_enter Try.func38, Try.ntmps38
  go_wp2
  go_region_with ((go_at_call 39; refine (COST.out _).mono ?_; rintro e w3 ⟨rfl, hc3⟩; have hb3 := HB.out.drew.kept hc3 (by simp); have k1 := hb3.cell; have k2 := hb3.free; have FN := Lib.hid (FIN.out w3 hc3); clear hc3 hb3))
  all_goals go_end0
  all_goals exact ⟨rfl, FN.out⟩

theorem hdcost2_any (B : Nat) (t : TypeId) (c n : Nat) (w : World) (hB : Bx w B t (.int .i64 (c : Int))) (hc : c ≤ 10000) (hn : n ≤ 255) :
    Calls Try.prog 40 #[.int .i64 (n : Int), .pointer (some ⟨B, 0, none⟩)] w fun e w' => e = .returned (.tuple #[]) ∧ Bx w' B t (.int .i64 ((c + (rnB n).length : Nat) : Int)) ∧ Chg (fun k => k = B) w w' := by
  have hcost : rnCostN (n : Int) = (rnB n).length := by unfold rnCostN; rw [if_pos ⟨by omega, by omega⟩, Int.toNat_natCast, rnB_length]
  have COST := Lib.hid fun W => rncost_any (n : Int) W (by omega)
  have hb : (rnB n).length ≤ 172 := by rw [rnB_length]; omega
  rw [hcost] at COST
  obtain ⟨X, hX⟩ : ∃ X, (rnB n).length = X := ⟨_, rfl⟩
  rw [hX] at COST hb ⊢
  have hwr : IntKind.i64.wrap ((c : Int) + (X : Int)) = ((c + X : Nat) : Int) := by rw [IntKind.wrap_i64]; omega
  have HW := Lib.hid hwr; have HB := Lib.hid hB
  have a1 := hB.cell; have a2 := hB.free
  have FIN := Lib.hid fun (w3 : World) (hc3 : Chg (fun _ => False) w.drew w3) => (show Bx (w3.setCell ⟨B, 0, none⟩ (.int .i64 (IntKind.i64.wrap ((c : Int) + (X : Int))))) B t (.int .i64 ((c + X : Nat) : Int)) ∧ Chg (fun k => k = B) w (w3.setCell ⟨B, 0, none⟩ (.int .i64 (IntKind.i64.wrap ((c : Int) + (X : Int))))) by
    have hb3 := HB.out.drew.kept hc3 (by simp)
    rw [HW.out]
    exact ⟨hb3.set _, ((Chg.refl (fun k => k = B) w).drew.trans hc3 (fun _ _ h => h.elim)).trans (Chg.setCell w3 ⟨B, 0, none⟩ _) fun _ _ h => h⟩)
  clear hcost hX hb hB hwr
  go_enter Try.func40, Try.ntmps40
  go_wp2
  go_region_with ((go_at_call 41; refine (COST.out _).mono ?_; rintro e w3 ⟨rfl, hc3⟩; have hb3 := HB.out.drew.kept hc3 (by simp); have k1 := hb3.cell; have k2 := hb3.free; have FN := Lib.hid (FIN.out w3 hc3); clear hc3 hb3))
  all_goals go_end0
  all_goals exact ⟨rfl, FN.out⟩

end Go.Proofs.Ytllkfmnofklpmaa

/- What hist's Right, Many, Total, Of and Add tell. THIS ALONE SPEAKS OF THE PROGRAM'S OWN TEXT. -/
namespace Go.Proofs.Ytllkfmnofklpmaa
open Go.RowKit

set_option maxHeartbeats 1000000 in
set_option maxRecDepth 100000 in
theorem hright_any (v : Value) (cs : List Int) (w : World) (h : RdI w v cs) (hb : ∀ z ∈ cs, -9223372036854775808 ≤ z ∧ z ≤ 9223372036854775807) (hl : cs.length < 100000000000) :
    Calls Try.prog 71 #[v] w fun e w' => e = .returned (.bool (decide (isRight cs))) ∧ ∃ m, w' = w.drewN m := by
  obtain ⟨ao, cap, rfl⟩ := h.form
  have H := Lib.hid h; have HB := Lib.hid hb
  clear h hb
  by_cases hlen : cs.length = 256
  · have hq : ((cs.length : Int) != 256) = false := by rw [hlen]; rfl
    have HLEN := Lib.hid hlen
    have hle256 : cs.length ≤ 256 := by omega
    clear hlen
    go_enter Try.func71, Try.ntmps71
    go_wp2
    go_loopw [3, 11] (fun o3 o11 wr => ∃ k : Nat, k ≤ cs.length ∧ o11 = .int .i64 (k : Int) ∧ o3 = .int .i64 (1073741824 - tot (cs.take k)) ∧ upTo cs k ∧ tot (cs.take k) ≤ 1073741824 ∧ wr = w) (fun _ o11 _ => cs.length - (intOf o11).toNat)
    case atStart => exact ⟨0, Nat.zero_le _, rfl, by simp [tot], upTo_zero _, by simp [tot], rfl⟩
    case round =>
      obtain ⟨k, hk, rfl, rfl, hup, hle, rfl⟩ := hrel
      have h0 := upTo_take hup
      have HUP := Lib.hid hup
      clear hup
      by_cases hlt : k < cs.length
      · obtain ⟨g, off, rfl, hc⟩ := H.out.at k hlt
        have hsu := tot_take_succ cs k hlt
        have hat : isRight cs → _ := fun h => h.at k hlt
        have hbk := HB.out _ (getD_mem hlt)
        obtain ⟨x, hx⟩ : ∃ x, cs.getD k 0 = x := ⟨_, rfl⟩
        obtain ⟨t, ht⟩ : ∃ t, tot (cs.take k) = t := ⟨_, rfl⟩
        rw [hx] at hc hsu hat hbk
        rw [ht] at hsu hle h0 hat ⊢
        have HXX := Lib.hid hx; have HSU := Lib.hid hsu; have HAT := Lib.hid hat
        clear hx ht hsu hat
        by_cases hneg : x < 0
        · have d1 : decide (x < 0) = true := decide_eq_true hneg
          go_wp2
          go_ret
          have hd : decide (isRight cs) = false := decide_eq_false fun h => by have := HAT.out h; omega
          rw [hd]
          exact ⟨rfl, 0, rfl⟩
        · have d1 : decide (x < 0) = false := decide_eq_false hneg
          by_cases hbig : 1073741824 - t < x
          · have d2 : decide (1073741824 - t < x) = true := decide_eq_true hbig
            go_wp2
            go_ret
            have hd : decide (isRight cs) = false := decide_eq_false fun h => by have := HAT.out h; omega
            rw [hd]
            exact ⟨rfl, 0, rfl⟩
          · have d2 : decide (1073741824 - t < x) = false := decide_eq_false hbig
            go_wp2
            go_roundw
            case rel => exact ⟨k + 1, by omega, by go_num, by rw [HSU.out]; go_num, upTo_succ HUP.out (by rw [HXX.out]; omega), by rw [HSU.out]; omega, trivial⟩
            case measure => simp [intOf]; omega
      · obtain rfl : k = cs.length := by omega
        rw [List.take_length] at h0 hle ⊢
        have hd : decide (isRight cs) = true := decide_eq_true ⟨HLEN.out, upTo_all rfl HUP.out, hle⟩
        have HD := Lib.hid hd
        clear hd
        go_wp2
        go_ret
        rw [HD.out]
        exact ⟨rfl, 0, rfl⟩
  · have hq : ((cs.length : Int) != 256) = true := by simp; omega
    go_enter Try.func71, Try.ntmps71
    go_wp2
    go_ret
    have hd : decide (isRight cs) = false := decide_eq_false fun h => hlen h.1
    rw [hd]
    exact ⟨rfl, 0, rfl⟩

set_option maxHeartbeats 1000000 in
theorem htotal_any (v : Value) (cs : List Int) (w : World) (h : RdI w v cs) (hb : ∀ z ∈ cs, -9223372036854775808 ≤ z ∧ z ≤ 9223372036854775807) (hl : cs.length < 100000000000) :
    Calls Try.prog 54 #[v] w fun e w' => e = .returned (.int .i64 (totalI cs)) ∧ ∃ m, w' = w.drewN m := by
  have HR := Lib.hid (hright_any v cs w h hb hl)
  obtain ⟨ao, cap, rfl⟩ := h.form
  have H := Lib.hid h; have HB := Lib.hid hb
  clear h hb
  go_enter Try.func54, Try.ntmps54
  go_wp2_with fail
  refine HR.out.mono ?_
  rintro e w' ⟨rfl, m0, rfl⟩
  clear HR
  by_cases hr : isRight cs
  · rw [decide_eq_true hr]
    have hlen : cs.length ≤ 256 := by rw [hr.1]; exact Nat.le_refl _
    have HRR := Lib.hid hr
    clear hr
    go_wp2
    go_loopw [3, 11] (fun o3 o11 wr => ∃ k : Nat, k ≤ cs.length ∧ o11 = .int .i64 (k : Int) ∧ o3 = .int .i64 (tot (cs.take k)) ∧ wr = w.drewN m0) (fun _ o11 _ => cs.length - (intOf o11).toNat)
    case atStart => exact ⟨0, Nat.zero_le _, rfl, rfl, rfl⟩
    case round =>
      obtain ⟨k, hk, rfl, rfl, rfl⟩ := hrel
      by_cases hlt : k < cs.length
      · obtain ⟨g, off, rfl, hc⟩ := H.out.at k hlt
        have hsu := tot_take_succ cs k hlt
        have hat := HRR.out.at k hlt
        have h0 : 0 ≤ tot (cs.take k) := tot_nonneg _ fun c hc => HRR.out.2.1 c (List.mem_of_mem_take hc)
        obtain ⟨x, hx⟩ : ∃ x, cs.getD k 0 = x := ⟨_, rfl⟩
        obtain ⟨t, ht⟩ : ∃ t, tot (cs.take k) = t := ⟨_, rfl⟩
        rw [hx] at hc hsu hat
        rw [ht] at hsu hat h0 ⊢
        have HSU := Lib.hid hsu
        clear hx ht hsu
        go_wp2
        go_roundw
        case rel => exact ⟨k + 1, by omega, by go_num, by rw [HSU.out], trivial⟩
        case measure => simp [intOf]; omega
      · obtain rfl : k = cs.length := by omega
        rw [List.take_length]
        have hm : totalI cs = tot cs := by unfold totalI; rw [if_pos HRR.out]
        have HM := Lib.hid hm
        clear hm
        go_wp2
        go_ret
        rw [HM.out]
        exact ⟨rfl, m0, rfl⟩
  · rw [decide_eq_false hr]
    have hm : totalI cs = 0 := by unfold totalI; rw [if_neg hr]
    have HM := Lib.hid hm
    clear hm hr
    go_wp2
    go_ret
    rw [HM.out]
    exact ⟨rfl, m0, rfl⟩

theorem cnt_take_succ (xs : List Nat) (k : Nat) (hk : k < xs.length) (hx : xs.getD k 0 < 256) : cnt (xs.take (k + 1)) = (cnt (xs.take k)).set (xs.getD k 0) ((cnt (xs.take k)).getD (xs.getD k 0) 0 + 1) := by
  rw [← cnt_snoc _ _ hx]
  congr 1
  rw [List.take_succ_eq_append_getElem hk, List.getD_eq_getElem?_getD, List.getElem?_eq_getElem hk]; rfl

theorem cnt_bound (xs : List Nat) (u : Nat) (hu : u < 256) : 0 ≤ (cnt xs).getD u 0 ∧ (cnt xs).getD u 0 ≤ xs.length := by
  rw [cnt_getD _ _ hu]
  have h1 := List.count_le_length (l := xs) (a := u)
  omega

end Go.Proofs.Ytllkfmnofklpmaa

/- Plain: heaps, as container/heap keeps them (a row; who stands at k stands behind who stands at (k - 1) / 2). -/
namespace Go.Proofs.Ytllkfmnofklpmaa
open Go

structure TotalOrd {α : Type} (le : α → α → Prop) : Prop where
  total : ∀ a b, le a b ∨ le b a
  trans : ∀ {a b c}, le a b → le b c → le a c

theorem TotalOrd.refl {α : Type} {le : α → α → Prop} (o : TotalOrd le) (a : α) : le a a := (o.total a a).elim id id

section
variable {α : Type} [Inhabited α]

/-- two have changed places -/
def swp (l : List α) (i j : Nat) : List α := (l.set i (l.getD j default)).set j (l.getD i default)
theorem swp_length (l : List α) (i j : Nat) : (swp l i j).length = l.length := by simp [swp]
theorem aset_getD (l : List α) (i k : Nat) (x : α) (hi : i < l.length) : (l.set i x).getD k default = if i = k then x else l.getD k default := by
  by_cases h : i = k
  · subst h; rw [if_pos rfl, List.getD_eq_getElem?_getD, List.getElem?_set_self hi]; rfl
  · rw [if_neg h, List.getD_eq_getElem?_getD, List.getElem?_set_ne h, ← List.getD_eq_getElem?_getD]
theorem swp_getD (l : List α) (i j k : Nat) (hi : i < l.length) (hj : j < l.length) : (swp l i j).getD k default = if j = k then l.getD i default else if i = k then l.getD j default else l.getD k default := by
  unfold swp
  rw [aset_getD _ _ _ _ (by simpa using hj), aset_getD _ _ _ _ hi]
theorem swp_perm (l : List α) (i j : Nat) (hi : i < l.length) (hj : j < l.length) : (swp l i j).Perm l := by
  classical
  rw [List.perm_iff_count]
  intro a
  have hp : l[i] ∈ l := List.getElem_mem hi
  have hgi : l.getD i default = l[i] := by rw [List.getD_eq_getElem?_getD, List.getElem?_eq_getElem hi]; rfl
  have hgj : l.getD j default = l[j] := by rw [List.getD_eq_getElem?_getD, List.getElem?_eq_getElem hj]; rfl
  have hs : swp l i j = (l.set i l[j]).set j l[i] := by unfold swp; rw [hgi, hgj]
  rw [hs, List.count_set (h := by simpa using hj), List.count_set (h := hi), List.getElem_set]
  by_cases hij : i = j
  · subst hij
    rw [if_pos rfl]
    have hc : (if (l[i] == a) = true then 1 else 0) ≤ l.count a := by
      split
      · next h => rw [List.one_le_count_iff]; have := LawfulBEq.eq_of_beq h; rw [← this]; exact hp
      · omega
    omega
  · rw [if_neg hij]
    have hc : (if (l[i] == a) = true then 1 else 0) ≤ l.count a := by
      split
      · next h => rw [List.one_le_count_iff]; have := LawfulBEq.eq_of_beq h; rw [← this]; exact hp
      · omega
    have hc2 : (if (l[j] == a) = true then 1 else 0) ≤ l.count a := by
      split
      · next h => rw [List.one_le_count_iff]; have := LawfulBEq.eq_of_beq h; rw [← this]; exact List.getElem_mem hj
      · omega
    omega

/-- the first n are a heap -/
def Heap (le : α → α → Prop) (l : List α) (n : Nat) : Prop := ∀ k, 0 < k → k < n → le (l.getD ((k - 1) / 2) default) (l.getD k default)

theorem Heap.least {le : α → α → Prop} (o : TotalOrd le) {l : List α} {n : Nat} (h : Heap le l n) : ∀ k, k < n → le (l.getD 0 default) (l.getD k default) := by
  intro k
  induction k using Nat.strongRecOn with
  | ind k ih =>
    intro hk
    by_cases h0 : k = 0
    · subst h0; exact o.refl _
    · exact o.trans (ih ((k - 1) / 2) (by omega) (by omega)) (h k (by omega) hk)

/-- a heap, but for who stands at j, that may stand too far behind -/
structure UpInv (le : α → α → Prop) (l : List α) (n j : Nat) : Prop where
  lt : j < n
  rest : ∀ k, 0 < k → k < n → k ≠ j → le (l.getD ((k - 1) / 2) default) (l.getD k default)
  over : ∀ k, 0 < k → k < n → (k - 1) / 2 = j → 0 < j → le (l.getD ((j - 1) / 2) default) (l.getD k default)

theorem UpInv.done {le : α → α → Prop} {l : List α} {n j : Nat} (h : UpInv le l n j) (hd : j = 0 ∨ le (l.getD ((j - 1) / 2) default) (l.getD j default)) : Heap le l n := by
  intro k h0 hk
  by_cases hkj : k = j
  · subst hkj
    rcases hd with hd | hd
    · omega
    · exact hd
  · exact h.rest k h0 hk hkj

theorem UpInv.step {le : α → α → Prop} (o : TotalOrd le) {l : List α} {n j : Nat} (hn : n ≤ l.length) (h : UpInv le l n j) (hj : 0 < j) (hl : ¬ le (l.getD ((j - 1) / 2) default) (l.getD j default)) : UpInv le (swp l ((j - 1) / 2) j) n ((j - 1) / 2) := by
  have hlt := h.lt
  obtain ⟨i, hi⟩ : ∃ i, (j - 1) / 2 = i := ⟨_, rfl⟩
  rw [hi] at hl ⊢
  have hij : i < j := by omega
  have hji : le (l.getD j default) (l.getD i default) := (o.total _ _).resolve_left hl
  have g := fun k => swp_getD l i j k (by omega) (by omega)
  refine ⟨by omega, fun k h0 hk hki => ?_, fun k h0 hk hpk hi0 => ?_⟩
  · rw [g, g]
    by_cases hkj : j = k
    · subst hkj
      rw [if_neg (show ¬ j = (j - 1) / 2 by omega), if_pos hi.symm, if_pos rfl]
      exact hji
    · rw [if_neg hkj, if_neg (show ¬ i = k from fun hh => hki hh.symm)]
      by_cases hp1 : j = (k - 1) / 2
      · rw [if_pos hp1]
        have := h.over k h0 hk hp1.symm hj
        rw [hi] at this
        exact this
      · rw [if_neg hp1]
        by_cases hp2 : i = (k - 1) / 2
        · rw [if_pos hp2]
          have := h.rest k h0 hk (fun hh => hkj hh.symm)
          rw [← hp2] at this
          exact o.trans hji this
        · rw [if_neg hp2]
          exact h.rest k h0 hk (fun hh => hkj hh.symm)
  · rw [g, g]
    have hpi : le (l.getD ((i - 1) / 2) default) (l.getD i default) := h.rest i hi0 (by omega) (by omega)
    rw [if_neg (show ¬ j = (i - 1) / 2 by omega), if_neg (show ¬ i = (i - 1) / 2 by omega)]
    by_cases hkj : j = k
    · rw [if_pos hkj]; exact hpi
    · rw [if_neg hkj, if_neg (show ¬ i = k by omega)]
      have := h.rest k h0 hk (fun hh => hkj hh.symm)
      rw [hpk] at this
      exact o.trans hpi this

/-- the first n are a heap, as far as those go whose parents stand at lo or behind -/
def HeapFrom (le : α → α → Prop) (l : List α) (n lo : Nat) : Prop := ∀ k, 0 < k → k < n → lo ≤ (k - 1) / 2 → le (l.getD ((k - 1) / 2) default) (l.getD k default)
theorem HeapFrom.heap {le : α → α → Prop} {l : List α} {n : Nat} (h : HeapFrom le l n 0) : Heap le l n := fun k h0 hk => h k h0 hk (Nat.zero_le _)
theorem Heap.all {le : α → α → Prop} {l : List α} {n : Nat} (h : Heap le l n) : HeapFrom le l n 0 := fun k h0 hk _ => h k h0 hk

/-- a heap (from lo on), but for who stands at i, that may stand too far ahead -/
structure DownInv (le : α → α → Prop) (l : List α) (n lo i : Nat) : Prop where
  ge : lo ≤ i
  rest : ∀ k, 0 < k → k < n → lo ≤ (k - 1) / 2 → (k - 1) / 2 ≠ i → le (l.getD ((k - 1) / 2) default) (l.getD k default)
  over : ∀ k, 0 < k → k < n → (k - 1) / 2 = i → 0 < i → lo ≤ (i - 1) / 2 → le (l.getD ((i - 1) / 2) default) (l.getD k default)

theorem DownInv.done {le : α → α → Prop} {l : List α} {n lo i : Nat} (h : DownInv le l n lo i) (hd : ∀ k, 0 < k → k < n → (k - 1) / 2 = i → le (l.getD i default) (l.getD k default)) : HeapFrom le l n lo := by
  intro k h0 hk hlo
  by_cases hp : (k - 1) / 2 = i
  · rw [hp]; exact hd k h0 hk hp
  · exact h.rest k h0 hk hlo hp

theorem DownInv.step {le : α → α → Prop} (_o : TotalOrd le) {l : List α} {n lo i j : Nat} (hn : n ≤ l.length) (h : DownInv le l n lo i) (hj0 : 0 < j) (hjn : j < n) (hpj : (j - 1) / 2 = i)
    (hmin : ∀ k, 0 < k → k < n → (k - 1) / 2 = i → le (l.getD j default) (l.getD k default)) (hji : le (l.getD j default) (l.getD i default)) : DownInv le (swp l i j) n lo j := by
  have hij : i < j := by omega
  have hge := h.ge
  have g := fun k => swp_getD l i j k (by omega) (by omega)
  refine ⟨by omega, fun k h0 hk hlo hpk => ?_, fun k h0 hk hpk hj hlo => ?_⟩
  · rw [g, g]
    rw [if_neg (show ¬ j = (k - 1) / 2 from fun hh => hpk hh.symm)]
    by_cases hpi : i = (k - 1) / 2
    · rw [if_pos hpi]
      by_cases hkj : j = k
      · rw [if_pos hkj]; exact hji
      · rw [if_neg hkj, if_neg (show ¬ i = k by omega)]
        exact hmin k h0 hk hpi.symm
    · rw [if_neg hpi, if_neg (show ¬ j = k by omega)]
      by_cases hki : i = k
      · subst hki
        rw [if_pos rfl]
        exact h.over j hj0 hjn hpj h0 hlo
      · rw [if_neg hki]
        exact h.rest k h0 hk hlo (fun hh => hpi hh.symm)
  · rw [g, g]
    rw [if_neg (show ¬ j = (j - 1) / 2 by omega), if_pos hpj.symm, if_neg (show ¬ j = k by omega), if_neg (show ¬ i = k by omega)]
    have := h.rest k h0 hk (by omega) (by omega)
    rw [hpk] at this
    exact this

theorem DownInv.start {le : α → α → Prop} {l : List α} {n i : Nat} (h : HeapFrom le l n (i + 1)) : DownInv le l n i i :=
  ⟨Nat.le_refl _, fun k h0 hk hlo hne => h k h0 hk (by omega), fun k h0 hk hp hi hlo => by omega⟩

/-- a heap, one behind it: it may stand too far behind -/
theorem UpInv.pushed {le : α → α → Prop} {l : List α} (h : Heap le l l.length) (x : α) : UpInv le (l ++ [x]) (l.length + 1) l.length := by
  have g : ∀ k, k < l.length → (l ++ [x]).getD k default = l.getD k default := fun k hk => by
    rw [List.getD_eq_getElem?_getD, List.getElem?_append_left hk, ← List.getD_eq_getElem?_getD]
  refine ⟨by omega, fun k h0 hk hkl => ?_, fun k h0 hk hp _ => by omega⟩
  rw [g k (by omega), g ((k - 1) / 2) (by omega)]
  exact h k h0 (by omega)

/-- the last one put first: it may stand too far ahead -/
theorem DownInv.popped {le : α → α → Prop} {l : List α} {n : Nat} (hl : l.length = n + 1) (h : Heap le l (n + 1)) : DownInv le (swp l 0 n) n 0 0 := by
  have g := fun k => swp_getD l 0 n k (by omega) (by omega)
  refine ⟨Nat.le_refl _, fun k h0 hk _ hp => ?_, fun k h0 hk hp hh => by omega⟩
  rw [g, g, if_neg (show ¬ n = (k - 1) / 2 by omega), if_neg (show ¬ 0 = (k - 1) / 2 by omega), if_neg (show ¬ n = k by omega), if_neg (show ¬ 0 = k by omega)]
  exact h k h0 (by omega)

/-- who stands first was changed: it may stand too far ahead -/
theorem DownInv.changed0 {le : α → α → Prop} {l : List α} {n : Nat} (x : α) (hi : 0 < l.length) (h : Heap le l n) : DownInv le (l.set 0 x) n 0 0 := by
  have g := fun k => aset_getD l 0 k x hi
  refine ⟨Nat.le_refl _, fun k h0 hk _ hp => ?_, fun k h0 hk hp h0i _ => by omega⟩
  rw [g, g, if_neg (show ¬ 0 = k by omega), if_neg (fun hh => hp hh.symm)]
  exact h k h0 hk

theorem UpInv.of_heap {le : α → α → Prop} {l : List α} {n : Nat} (h : Heap le l n) (h0 : 0 < n) : UpInv le l n 0 := ⟨h0, fun k h0 hk _ => h k h0 hk, fun k _ _ _ h => by omega⟩

theorem HeapFrom.leaves {le : α → α → Prop} {l : List α} {n lo : Nat} (h : n ≤ 2 * lo + 1) : HeapFrom le l n lo := fun k h0 hk hlo => by omega

/-- the last one apart -/
theorem last_apart (l : List α) (n : Nat) (h : l.length = n + 1) : l = l.take n ++ [l.getD n default] := by
  rw [List.getD_eq_getElem?_getD, List.getElem?_eq_getElem (by omega)]
  have := List.take_append_getElem (l := l) (i := n) (by omega)
  simp only [Option.getD_some]
  rw [this, List.take_of_length_le (by omega)]

theorem Heap.take {le : α → α → Prop} {l : List α} {n : Nat} (h : Heap le l n) (hn : n ≤ l.length) : Heap le (l.take n) (l.take n).length := by
  have g : ∀ k, k < n → (l.take n).getD k default = l.getD k default := fun k hk => by
    rw [List.getD_eq_getElem?_getD, List.getElem?_take_of_lt hk, ← List.getD_eq_getElem?_getD]
  intro k h0 hk
  rw [List.length_take, Nat.min_eq_left hn] at hk
  rw [g k hk, g _ (by omega)]
  exact h k h0 hk

theorem Heap.least_mem {le : α → α → Prop} (o : TotalOrd le) {l : List α} (h : Heap le l l.length) {y : α} (hy : y ∈ l) : le (l.getD 0 default) y := by
  obtain ⟨k, hk, rfl⟩ := List.getElem_of_mem hy
  have := h.least o k hk
  rw [List.getD_eq_getElem?_getD (l := l) (i := k), List.getElem?_eq_getElem hk] at this
  exact this

end

/-- no less: what a heap keeps -/
def noLess {α : Type} (lt : α → α → Bool) (a b : α) : Prop := lt b a = false
theorem noLess_of {α : Type} {lt : α → α → Bool} (o : TotalOrd (noLess lt)) {a b : α} (h : lt a b = true) : noLess lt a b := by
  rcases o.total b a with h1 | h1
  · unfold noLess at h1; rw [h] at h1; cases h1
  · exact h1

end Go.Proofs.Ytllkfmnofklpmaa

/- What container/heap's up, down, Init, Push, Pop and Fix do with one type's heap (hpA), whatever it holds. -/
namespace Go.Proofs.Ytllkfmnofklpmaa
open Go.RowKit

section
variable {α : Type} [Inhabited α] {p : Value} {R : World → List α → Prop} {lt : α → α → Bool} {S : Nat → Prop}

end

end Go.Proofs.Ytllkfmnofklpmaa

/- What container/heap's Init, Push, Pop and Fix do with one type's heap (hpA), whatever it holds. -/
namespace Go.Proofs.Ytllkfmnofklpmaa
open Go.RowKit

section
variable {α : Type} [Inhabited α] {p : Value} {R : World → List α → Prop} {lt : α → α → Bool} {S : Nat → Prop} {it : α → Value}

end

end Go.Proofs.Ytllkfmnofklpmaa

/- norm's shares in memory; who is ahead of whom; norm's queue as container/heap asks for it. THIS SPEAKS OF THE PROGRAM'S OWN TEXT. -/
namespace Go.Proofs.Ytllkfmnofklpmaa
open Go.RowKit

/-- a share -/
structure Sh where
  sym : Int
  cnt : Int
  plc : Int
  lft : Int
  rai : Bool
instance : Inhabited Sh := ⟨⟨0, 0, 0, 0, false⟩⟩
def sv (s : Sh) : Value := .agg #[.int .i64 s.sym, .int .i64 s.cnt, .int .i64 s.plc, .int .i64 s.lft, .bool s.rai]
def svl (s : Sh) : List Value := [.int .i64 s.sym, .int .i64 s.cnt, .int .i64 s.plc, .int .i64 s.lft, .bool s.rai]
def svs (l : List Sh) : List Value := l.flatMap svl
theorem svs_cons (a : Sh) (l : List Sh) : svs (a :: l) = svl a ++ svs l := by simp [svs]
theorem svs_append (a b : List Sh) : svs (a ++ b) = svs a ++ svs b := by simp [svs]
theorem svs_length (l : List Sh) : (svs l).length = l.length * 5 := by
  induction l with
  | nil => rfl
  | cons c r ih => rw [svs_cons, List.length_append, ih]; simp [svl]; omega
theorem svs_get (l : List Sh) (j : Nat) (h : j < l.length) : (svs l)[j * 5]? = some (.int .i64 (l.getD j default).sym) ∧ (svs l)[j * 5 + 1]? = some (.int .i64 (l.getD j default).cnt) ∧ (svs l)[j * 5 + 2]? = some (.int .i64 (l.getD j default).plc) ∧
    (svs l)[j * 5 + 3]? = some (.int .i64 (l.getD j default).lft) ∧ (svs l)[j * 5 + 4]? = some (.bool (l.getD j default).rai) := by
  induction l generalizing j with
  | nil => simp at h
  | cons c r ih =>
    rw [svs_cons]
    cases j with
    | zero => exact ⟨rfl, rfl, rfl, rfl, rfl⟩
    | succ j =>
      have ih := ih j (by simpa using h)
      have hl : (svl c).length = 5 := rfl
      rw [List.getElem?_append_right (by omega), List.getElem?_append_right (by omega), List.getElem?_append_right (by omega), List.getElem?_append_right (by omega), List.getElem?_append_right (by omega), hl,
        show (j + 1) * 5 - 5 = j * 5 by omega, show (j + 1) * 5 + 1 - 5 = j * 5 + 1 by omega, show (j + 1) * 5 + 2 - 5 = j * 5 + 2 by omega, show (j + 1) * 5 + 3 - 5 = j * 5 + 3 by omega, show (j + 1) * 5 + 4 - 5 = j * 5 + 4 by omega]
      exact ih
/-- five cells, one behind the other -/
def set5 (l : List Value) (k : Nat) (s : Sh) : List Value := ((((l.set k (.int .i64 s.sym)).set (k + 1) (.int .i64 s.cnt)).set (k + 2) (.int .i64 s.plc)).set (k + 3) (.int .i64 s.lft)).set (k + 4) (.bool s.rai)
theorem svs_set (l : List Sh) (j : Nat) (c : Sh) (h : j < l.length) : set5 (svs l) (j * 5) c = svs (l.set j c) := by
  unfold set5
  induction l generalizing j with
  | nil => simp at h
  | cons d r ih =>
    cases j with
    | zero => rw [List.set_cons_zero, svs_cons, svs_cons]; rfl
    | succ j =>
      have ih := ih j (by simpa using h)
      have hl : (svl d).length = 5 := rfl
      rw [List.set_cons_succ, svs_cons, svs_cons, ← ih, List.set_append_right _ _ (by omega), List.set_append_right _ _ (by omega), List.set_append_right _ _ (by omega), List.set_append_right _ _ (by omega), List.set_append_right _ _ (by omega), hl,
        show (j + 1) * 5 - 5 = j * 5 by omega, show (j + 1) * 5 + 1 - 5 = j * 5 + 1 by omega, show (j + 1) * 5 + 2 - 5 = j * 5 + 2 by omega, show (j + 1) * 5 + 3 - 5 = j * 5 + 3 by omega, show (j + 1) * 5 + 4 - 5 = j * 5 + 4 by omega]
theorem svs_one (xs : List Sh) : ∀ u ∈ svs xs, u.oneCell' = true := by
  intro u hu
  simp only [svs, List.mem_flatMap, svl] at hu
  obtain ⟨x, _, hx⟩ := hu
  simp at hx
  rcases hx with rfl | rfl | rfl | rfl | rfl <;> rfl

/-- of whom more is left, or whose value is less -/
def moreB (a b : Sh) : Bool := if a.lft = b.lft then decide (a.sym < b.sym) else decide (b.lft < a.lft)
/-- who has more, or whose count is less, or whose value is greater -/
def greatB (a b : Sh) : Bool := if a.plc = b.plc then (if a.cnt = b.cnt then decide (b.sym < a.sym) else decide (a.cnt < b.cnt)) else decide (b.plc < a.plc)
theorem moreB_ord : TotalOrd (noLess moreB) := by
  constructor
  · intro a b
    unfold noLess moreB
    by_cases h1 : a.lft = b.lft
    · rw [if_pos h1.symm, if_pos h1, decide_eq_false_iff_not, decide_eq_false_iff_not]; omega
    · rw [if_neg (Ne.symm h1), if_neg h1, decide_eq_false_iff_not, decide_eq_false_iff_not]; omega
  · intro a b c h1 h2
    unfold noLess moreB at *
    split at h1 <;> split at h2 <;> split <;> rw [decide_eq_false_iff_not] at * <;> omega
theorem greatB_ord : TotalOrd (noLess greatB) := by
  constructor
  · intro a b
    unfold noLess greatB
    by_cases h1 : a.plc = b.plc
    · rw [if_pos h1.symm, if_pos h1]
      by_cases h2 : a.cnt = b.cnt
      · rw [if_pos h2.symm, if_pos h2, decide_eq_false_iff_not, decide_eq_false_iff_not]; omega
      · rw [if_neg (Ne.symm h2), if_neg h2, decide_eq_false_iff_not, decide_eq_false_iff_not]; omega
    · rw [if_neg (Ne.symm h1), if_neg h1, decide_eq_false_iff_not, decide_eq_false_iff_not]; omega
  · intro a b c h1 h2
    unfold noLess greatB at *
    split at h1 <;> split at h2 <;> split <;> (try split at h1) <;> (try split at h2) <;> (try split) <;> rw [decide_eq_false_iff_not] at * <;> omega

/-- the queue at block b, whose shares v stand in memory from block B on: the block X is neither of them -/
def Far (b B X : Nat) (v : Value) (w : World) : Prop := B ≤ b ∧ b ≠ X ∧ v.ownBlock ≠ some X ∧ X < w.heap.size
/-- the blocks that it may turn -/
def Sq (B X k : Nat) : Prop := B ≤ k ∧ k ≠ X

end Go.Proofs.Ytllkfmnofklpmaa

/- Plain: shares of counts, and what a heap of them gives out. -/
namespace Go.Proofs.Ytllkfmnofklpmaa
open Go

/-- the share of the value i, whose count is x -/
def mkSh (size n : Int) (i : Nat) (x : Int) : Sh := if x * size / n = 0 then ⟨(i : Int), x, 1, x * size % n, true⟩ else ⟨(i : Int), x, x * size / n, x * size % n, false⟩
/-- the shares of the values below k -/
def shTo (c : List Int) (size n : Int) : Nat → List Sh
  | 0 => []
  | k + 1 => if c.getD k 0 = 0 then shTo c size n k else shTo c size n k ++ [mkSh size n k (c.getD k 0)]
theorem shTo_skip {c : List Int} {size n : Int} {k : Nat} (h : c.getD k 0 = 0) : shTo c size n (k + 1) = shTo c size n k := by simp only [shTo, if_pos h]
theorem shTo_more {c : List Int} {size n : Int} {k : Nat} (h : ¬ c.getD k 0 = 0) : shTo c size n (k + 1) = shTo c size n k ++ [mkSh size n k (c.getD k 0)] := by simp only [shTo, if_neg h]
theorem mkSh_sym (size n : Int) (i : Nat) (x : Int) : (mkSh size n i x).sym = (i : Int) := by unfold mkSh; split <;> rfl
theorem mkSh_cnt (size n : Int) (i : Nat) (x : Int) : (mkSh size n i x).cnt = x := by unfold mkSh; split <;> rfl
theorem mkSh_lft (size n : Int) (i : Nat) (x : Int) : (mkSh size n i x).lft = x * size % n := by unfold mkSh; split <;> rfl
theorem mkSh_rai (size n : Int) (i : Nat) (x : Int) : (mkSh size n i x).rai = decide (x * size / n = 0) := by
  unfold mkSh; split
  · next h => simp [h]
  · next h => simp [h]
theorem mkSh_plc (size n : Int) (i : Nat) (x : Int) : (mkSh size n i x).plc = if x * size / n = 0 then 1 else x * size / n := by unfold mkSh; split <;> rfl

theorem shTo_length (c : List Int) (size n : Int) (k : Nat) : (shTo c size n k).length ≤ k := by
  induction k with
  | zero => simp [shTo]
  | succ k ih =>
    by_cases h : c.getD k 0 = 0
    · rw [shTo_skip h]; omega
    · rw [shTo_more h]; simp; omega
theorem mem_shTo (c : List Int) (size n : Int) (k : Nat) (y : Sh) : y ∈ shTo c size n k ↔ ∃ i, i < k ∧ c.getD i 0 ≠ 0 ∧ y = mkSh size n i (c.getD i 0) := by
  induction k with
  | zero => simp [shTo]
  | succ k ih =>
    by_cases h : c.getD k 0 = 0
    · rw [shTo_skip h, ih]
      constructor
      · rintro ⟨i, h1, h2, h3⟩; exact ⟨i, by omega, h2, h3⟩
      · rintro ⟨i, h1, h2, h3⟩
        by_cases hik : i = k
        · subst hik; exact absurd h h2
        · exact ⟨i, by omega, h2, h3⟩
    · rw [shTo_more h, List.mem_append, ih, List.mem_singleton]
      constructor
      · rintro (⟨i, h1, h2, h3⟩ | rfl)
        · exact ⟨i, by omega, h2, h3⟩
        · exact ⟨k, by omega, h, rfl⟩
      · rintro ⟨i, h1, h2, h3⟩
        by_cases hik : i = k
        · subst hik; exact .inr h3
        · exact .inl ⟨i, by omega, h2, h3⟩
theorem shTo_nodup (c : List Int) (size n : Int) (k : Nat) : (shTo c size n k).Nodup := by
  induction k with
  | zero => simp [shTo]
  | succ k ih =>
    by_cases h : c.getD k 0 = 0
    · rw [shTo_skip h]; exact ih
    · rw [shTo_more h, List.nodup_append]
      refine ⟨ih, by simp, ?_⟩
      intro a ha b hb he
      rw [List.mem_singleton] at hb
      obtain ⟨i, h1, h2, h3⟩ := (mem_shTo c size n k a).1 ha
      have := congrArg Sh.sym (h3.symm.trans (he.trans hb))
      rw [mkSh_sym, mkSh_sym] at this
      omega

/-- the places of shares, laid into counts -/
def layL (q : List Int) : List Sh → List Int
  | [] => q
  | s :: r => layL (q.set s.sym.toNat s.plc) r
theorem layL_append (q : List Int) (a b : List Sh) : layL q (a ++ b) = layL (layL q a) b := by
  induction a generalizing q with
  | nil => rfl
  | cons x r ih => exact ih _
theorem lay_to (c : List Int) (size n : Int) (hl : c.length = 256) (h0 : ∀ x ∈ c, 0 ≤ x) (Z : List Int) (hZ : Z.length = 256) (hz : ∀ j, Z.getD j 0 = 0) (k : Nat) (hk : k ≤ 256) :
    (layL Z (shTo c size n k)).length = 256 ∧ ∀ j, j < 256 → (layL Z (shTo c size n k)).getD j 0 = if j < k then (qBase c size n).getD j 0 else 0 := by
  induction k with
  | zero => exact ⟨hZ, fun j _ => by rw [if_neg (by omega)]; exact hz j⟩
  | succ k ih =>
    obtain ⟨i1, i2⟩ := ih (by omega)
    have hbase := base_at (c := c) (size := size) (n := n) k (by omega)
    have hx := h0 _ (getD_mem (cs := c) (k := k) (by omega))
    by_cases h : c.getD k 0 = 0
    · rw [shTo_skip h]
      refine ⟨i1, fun j hj => ?_⟩
      rw [i2 j hj]
      by_cases hjk : j = k
      · subst hjk
        rw [if_neg (by omega), if_pos (by omega), hbase, h]
        simp
        try rfl
      · by_cases h1 : j < k
        · rw [if_pos h1, if_pos (by omega)]
        · rw [if_neg h1, if_neg (by omega)]
    · rw [shTo_more h, layL_append]
      simp only [layL, mkSh_sym, mkSh_plc, Int.toNat_natCast]
      refine ⟨by rw [List.length_set]; exact i1, fun j hj => ?_⟩
      rw [iset_getD _ _ _ _ (by omega)]
      by_cases hjk : k = j
      · subst hjk
        rw [if_pos rfl, if_pos (show k < k + 1 by omega), hbase]
        by_cases hz0 : c.getD k 0 * size / n = 0
        · rw [if_pos hz0, if_pos hz0]; omega
        · rw [if_neg hz0, if_neg hz0]
      · rw [if_neg hjk, i2 j hj]
        by_cases h1 : j < k
        · rw [if_pos h1, if_pos (by omega)]
        · rw [if_neg h1, if_neg (by omega)]
theorem lay_all (c : List Int) (size n : Int) (hl : c.length = 256) (h0 : ∀ x ∈ c, 0 ≤ x) (Z : List Int) (hZ : Z.length = 256) (hz : ∀ j, Z.getD j 0 = 0) : layL Z (shTo c size n 256) = qBase c size n := by
  obtain ⟨h1, h2⟩ := lay_to c size n hl h0 Z hZ hz 256 (Nat.le_refl _)
  apply ext_getD (by rw [h1]; simp [qBase, hl])
  intro j hj
  rw [h1] at hj
  rw [h2 j hj, if_pos hj]

/-- who wait: those that have had none -/
structure Waits (c : List Int) (size n : Int) (had : List Bool) (l : List Sh) : Prop where
  nd : l.Nodup
  mem : ∀ y, y ∈ l ↔ ∃ i, i < 256 ∧ c.getD i 0 ≠ 0 ∧ had.getD i false = false ∧ y = mkSh size n i (c.getD i 0)
theorem Waits.perm {c : List Int} {size n : Int} {had : List Bool} {l l' : List Sh} (h : Waits c size n had l) (hp : l'.Perm l) : Waits c size n had l' :=
  ⟨hp.nodup_iff.2 h.nd, fun y => by rw [hp.mem_iff]; exact h.mem y⟩
/-- what comes off is who is neediest -/
theorem Waits.next {c : List Int} {size n : Int} {had : List Bool} {l l' : List Sh} {x : Sh} (hlc : c.length = 256) (hlh : had.length = 256) (h : Waits c size n had l) (hp : l.Perm (x :: l')) (hle : ∀ y ∈ l', noLess moreB x y)
    {s : Nat} (hs : s < 256) (hc : c.getD s 0 ≠ 0) (hd : had.getD s false = false) (hn : needyTo (rest0 c size n) had 256 = some s) : x.sym = (s : Int) ∧ Waits c size n (had.set s true) l' := by
  obtain ⟨_, _, hspec⟩ := needy_some _ _ _ _ hn
  have hxm : x ∈ l := hp.symm.subset (List.mem_cons_self ..)
  obtain ⟨i, hi1, hi2, hi3, hi4⟩ := (h.mem x).1 hxm
  have hsm : mkSh size n s (c.getD s 0) ∈ x :: l' := hp.subset ((h.mem _).2 ⟨s, hs, hc, hd, rfl⟩)
  have hnl : moreB (mkSh size n s (c.getD s 0)) x = false := by
    rcases List.mem_cons.1 hsm with he | he
    · rw [he]; unfold moreB; simp
    · exact hle _ he
  have hsp := hspec i hi1 hi3
  rw [rest_at i (by omega), rest_at s (by omega)] at hsp
  have his : i = s := by
    unfold moreB at hnl
    rw [hi4, mkSh_lft, mkSh_lft, mkSh_sym, mkSh_sym] at hnl
    split at hnl
    · rw [decide_eq_false_iff_not] at hnl; omega
    · rw [decide_eq_false_iff_not] at hnl; omega
  subst his
  refine ⟨by rw [hi4, mkSh_sym], ?_, ?_⟩
  · exact (List.nodup_cons.1 (hp.nodup_iff.1 h.nd)).2
  · intro y
    have hnx : x ∉ l' := (List.nodup_cons.1 (hp.nodup_iff.1 h.nd)).1
    constructor
    · intro hy
      obtain ⟨j, hj1, hj2, hj3, hj4⟩ := (h.mem y).1 (hp.symm.subset (List.mem_cons_of_mem _ hy))
      refine ⟨j, hj1, hj2, ?_, hj4⟩
      rw [bset_getD _ _ _ _ (by omega), if_neg]
      · exact hj3
      · intro he
        subst he
        exact hnx (by rw [hi4, ← hj4]; exact hy)
    · rintro ⟨j, hj1, hj2, hj3, hj4⟩
      rw [bset_getD _ _ _ _ (by omega)] at hj3
      by_cases he : i = j
      · subst he; rw [if_pos rfl] at hj3; cases hj3
      · rw [if_neg he] at hj3
        have hyl := hp.subset ((h.mem y).2 ⟨j, hj1, hj2, hj3, hj4⟩)
        rcases List.mem_cons.1 hyl with h1 | h1
        · exfalso
          have := congrArg Sh.sym (hj4.symm.trans (h1.trans hi4))
          rw [mkSh_sym, mkSh_sym] at this
          omega
        · exact h1

/-- a share that has so many places now -/
def upSh (size n : Int) (q c : List Int) (i : Nat) : Sh := { mkSh size n i (c.getD i 0) with plc := q.getD i 0 }
/-- all shares, with their places -/
structure Gives (c : List Int) (size n : Int) (q : List Int) (l : List Sh) : Prop where
  nd : l.Nodup
  mem : ∀ y, y ∈ l ↔ ∃ i, i < 256 ∧ c.getD i 0 ≠ 0 ∧ y = upSh size n q c i
theorem upSh_sym (size n : Int) (q c : List Int) (i : Nat) : (upSh size n q c i).sym = (i : Int) := by unfold upSh; simp only []; exact mkSh_sym ..
theorem upSh_cnt (size n : Int) (q c : List Int) (i : Nat) : (upSh size n q c i).cnt = c.getD i 0 := by unfold upSh; simp only []; exact mkSh_cnt ..
theorem upSh_plc (size n : Int) (q c : List Int) (i : Nat) : (upSh size n q c i).plc = q.getD i 0 := rfl
theorem upSh_inj {size n : Int} {q q' c c' : List Int} {i j : Nat} (h : upSh size n q c i = upSh size n q' c' j) : i = j := by
  have := congrArg Sh.sym h
  rw [upSh_sym, upSh_sym] at this
  omega
theorem gives_base {c : List Int} {size n : Int} (hl : c.length = 256) (h0 : ∀ x ∈ c, 0 ≤ x) (i : Nat) (hi : i < 256) (hc : c.getD i 0 ≠ 0) : upSh size n (qBase c size n) c i = mkSh size n i (c.getD i 0) := by
  have hx := h0 _ (getD_mem (cs := c) (k := i) (by omega))
  unfold upSh
  rw [base_at i (by omega)]
  unfold mkSh
  have hm : min (c.getD i 0) 1 = 1 := by omega
  by_cases hz0 : c.getD i 0 * size / n = 0
  · rw [if_pos hz0, if_pos hz0, hm]
  · rw [if_neg hz0, if_neg hz0]
/-- what comes off is who is richest; what is laid back has one less -/
theorem Gives.next {c q : List Int} {size n : Int} {l l' : List Sh} {x : Sh} (hlq : q.length = 256) (h : Gives c size n q l) (hp : l.Perm (x :: l')) (hle : ∀ y ∈ l', noLess greatB x y)
    (hc : c.getD (richTo q c 255) 0 ≠ 0) : x = upSh size n q c (richTo q c 255) ∧ Gives c size n (takeStep c q) ({ x with plc := x.plc - 1 } :: l') := by
  obtain ⟨hR, hspec⟩ := rich_spec q c 255
  obtain ⟨R, hRR⟩ : ∃ R, richTo q c 255 = R := ⟨_, rfl⟩
  have hts : takeStep c q = q.set R (q.getD R 0 - 1) := by unfold takeStep; rw [hRR]
  rw [hRR] at hR hspec hc ⊢
  have hxm : x ∈ l := hp.symm.subset (List.mem_cons_self ..)
  obtain ⟨i, hi1, hi2, hi4⟩ := (h.mem x).1 hxm
  have hsm : upSh size n q c R ∈ x :: l' := hp.subset ((h.mem _).2 ⟨R, by omega, hc, rfl⟩)
  have hnl : greatB (upSh size n q c R) x = false := by
    rcases List.mem_cons.1 hsm with he | he
    · rw [he]; unfold greatB; simp
    · exact hle _ he
  have hsp := hspec i (by omega)
  have his : i = R := by
    unfold greatB at hnl
    rw [hi4, upSh_plc, upSh_plc, upSh_sym, upSh_sym, upSh_cnt, upSh_cnt] at hnl
    split at hnl
    · split at hnl <;> rw [decide_eq_false_iff_not] at hnl <;> omega
    · rw [decide_eq_false_iff_not] at hnl; omega
  subst his
  have hnx : x ∉ l' := (List.nodup_cons.1 (hp.nodup_iff.1 h.nd)).1
  have hup : ({ x with plc := x.plc - 1 } : Sh) = upSh size n (takeStep c q) c i := by
    rw [hts, hi4]
    unfold upSh
    simp only [Sh.mk.injEq, true_and, and_true]
    rw [iset_getD _ _ _ _ (by omega), if_pos rfl]
  have hoth : ∀ j, i ≠ j → upSh size n (takeStep c q) c j = upSh size n q c j := fun j hj => by
    rw [hts]
    unfold upSh
    rw [iset_getD _ _ _ _ (by omega), if_neg hj]
  refine ⟨hi4, ?_, ?_⟩
  · rw [hup, List.nodup_cons]
    refine ⟨fun hm => ?_, (List.nodup_cons.1 (hp.nodup_iff.1 h.nd)).2⟩
    obtain ⟨j, hj1, hj2, hj4⟩ := (h.mem _).1 (hp.symm.subset (List.mem_cons_of_mem _ hm))
    have hij := upSh_inj hj4
    subst hij
    exact hnx (by rw [hi4, ← hj4]; exact hm)
  · intro y
    rw [hup, List.mem_cons]
    constructor
    · rintro (rfl | hy)
      · exact ⟨i, hi1, hi2, rfl⟩
      · obtain ⟨j, hj1, hj2, hj4⟩ := (h.mem y).1 (hp.symm.subset (List.mem_cons_of_mem _ hy))
        refine ⟨j, hj1, hj2, ?_⟩
        rw [hoth j (fun he => by subst he; exact hnx (by rw [hi4, ← hj4]; exact hy))]
        exact hj4
    · rintro ⟨j, hj1, hj2, hj4⟩
      by_cases he : i = j
      · subst he; exact .inl hj4
      · right
        rw [hoth j he] at hj4
        have hyl := hp.subset ((h.mem y).2 ⟨j, hj1, hj2, hj4⟩)
        rcases List.mem_cons.1 hyl with h1 | h1
        · exfalso
          exact he (upSh_inj (hi4.symm.trans (h1.symm.trans hj4)))
        · exact h1

end Go.Proofs.Ytllkfmnofklpmaa

/- What the methods of norm's queue do. THIS SPEAKS OF THE PROGRAM'S OWN TEXT. -/
namespace Go.Proofs.Ytllkfmnofklpmaa
open Go.RowKit

section
variable {b B f X : Nat} {w : World} {l : List Sh}

end

end Go.Proofs.Ytllkfmnofklpmaa

/- What Swap of norm's queue does. THIS SPEAKS OF THE PROGRAM'S OWN TEXT. -/
namespace Go.Proofs.Ytllkfmnofklpmaa
open Go.RowKit

section
variable {b B f X : Nat} {w : World} {l : List Sh}

/-- five cells of the block g, one behind the other -/
def W5 (w : World) (g k : Nat) (s : Sh) : World := ((((w.setCell ⟨g, k, none⟩ (.int .i64 s.sym)).setCell ⟨g, k + 1, none⟩ (.int .i64 s.cnt)).setCell ⟨g, k + 2, none⟩ (.int .i64 s.plc)).setCell ⟨g, k + 3, none⟩ (.int .i64 s.lft)).setCell ⟨g, k + 4, none⟩ (.bool s.rai)
theorem W5_chg (w : World) (g k : Nat) (s : Sh) : Chg (fun q => q = g) w (W5 w g k s) :=
  ((((Chg.setCell w ⟨g, k, none⟩ _).trans (Chg.setCell _ ⟨g, k + 1, none⟩ _) fun _ _ h => h).trans (Chg.setCell _ ⟨g, k + 2, none⟩ _) fun _ _ h => h).trans (Chg.setCell _ ⟨g, k + 3, none⟩ _) fun _ _ h => h).trans (Chg.setCell _ ⟨g, k + 4, none⟩ _) fun _ _ h => h
end

end Go.Proofs.Ytllkfmnofklpmaa

/- What norm's divide and told do. THIS SPEAKS OF THE PROGRAM'S OWN TEXT. -/
namespace Go.Proofs.Ytllkfmnofklpmaa
open Go.RowKit

theorem layL_length (q : List Int) (l : List Sh) : (layL q l).length = q.length := by
  induction l generalizing q with
  | nil => rfl
  | cons x r ih => rw [layL, ih, List.length_set]
theorem layL_take (q : List Int) (l : List Sh) (k : Nat) (hk : k < l.length) : layL q (l.take (k + 1)) = (layL q (l.take k)).set (l.getD k default).sym.toNat (l.getD k default).plc := by
  rw [List.take_succ_eq_append_getElem hk, layL_append, List.getD_eq_getElem?_getD, List.getElem?_eq_getElem hk]; rfl

end Go.Proofs.Ytllkfmnofklpmaa

/- norm's queue is a heap; what its add and next do. THIS SPEAKS OF THE PROGRAM'S OWN TEXT. -/
namespace Go.Proofs.Ytllkfmnofklpmaa
open Go.RowKit

section
variable {b B f X : Nat} {w : World} {l : List Sh}

end

end Go.Proofs.Ytllkfmnofklpmaa

/- What norm's fill and thin do. THIS SPEAKS OF THE PROGRAM'S OWN TEXT. -/
namespace Go.Proofs.Ytllkfmnofklpmaa
open Go.RowKit

/-- the first ones that were not raised -/
def calm (l : List Sh) : List Sh := l.filter fun s => !s.rai
theorem calm_take (l : List Sh) (k : Nat) (hk : k < l.length) : calm (l.take (k + 1)) = calm (l.take k) ++ (if (l.getD k default).rai = true then [] else [l.getD k default]) := by
  unfold calm
  rw [List.take_succ_eq_append_getElem hk, List.filter_append, List.getD_eq_getElem?_getD, List.getElem?_eq_getElem hk]
  simp only [Option.getD_some]
  congr 1
  cases h : l[k].rai <;> simp [h]
theorem calm_length (l : List Sh) : (calm l).length ≤ l.length := List.length_filter_le ..
theorem calm_waits (c : List Int) (size n : Int) (hl : c.length = 256) : Waits c size n (had0 c size n) (calm (shTo c size n 256)) := by
  refine ⟨(shTo_nodup c size n 256).filter _, fun y => ?_⟩
  unfold calm
  rw [List.mem_filter, mem_shTo]
  constructor
  · rintro ⟨⟨i, h1, h2, h3⟩, h4⟩
    refine ⟨i, h1, h2, ?_, h3⟩
    rw [had_at i (by omega)]
    rw [h3, mkSh_rai] at h4
    simpa using h4
  · rintro ⟨i, h1, h2, h3, h4⟩
    refine ⟨⟨i, h1, h2, h4⟩, ?_⟩
    rw [had_at i (by omega)] at h3
    rw [h4, mkSh_rai, h3]; rfl
/-- a gift: who is neediest has a count, and comes next -/
theorem gave_needy {c : List Int} {size n : Int} (hl : c.length = 256) (k : Nat) (hk : k < cntN (rest0 c size n) (had0 c size n)) {p : List Int × List Bool} (hp : p = giveN (rest0 c size n) k (qBase c size n) (had0 c size n)) :
    ∃ s, s < 256 ∧ c.getD s 0 ≠ 0 ∧ p.2.getD s false = false ∧ needyTo (rest0 c size n) p.2 256 = some s ∧ p.1.length = 256 ∧ p.2.length = 256 := by
  have g := gave (rest := rest0 c size n) (q := qBase c size n) (had := had0 c size n) (by simp [rest0, hl]) (by simp [qBase, hl]) (by simp [had0, hl]) k (by omega)
  rw [← hp] at g
  obtain ⟨s, h1, h2, h3, g2⟩ := gave_step (by simp [rest0, hl]) g hk
  refine ⟨s, h2, fun h0 => ?_, h3, h1, g.len1, g.len2⟩
  have hso := g2.some s h2 ?_ ?_
  · rw [rest_at s (by omega), h0] at hso; simp at hso
  · cases hh : (had0 c size n).getD s false with
    | false => rfl
    | true => have := g.keep s hh; rw [this] at h3; cases h3
  · simp only; rw [bset_getD _ _ _ _ (by rw [g.len2]; exact h2), if_pos rfl]

end Go.Proofs.Ytllkfmnofklpmaa

/- What norm's thin does. THIS SPEAKS OF THE PROGRAM'S OWN TEXT. -/
namespace Go.Proofs.Ytllkfmnofklpmaa
open Go.RowKit

theorem all_gives (c : List Int) (size n : Int) (hl : c.length = 256) (h0 : ∀ x ∈ c, 0 ≤ x) : Gives c size n (qBase c size n) (shTo c size n 256) := by
  refine ⟨shTo_nodup c size n 256, fun y => ?_⟩
  rw [mem_shTo]
  constructor
  · rintro ⟨i, h1, h2, h3⟩; exact ⟨i, h1, h2, by rw [gives_base hl h0 i h1 h2]; exact h3⟩
  · rintro ⟨i, h1, h2, h3⟩; exact ⟨i, h1, h2, by rw [← gives_base hl h0 i h1 h2]; exact h3⟩
theorem Gives.perm {c : List Int} {size n : Int} {q : List Int} {l l' : List Sh} (h : Gives c size n q l) (hp : l'.Perm l) : Gives c size n q l' :=
  ⟨hp.nodup_iff.2 h.nd, fun y => by rw [hp.mem_iff]; exact h.mem y⟩

end Go.Proofs.Ytllkfmnofklpmaa

/- What norm's Counts, Right and Log tell. THIS SPEAKS OF THE PROGRAM'S OWN TEXT. -/
namespace Go.Proofs.Ytllkfmnofklpmaa
open Go.RowKit

set_option maxHeartbeats 1000000 in
theorem nmaybe_any (r : Int) (w : World) : Calls Try.prog 53 #[.int .i64 r] w fun e w' => e = .returned (.bool (decide (1 ≤ r ∧ r ≤ 12))) ∧ w' = w := by
  by_cases h1 : 1 ≤ r
  · by_cases h2 : r ≤ 12
    · rw [decide_eq_true ⟨h1, h2⟩]
      go_enter Try.func53, Try.ntmps53
      go_wp2
      go_ret
      exact ⟨rfl, rfl⟩
    · rw [decide_eq_false (fun h => h2 h.2)]
      go_enter Try.func53, Try.ntmps53
      go_wp2
      go_ret
      exact ⟨rfl, rfl⟩
  · rw [decide_eq_false (fun h => h1 h.1)]
    go_enter Try.func53, Try.ntmps53
    go_wp2
    go_ret
    exact ⟨rfl, rfl⟩

set_option maxHeartbeats 1000000 in
theorem nlog_any (v : Value) (q : List Int) (w : World) (h : RdI w v q) (hb : ∀ z ∈ q, -9223372036854775808 ≤ z ∧ z ≤ 9223372036854775807) (hl : q.length < 100000000000) :
    Calls Try.prog 29 #[v] w fun e w' => e = .returned (.tuple #[.int .i64 ((logI (totalI q) : Nat) : Int), .bool (decide (0 < logI (totalI q)))]) ∧ Chg (fun _ => False) w w' := by
  have HT := Lib.hid (htotal_any v q w h hb hl)
  obtain ⟨ao, cap, rfl⟩ := h.form
  clear h hb
  have htl := totalI_le q
  obtain ⟨t, ht⟩ : ∃ t, totalI q = t := ⟨_, rfl⟩
  rw [ht] at HT htl ⊢
  obtain ⟨ht0, ht1⟩ := htl
  obtain ⟨L, hL⟩ : ∃ L, logI t = L := ⟨_, rfl⟩
  rw [hL]
  obtain ⟨D, hD⟩ : ∃ D, decide (0 < L) = D := ⟨_, rfl⟩
  rw [hD]
  have HL := Lib.hid hL; have HD := Lib.hid hD
  clear ht hL hD
  go_enter Try.func29, Try.ntmps29
  go_wp2_with fail
  refine HT.out.mono ?_
  rintro e w1 ⟨rfl, m0, rfl⟩
  have hc0 : Chg (fun _ => False) w (w.drewN m0) := (Chg.refl _ _).drewN m0
  obtain ⟨w0, hw0⟩ : ∃ w0, w.drewN m0 = w0 := ⟨_, rfl⟩
  rw [hw0] at hc0 ⊢
  have HC0 := Lib.hid hc0
  clear HT hw0 hc0
  go_wp2
  go_loopw [5] (fun o5 wr => ∃ r : Nat, 1 ≤ r ∧ r ≤ 13 ∧ o5 = .int .i64 (r : Int) ∧ (∀ j, 1 ≤ j → j < r → ¬ t = ((2 ^ j : Nat) : Int)) ∧ wr = w0) (fun o5 _ => 13 - (intOf o5).toNat)
  case atStart => exact ⟨1, Nat.le_refl _, by omega, rfl, fun j h1 h2 => by omega, rfl⟩
  case round =>
    obtain ⟨r, hr1, hr2, rfl, hno, rfl⟩ := hrel
    have HNO := Lib.hid hno
    clear hno
    by_cases hlt : r ≤ 12
    · have d1 : decide ((r : Int) ≤ 12) = true := by simp; omega
      have hlI : (r : Int) ≤ 12 := by omega
      have hpw := pow12 hlt
      obtain ⟨P, hP⟩ : ∃ P, 2 ^ r = P := ⟨_, rfl⟩
      have hPI : (2 : Int) ^ r = (P : Int) := by rw [← hP]; simp
      rw [hP] at hpw
      have hpI : (P : Int) ≤ 4096 := by omega
      have HPP := Lib.hid hP
      clear hP
      by_cases heq : t = (P : Int)
      · have hLr : L = r := by
          rw [← HL.out, heq, ← HPP.out]
          exact logI_pow hr1 hlt
        subst hLr
        subst heq
        have hD1 : D = true := by rw [← HD.out]; exact decide_eq_true (by omega)
        subst hD1
        go_wp2
        go_ret2
        exact ⟨rfl, HC0.out⟩
      · have hne : (t == (P : Int)) = false := by simp [heq]
        go_wp2
        go_roundw
        case rel =>
          refine ⟨r + 1, by omega, by omega, by go_num, fun j h1 h2 => ?_, trivial⟩
          by_cases hjr : j = r
          · subst hjr; rw [HPP.out]; exact heq
          · exact HNO.out j h1 (by omega)
        case measure => simp [intOf]; omega
    · have hr13 : r = 13 := by omega
      have hrI : (r : Int) = 13 := by omega
      rw [hrI]
      have hL0 : L = 0 := by
        rw [← HL.out]
        exact logI_none fun j h1 h2 => HNO.out j h1 (by omega)
      subst hL0
      have hD1 : D = false := by rw [← HD.out]; rfl
      subst hD1
      clear hr13 hrI hlt hr1 hr2
      go_wp2
      go_ret2
      exact ⟨rfl, HC0.out⟩

theorem log_of_total {t r : Int} (h1 : 1 ≤ r) (h2 : r ≤ 12) : (t = ((2 ^ r.toNat : Nat) : Int)) ↔ (0 < logI t ∧ ((logI t : Nat) : Int) = r) := by
  constructor
  · intro h
    rw [h, logI_pow (by omega) (by omega)]; omega
  · rintro ⟨h3, h4⟩
    rcases logI_spec t with h5 | ⟨_, h5⟩
    · omega
    · have : r.toNat = logI t := by omega
      rw [this]; exact h5

set_option maxHeartbeats 1000000 in
theorem nright_any (v : Value) (q : List Int) (r : Int) (w : World) (h : RdI w v q) (hb : ∀ z ∈ q, -9223372036854775808 ≤ z ∧ z ≤ 9223372036854775807) (hl : q.length < 100000000000) (hr : -9223372036854775808 ≤ r ∧ r ≤ 9223372036854775807) :
    Calls Try.prog 27 #[v, .int .i64 r] w fun e w' => e = .returned (.bool (decide (0 < logI (totalI q) ∧ ((logI (totalI q) : Nat) : Int) = r))) ∧ Chg (fun _ => False) w w' := by
  have hq : ∀ m, RdI (w.drewN m) v q := fun m => h.kept ((Chg.refl (fun _ => False) w).drewN m) (by simp)
  have HT := Lib.hid (show ∀ m, Calls Try.prog 54 #[v] (w.drewN m) fun e w' => e = .returned (.int .i64 (totalI q)) ∧ ∃ k, w' = (w.drewN m).drewN k from fun m => htotal_any v q (w.drewN m) (hq m) hb hl)
  have HMB := Lib.hid (nmaybe_any r)
  obtain ⟨ao, cap, rfl⟩ := h.form
  clear h hb hq
  have hle := logI_le (totalI q)
  have hsp := @log_of_total (totalI q) r
  have htl := totalI_le q
  obtain ⟨t, ht⟩ : ∃ t, totalI q = t := ⟨_, rfl⟩
  rw [ht] at HT htl hle hsp ⊢
  obtain ⟨ht0, ht1⟩ := htl
  obtain ⟨hr0, hr1⟩ := hr
  by_cases h1 : 1 ≤ r ∧ r ≤ 12
  · have hpw := pow12 (k := r.toNat) (by omega)
    have hsp := hsp h1.1 h1.2
    obtain ⟨k, rfl⟩ : ∃ k : Nat, r = (k : Int) := ⟨r.toNat, by omega⟩
    rw [Int.toNat_natCast] at hpw hsp
    obtain ⟨P, hP⟩ : ∃ P, 2 ^ k = P := ⟨_, rfl⟩
    have hPI : (2 : Int) ^ k = (P : Int) := by rw [← hP]; simp
    rw [hP] at hpw hsp
    have hpI : (P : Int) ≤ 4096 := by omega
    have hkI : (k : Int) ≤ 12 := h1.2
    have hD : decide (0 < logI t ∧ ((logI t : Nat) : Int) = (k : Int)) = (t == (P : Int)) := by
      rw [Bool.eq_iff_iff]; simp only [decide_eq_true_eq, beq_iff_eq]; exact hsp.symm
    rw [hD]
    rw [decide_eq_true h1] at HMB
    clear hsp hle ht h1 hD hP
    go_enter Try.func27, Try.ntmps27
    go_wp2
    go_quiet (first | (go_at_call 53; with_reducible exact Calls.quiet_of_same (HMB.out _)) | (go_at_call 54; with_reducible exact Calls.quiet_of (HT.out _)))
    go_wp2
    go_ret
    exact ⟨rfl, (Chg.refl _ _).drewN _⟩
  · rw [decide_eq_false h1] at HMB
    have hD : decide (0 < logI t ∧ ((logI t : Nat) : Int) = r) = false := decide_eq_false fun hh => h1 (by omega)
    rw [hD]
    clear hsp hle ht
    go_enter Try.func27, Try.ntmps27
    go_wp2
    go_quiet (first | (go_at_call 53; with_reducible exact Calls.quiet_of_same (HMB.out _)))
    go_wp2
    go_ret
    exact ⟨rfl, (Chg.refl _ _).drewN _⟩

theorem zc_le (size n : Int) (c : List Int) : zc size n c ≤ c.length := by
  induction c with
  | nil => simp [zc]
  | cons x r ih => simp only [zc, List.length_cons]; split <;> omega
theorem mem_le_tot (l : List Int) (h0 : ∀ x ∈ l, 0 ≤ x) : ∀ x ∈ l, x ≤ tot l := by
  induction l with
  | nil => simp
  | cons y r ih =>
    intro x hx
    have hn := tot_nonneg r fun z hz => h0 z (by simp [hz])
    have hy := h0 y (by simp)
    rcases List.mem_cons.1 hx with rfl | hx
    · simp only [tot]; omega
    · have := ih (fun z hz => h0 z (by simp [hz])) x hx
      simp only [tot]; omega
theorem base_right {c : List Int} {size : Int} (h : Fit c size) (hs : size ≤ 4096) : isRight (qBase c size (tot c)) ∧ tot (qBase c size (tot c)) ≤ 4352 ∧ ∀ x ∈ qBase c size (tot c), 0 ≤ x ∧ x ≤ 1000000 := by
  have hn := h.some
  have hb := base_sum size (tot c) c h.low
  have hp := sum_parts size (tot c) c
  have hr := tot_rest_nonneg size (tot c) hn c
  have hz := zc_le size (tot c) c
  rw [h.len] at hz
  have h1 : tot c * tot (q0L c size (tot c)) ≤ tot c * size := by omega
  have h2 := Int.le_of_mul_le_mul_left h1 hn
  have h0 : ∀ x ∈ qBase c size (tot c), 0 ≤ x := by
    intro x hx
    simp only [qBase, List.mem_map] at hx
    obtain ⟨y, hy, rfl⟩ := hx
    have hy0 := h.low y hy
    have := (div_parts y size (tot c) hn hy0 h.sz).1
    split <;> omega
  have ht : tot (qBase c size (tot c)) ≤ 4352 := by omega
  exact ⟨⟨by simp [qBase, h.len], h0, by omega⟩, ht, fun x hx => ⟨h0 x hx, by have := mem_le_tot _ h0 x hx; omega⟩⟩
theorem OwnI.rebase {w : World} {B B' : Nat} {v : Value} {l : List Int} (h : OwnI w B v l) (hb : ∀ k, v.ownBlock = some k → B' ≤ k) : OwnI w B' v l := by
  obtain ⟨g, off, cap, rfl, _, h2⟩ := h
  exact ⟨g, off, cap, rfl, hb g rfl, h2⟩
theorem OwnI.block {w : World} {B : Nat} {v : Value} {l : List Int} (h : OwnI w B v l) : ∀ k, v.ownBlock = some k → B ≤ k := by
  obtain ⟨g, off, cap, rfl, h1, _⟩ := h
  intro k hk
  simp only [Value.ownBlock, Option.some.injEq] at hk
  omega
theorem tot_pos_iff (c : List Int) (h0 : ∀ x ∈ c, 0 ≤ x) : 0 < tot c ↔ 0 < pos c := by
  induction c with
  | nil => simp [tot, pos]
  | cons x r ih =>
    have ih := ih fun z hz => h0 z (by simp [hz])
    have hx := h0 x (by simp)
    have hn := tot_nonneg r fun z hz => h0 z (by simp [hz])
    simp only [tot, pos]
    split <;> omega
theorem many_norm {c : List Int} {r : Int} (h1 : 1 ≤ r) (h2 : r ≤ 12) : normOk c r ↔ manyI c ≠ 0 ∧ (manyI c : Int) ≤ ((2 ^ r.toNat : Nat) : Int) := by
  unfold normOk manyI
  by_cases h : isRight c
  · rw [if_pos h]
    have hp := tot_pos_iff c h.2.1
    constructor
    · rintro ⟨_, h3, _, _, h4⟩; exact ⟨by omega, h4⟩
    · rintro ⟨h3, h4⟩; exact ⟨h, by omega, h1, h2, h4⟩
  · rw [if_neg h]
    exact ⟨fun hh => absurd hh.1 h, fun hh => absurd rfl hh.1⟩

end Go.Proofs.Ytllkfmnofklpmaa

/- What header's Put and Cost do (Take: HdProgC). THIS ALONE SPEAKS OF THE PROGRAM'S OWN TEXT. -/
namespace Go.Proofs.Ytllkfmnofklpmaa
open Go.RowKit

theorem Try.entersP1 (args : Array Value) (w : World) : (callFunc 30 args).run Try.prog w = .ok (.enter 30 args) w := by kernel_rfl
theorem Try.entersP2 (args : Array Value) (w : World) : (callFunc 32 args).run Try.prog w = .ok (.enter 32 args) w := by kernel_rfl
theorem Try.entersC1 (args : Array Value) (w : World) : (callFunc 38 args).run Try.prog w = .ok (.enter 38 args) w := by kernel_rfl
theorem Try.entersC2 (args : Array Value) (w : World) : (callFunc 40 args).run Try.prog w = .ok (.enter 40 args) w := by kernel_rfl

set_option maxRecDepth 20000 in
set_option maxHeartbeats 4000000 in
theorem hdput_any (b : Nat) (o : Option Nat) (bs : List Bool) (v : Value) (q : List Int) (w : World) (h : Wr w b o bs) (hlen : bs.length < 700000000) (hv : RdI w v q) (hr : RoomOk v) (hx : 0 < q.length → ∀ k, v.ownBlock = some k → ¬ (k = b ∨ some k = o)) (hq : ∀ z ∈ q, -9223372036854775808 ≤ z ∧ z ≤ 9223372036854775807) (hl : q.length < 100000000000) :
    Calls Try.prog 10 #[.pointer (some ⟨b, 0, none⟩), v] w fun e w' => e = .returned (.bool (decide (logI (totalI q) ≠ 0))) ∧ WrTo w w' b o (bs ++ hdBits q) := by
  have hmf : ∀ (fn : Fn) (first cap : Array Value) (w : World), (Instr.makeFunc fn first cap).run Try.prog w = .ok (.func fn first cap) w := fun _ _ _ _ => rfl
  have CA := Lib.hid fun (t : TypeId) => Chg.alloc (fun _ => False) w (.cells #[.pointer (some ⟨b, 0, none⟩)] t)
  have HLG := Lib.hid fun (t : TypeId) => nlog_any v q (w.alloc (.cells #[.pointer (some ⟨b, 0, none⟩)] t)) (hv.kept (CA.out t) (by simp)) hq hl
  by_cases hk : logI (totalI q) = 0
  · have e : bs ++ hdBits q = bs := by unfold hdBits; rw [if_pos hk, List.append_nil]
    rw [e, decide_eq_false (by simpa using hk)]
    rw [hk] at HLG
    have HO := Lib.hid h
    clear hq hl e h hk hv hlen hx hr
    go_enter Try.func10, Try.ntmps10
    go_wp2_with fail
    with_reducible refine Calls.mono (HLG.out _) ?_
    rintro e w1 ⟨rfl, hc1⟩
    have C1 := Lib.hid ((CA.out _).trans hc1 fun _ _ h => h)
    clear hc1
    go_wp2
    go_ret
    exact ⟨rfl, o, HO.out.kept C1.out (by simp) (by simp), C1.out.mono fun _ _ h => h.elim, .inl rfl⟩
  · have hn := normQ_of hk
    have hbits : hdBits q = hdGo (fq q) 257 (2 ^ logI (totalI q)) 0 := by unfold hdBits; rw [if_neg hk]
    rw [decide_eq_true (by simpa using hk)]
    obtain ⟨k, hke⟩ : ∃ k, logI (totalI q) = k := ⟨_, rfl⟩
    rw [hke] at hn HLG hbits hk
    obtain ⟨ao, cap, rfl⟩ := hv.form
    obtain ⟨g, off, rfl, -⟩ := hv.at 0 (by rw [hn.1]; omega)
    have hne := hx (by rw [hn.1]; omega) g rfl
    have hcap := hr _ _ _ rfl
    have hn256 := hn.1
    rw [hn256] at hcap HLG ⊢
    have hkk : decide (0 < k) = true := decide_eq_true (by omega)
    rw [hkk] at HLG
    have hk64 : (k : Int) < 64 := by have := hn.2.2.2.2; omega
    rw [hbits]
    obtain ⟨f, hf⟩ : ∃ f, fq q = f := ⟨_, rfl⟩
    obtain ⟨L, hL⟩ : ∃ L, 2 ^ k = L := ⟨_, rfl⟩
    have hLI : (2 : Int) ^ k = (L : Int) := by rw [← hL]; simp
    have hL4 : (L : Int) ≤ 4096 := by have := hn.size; omega
    have WALK := Lib.hid fun J A0 W m1 m2 P1 P2 => hdwalk_any J m1 m2 P1 P2 g off cap q f A0 k W hn hf hcap
    rw [hf]
    rw [hL] at WALK ⊢
    have HO := Lib.hid h; have HLT := Lib.hid h.lt; have HLEN := Lib.hid hlen; have HNE := Lib.hid hne
    have HV := Lib.hid (show RdI w (.slice (some ⟨g, off, none⟩) 256 cap) q by rw [← hn256]; exact hv)
    clear hbits hn hv hr hx hq hl hk hke hkk hcap hne h hlen hn256
    go_enter Try.func10, Try.ntmps10
    go_wp2_with fail
    with_reducible refine Calls.mono (HLG.out _) ?_
    rintro e w1 ⟨rfl, hc1⟩
    obtain ⟨t, hB⟩ : ∃ t, Bx w1 w.heap.size t (.pointer (some ⟨b, 0, none⟩)) := ⟨_, (Bx.new w _ (.pointer (some ⟨b, 0, none⟩))).kept hc1 (by simp)⟩
    have c1 := (CA.out _).trans hc1 fun _ _ h => h
    have hw1 := HO.out.kept c1 (by simp) (by simp)
    have hsz := Nat.lt_of_lt_of_le (Nat.lt_succ_self w.heap.size) (show w.heap.size + 1 ≤ w1.heap.size by have := hc1.size; simpa using this)
    have WK := Lib.hid (WALK.out (fun W A => WrTo w1 W b o A ∧ Bx W w.heap.size t (.pointer (some ⟨b, 0, none⟩))) bs w1 30 32 (.pointer (some ⟨w.heap.size, 0, none⟩)) (.pointer (some ⟨w.heap.size, 0, none⟩)) (Try.entersP1) (Try.entersP2)
      ⟨⟨o, hw1, Chg.refl _ _, .inl rfl⟩, hB⟩
      (fun W A hJ => by
        obtain ⟨⟨o', -, hc, -⟩, -⟩ := hJ
        exact (HV.out.kept c1 (by simp)).kept hc (fun k hk => by simp only [Value.ownBlock, Option.some.injEq] at hk; subst hk; exact HNE.out))
      (fun W A n l hJ h1 h2 h3 hA => by
        obtain ⟨⟨o', hw', hc, ho⟩, hb⟩ := hJ
        refine (hdput1_any b o' A w.heap.size t n l W hw' hb (by have := HLEN.out; omega) h1 h2 h3).mono ?_
        rintro e W' ⟨rfl, ht⟩
        refine ⟨rfl, WrTo.trans hc ho ht, ?_⟩
        obtain ⟨o2, -, hc2, -⟩ := ht
        refine hb.kept hc2 ?_
        rintro (hh | hh)
        · have := HLT.out.1; omega
        · rcases ho with rfl | ⟨k, rfl, hk⟩
          · have := (HLT.out.2 _ hh.symm).2; omega
          · simp only [Option.some.injEq] at hh; omega)
      (fun W A n hJ h1 hA => by
        obtain ⟨⟨o', hw', hc, ho⟩, hb⟩ := hJ
        refine (hdput2_any b o' A w.heap.size t n W hw' hb (by have := HLEN.out; omega) h1).mono ?_
        rintro e W' ⟨rfl, ht⟩
        refine ⟨rfl, WrTo.trans hc ho ht, ?_⟩
        obtain ⟨o2, -, hc2, -⟩ := ht
        refine hb.kept hc2 ?_
        rintro (hh | hh)
        · have := HLT.out.1; omega
        · rcases ho with rfl | ⟨k, rfl, hk⟩
          · have := (HLT.out.2 _ hh.symm).2; omega
          · simp only [Option.some.injEq] at hh; omega))
    have C1 := Lib.hid c1; have HSZ := Lib.hid hsz
    clear hc1 HLG hB c1 hsz CA hw1 WALK
    go_wp2_with fail
    with_reducible refine Calls.mono WK.out ?_
    rintro e w2 ⟨rfl, ht, -⟩
    have T2 := Lib.hid (WrTo.trans (o1 := o) (C1.out.mono fun _ _ h => h.elim) (.inl rfl) ht)
    clear ht WK
    go_wp2
    go_ret
    exact ⟨rfl, T2.out⟩

set_option maxRecDepth 20000 in
set_option maxHeartbeats 4000000 in
theorem hdcost_any (v : Value) (q : List Int) (w : World) (hv : RdI w v q) (hr : RoomOk v) (hq : ∀ z ∈ q, -9223372036854775808 ≤ z ∧ z ≤ 9223372036854775807) (hl : q.length < 100000000000) :
    Calls Try.prog 16 #[v] w fun e w' => e = .returned (.int .i64 (((hdBits q).length : Nat) : Int)) ∧ Chg (fun _ => False) w w' := by
  have hmf : ∀ (fn : Fn) (first cap : Array Value) (w : World), (Instr.makeFunc fn first cap).run Try.prog w = .ok (.func fn first cap) w := fun _ _ _ _ => rfl
  have HLG := Lib.hid (nlog_any v q w hv hq hl)
  by_cases hk : logI (totalI q) = 0
  · have e : hdBits q = [] := by unfold hdBits; rw [if_pos hk]
    rw [e]
    rw [hk] at HLG
    clear hq hl e hk hv hr
    go_enter Try.func16, Try.ntmps16
    go_wp2_with fail
    with_reducible refine Calls.mono HLG.out ?_
    rintro e w1 ⟨rfl, hc1⟩
    have C1 := Lib.hid hc1
    clear hc1
    go_wp2
    go_ret
    exact ⟨rfl, C1.out⟩
  · have hn := normQ_of hk
    have hb3840 := hdBits_length q
    have hbits : hdBits q = hdGo (fq q) 257 (2 ^ logI (totalI q)) 0 := by unfold hdBits; rw [if_neg hk]
    obtain ⟨k, hke⟩ : ∃ k, logI (totalI q) = k := ⟨_, rfl⟩
    rw [hke] at hn HLG hbits hk
    obtain ⟨ao, cap, rfl⟩ := hv.form
    obtain ⟨g, off, rfl, hgc⟩ := hv.at 0 (by rw [hn.1]; omega)
    have hcap := hr _ _ _ rfl
    have hn256 := hn.1
    rw [hn256] at hcap HLG ⊢
    have hkk : decide (0 < k) = true := decide_eq_true (by omega)
    rw [hkk] at HLG
    have hk64 : (k : Int) < 64 := by have := hn.2.2.2.2; omega
    rw [hbits] at hb3840 ⊢
    obtain ⟨f, hf⟩ : ∃ f, fq q = f := ⟨_, rfl⟩
    obtain ⟨L, hL⟩ : ∃ L, 2 ^ k = L := ⟨_, rfl⟩
    have hLI : (2 : Int) ^ k = (L : Int) := by rw [← hL]; simp
    have hL4 : (L : Int) ≤ 4096 := by have := hn.size; omega
    have WALK := Lib.hid fun J A0 W m1 m2 P1 P2 => hdwalk_any J m1 m2 P1 P2 g off cap q f A0 k W hn hf hcap
    rw [hf] at hb3840 ⊢
    rw [hL] at WALK hb3840 ⊢
    obtain ⟨D, hD⟩ : ∃ D, hdGo f 257 L 0 = D := ⟨_, rfl⟩
    rw [hD] at WALK hb3840 ⊢
    have HV := Lib.hid (show RdI w (.slice (some ⟨g, off, none⟩) 256 cap) q by rw [← hn256]; exact hv)
    clear hbits hn hv hr hq hl hk hke hkk hcap hn256 hD hL hf hgc
    go_enter Try.func16, Try.ntmps16
    go_wp2_with fail
    with_reducible refine Calls.mono HLG.out ?_
    rintro e w1 ⟨rfl, hc1⟩
    obtain ⟨B, hBe⟩ : ∃ B, w1.heap.size = B := ⟨_, rfl⟩
    obtain ⟨w2, hw2⟩ : ∃ w2, w1.alloc (.cells #[.int .i64 0] 3) = w2 := ⟨_, rfl⟩
    have hB : Bx w2 B 3 (.int .i64 ((0 : Nat) : Int)) := by rw [← hw2, ← hBe]; exact Bx.new w1 _ _
    have c2 : Chg (fun _ => False) w w2 := hc1.trans (by rw [← hw2]; exact Chg.alloc (fun _ => False) w1 _) fun _ _ h => h
    have hBw : w.heap.size ≤ B := by have := hc1.size; omega
    have HBW := Lib.hid hBw; have HD := Lib.hid hb3840
    have WK := Lib.hid (WALK.out (fun W A => Bx W B 3 (.int .i64 ((A.length : Nat) : Int)) ∧ Chg (fun _ => False) w W) [] w2 38 40 (.pointer (some ⟨B, 0, none⟩)) (.pointer (some ⟨B, 0, none⟩)) Try.entersC1 Try.entersC2
      ⟨hB, c2⟩
      (fun W A hJ => HV.out.kept hJ.2 (by simp))
      (fun W A n l hJ h1 h2 h3 hA => by
        obtain ⟨hb, hc⟩ := hJ
        refine (hdcost1_any B _ A.length n l W hb (by simp at hA; omega) h1 h2 h3).mono ?_
        rintro e W' ⟨rfl, hb', hc'⟩
        exact ⟨rfl, by rw [List.length_append, bitsOf_length]; exact hb', hc.trans hc' fun k hk (hh : k = B) => by have := HBW.out; omega⟩)
      (fun W A n hJ h1 hA => by
        obtain ⟨hb, hc⟩ := hJ
        refine (hdcost2_any B _ A.length n W hb (by simp at hA; omega) h1).mono ?_
        rintro e W' ⟨rfl, hb', hc'⟩
        exact ⟨rfl, by rw [List.length_append]; exact hb', hc.trans hc' fun k hk (hh : k = B) => by have := HBW.out; omega⟩))
    have HBE := Lib.hid hBe; have HW2 := Lib.hid hw2
    clear hc1 HLG WALK hB c2 hBw hb3840 hBe hw2
    go_wp2_with fail
    rw [HBE.out, HW2.out]
    with_reducible refine Calls.mono WK.out ?_
    rintro e w3 ⟨rfl, hb, hc⟩
    have a1 := hb.cell
    rw [List.nil_append] at a1
    have C := Lib.hid hc
    clear hb hc WK
    go_wp2
    go_ret
    exact ⟨rfl, C.out⟩

end Go.Proofs.Ytllkfmnofklpmaa

/- What puncheonlaw15.awake tells: the chapter's example holds. -/
namespace Go.Proofs.Ytllkfmnofklpmaa
open Go.RowKit

def exH : List Int := (List.replicate 256 0).set 2 32
theorem exH_len : exH.length = 256 := by decide +kernel
theorem exH_bnd : ∀ z ∈ exH, -9223372036854775808 ≤ z ∧ z ≤ 9223372036854775807 := by decide +kernel
theorem exH_log : logI (totalI exH) ≠ 0 := by decide +kernel
theorem exH_bits : (hdBits exH).length = 14 := by decide +kernel
theorem exH_res : (hdRes (pack (hdBits exH)) 0 5).1 = exH ∧ (hdRes (pack (hdBits exH)) 0 5).2.1 = 0 := by decide +kernel
theorem exH_pack : (pack (hdBits exH)).length = 2 ∧ ∀ y ∈ pack (hdBits exH), y < 256 := by decide +kernel

set_option maxHeartbeats 2000000 in
set_option maxRecDepth 100000 in
theorem awake15_any (w : World) : Calls Try.prog 8 #[] w fun e w' => e = .returned (.bool true) ∧ Chg (fun _ => False) w w' := by
  obtain ⟨Z, hZ⟩ : ∃ Z : List Int, Z = List.replicate 256 0 := ⟨_, rfl⟩
  have hZl : Z.length = 256 := by rw [hZ]; exact List.length_replicate
  have hE : Z.set 2 32 = exH := by rw [hZ]; rfl
  have HZL := Lib.hid hZl; have HE := Lib.hid hE; have HZ := Lib.hid hZ
  have HEL := Lib.hid exH_len; have HEB := Lib.hid exH_bnd
  have HLG := Lib.hid (decide_eq_true exH_log); have HBI := Lib.hid exH_bits; have HRS := Lib.hid exH_res; have HPK := Lib.hid exH_pack
  obtain ⟨E, hEE⟩ : ∃ E, exH = E := ⟨_, rfl⟩
  rw [hEE] at HE HEL HEB HLG HBI HRS HPK
  clear hZl hE hZ hEE
  go_enter Try.func8, Try.ntmps8
  go_wp2_with (at_make; refine wpList_make_ints rfl _ _ rfl 256 256 256 rfl rfl rfl rfl (by omega) Z HZ.out ?_)
  intro w1 r1 c1
  obtain ⟨g, hg⟩ : ∃ g, g = w.heap.size := ⟨_, rfl⟩
  rw [← hg] at r1 ⊢
  have s0 := Chg.setCell w1 ⟨g, 2, none⟩ (.int .i64 32)
  have r2 := r1.set 2 32
  have a0 := r1.cell 2 (by rw [HZL.out]; omega)
  have f0 := r1.free 2
  rw [HE.out] at r2
  have HW := Lib.hid fun W (hW : w1.setCell ⟨g, 2, none⟩ (.int .i64 32) = W) => (show RowI W g 3 E ∧ Chg (fun _ => False) w W from ⟨hW ▸ r2, hW ▸ c1.trans s0 (fun k hk (hh : k = g) => by omega)⟩)
  have HG := Lib.hid hg
  clear s0 r2 c1 r1 hg
  go_wp2_with fail
  obtain ⟨W, hW⟩ : ∃ W, w1.setCell ⟨g, 2, none⟩ (.int .i64 32) = W := ⟨_, rfl⟩
  rw [hW]
  obtain ⟨r2, c2⟩ := HW.out W hW
  clear HW hW a0 f0
  have V := Lib.hid fun W' (h : RowI W' g 3 E) => (show RdI W' (.slice (some ⟨g, 0, none⟩) 256 256) E by have := h.rd 256; rwa [HEL.out] at this)
  have hgl := r2.lt
  refine (new_wr W).mono ?_
  rintro e w3 ⟨rfl, hw3, hc3⟩
  obtain ⟨b, hb⟩ : ∃ b, W.heap.size = b := ⟨_, rfl⟩
  rw [hb] at hw3 ⊢
  have r3 := r2.kept hc3 (by simp)
  have HP := Lib.hid (hdput_any b none [] _ E w3 hw3 (by simp) (V.out w3 r3) (.of (Nat.le_refl _)) (fun _ k hk => by
    have : g = k := by simpa [Value.ownBlock] using hk
    simp; omega) HEB.out (by rw [HEL.out]; omega))
  rw [HLG.out, List.nil_append] at HP
  have HGB := Lib.hid (show g < b ∧ w.heap.size ≤ g from ⟨by omega, by have := HG.out; omega⟩)
  have hab : Above w.heap.size b none := ⟨by have := HGB.out; omega, by simp⟩
  have HAB := Lib.hid hab; have HC := Lib.hid (c2.trans hc3 fun _ _ h => h); have R3 := Lib.hid r3
  clear hw3 hc3 hab hb r2 c2 r3 hgl
  go_wp2_with fail
  refine (HP.out).mono ?_
  rintro e w4 ⟨rfl, o2, hw4, hc4, ho4⟩
  have HC4 := Lib.hid (HC.out.up hc4 HAB.out)
  have R4 := Lib.hid (R3.out.kept hc4 (by simp; have := HGB.out; omega))
  have HBL := Lib.hid hw4.lt
  have HW4 := Lib.hid hw4
  obtain ⟨A, hA⟩ : ∃ A, hdBits E = A := ⟨_, rfl⟩
  have HEA := Lib.hid hA
  rw [hA] at HW4 HBI HRS HPK
  obtain ⟨xs, hxs⟩ : ∃ xs, pack A = xs := ⟨_, rfl⟩
  rw [hxs] at HRS HPK
  have HXS := Lib.hid hxs
  clear hw4 hc4 ho4 hA hxs HP HAB HC R3
  go_wp2_with fail
  refine (bytes_any b o2 A w4 HW4.out (by rw [HBI.out]; omega)).mono ?_
  rintro e w5 ⟨g5, cap5, rfl, r5, hc5⟩
  rw [HXS.out] at r5 ⊢
  have NW := Lib.hid (fnew_any _ xs w5 (RdB.of_own r5) (by rw [HPK.out.1]; omega) HPK.out.2)
  have HC5 := Lib.hid (HC4.out.trans hc5 fun _ _ h => h)
  have HW5 := Lib.hid (HW4.out.kept hc5 (by simp) (by simp))
  have R5 := Lib.hid (R4.out.kept hc5 (by simp))
  have HS5 := Lib.hid hc5.size
  clear r5 hc5 HC4 HW4 R4
  go_wp2_with fail
  refine (NW.out).mono ?_
  rintro e w6 ⟨br, orr, rfl, r6, ab6, hc6⟩
  have HC6 := Lib.hid (HC5.out.trans hc6 fun _ _ h => h)
  have HW6 := Lib.hid (HW5.out.kept hc6 (by simp) (by simp))
  have R6 := Lib.hid (R5.out.kept hc6 (by simp))
  have HBR := Lib.hid (show b < br ∧ (∀ k, o2 = some k → k < br) from ⟨by have := ab6.1; have := HS5.out; have := HBL.out.1; omega, fun k hk => by have := ab6.1; have := HS5.out; have := (HBL.out.2 k hk).2; omega⟩)
  have T := Lib.hid (hdtake_any br orr xs 0 5 w6 r6 (by decide))
  rw [HRS.out.1, HRS.out.2] at T
  clear r6 ab6 hc6 NW HC5 HW5 R5
  go_wp2_with fail
  refine (T.out).mono ?_
  rintro e w7 ⟨v7, rfl, q7, -, -, -, hc7⟩
  have HC7 := Lib.hid (HC6.out.trans hc7 (S := fun _ => False) (fun k hk (hh : k = br) => by have := HBR.out.1; have := HGB.out; omega))
  have HW7 := Lib.hid (HW6.out.kept hc7 (fun (hh : b = br) => by have := HBR.out.1; omega) (fun k hk (hh : k = br) => by have := HBR.out.2 k hk; omega))
  have R7 := Lib.hid (R6.out.kept hc7 (fun (hh : g = br) => by have := HBR.out.1; have := HGB.out; omega))
  have Q7 := Lib.hid q7
  clear q7 hc7 T HC6 HW6 R6
  have hbits := bits_any b o2 A w7 HW7.out
  rw [HBI.out] at hbits
  have HBT := Lib.hid hbits
  clear hbits
  go_wp2_with fail
  refine (HBT.out).mono ?_
  rintro e w8 ⟨rfl, rfl⟩
  have CO := Lib.hid (hdcost_any _ E w7 (V.out w7 R7.out) (.of (Nat.le_refl _)) HEB.out (by rw [HEL.out]; omega))
  rw [HEA.out, HBI.out] at CO
  go_wp2_with fail
  refine (CO.out).mono ?_
  rintro e w9 ⟨rfl, hc9⟩
  have IN := Lib.hid (ints_any v7 _ E E w9 (Q7.out.kept hc9 (by simp)) (V.out w9 (R7.out.kept hc9 (by simp))) (by rw [HEL.out]; omega) (by rw [HEL.out]; omega))
  rw [decide_eq_true (rfl : E = E)] at IN
  have HC9 := Lib.hid (HC7.out.trans hc9 fun _ _ h => h)
  clear hc9 CO HBT
  go_wp2_with fail
  refine (IN.out).mono ?_
  rintro e w10 ⟨rfl, m, rfl⟩
  go_wp2
  go_ret
  exact ⟨rfl, HC9.out.drewN m⟩

end Go.Proofs.Ytllkfmnofklpmaa

/- Counts that are told by few numbers: what puncheonref05.Some tells. -/
namespace Go.Proofs.Ytllkfmnofklpmaa
open Go.RowKit

/-- The value v is a slice of the uint16s xs. -/
def RdH (w : World) (v : Value) (xs : List Nat) : Prop :=
  (xs = [] ∧ ∃ ao c, v = .slice ao 0 c) ∨ ∃ g off cap, v = .slice (some ⟨g, off, none⟩) xs.length cap ∧ ∀ j, j < xs.length → w.cell? ⟨g, off + j, none⟩ = some (.int .u16 ((xs.getD j 0 : Nat) : Int))
theorem RdH.form {w : World} {v : Value} {xs : List Nat} (h : RdH w v xs) : ∃ ao cap, v = .slice ao xs.length cap := by
  rcases h with ⟨rfl, ao, c, rfl⟩ | ⟨g, off, cap, rfl, _⟩
  · exact ⟨ao, c, rfl⟩
  · exact ⟨_, cap, rfl⟩
theorem RdH.at {w : World} {ao : Option Addr} {n cap : Nat} {xs : List Nat} (h : RdH w (.slice ao n cap) xs) (k : Nat) (hk : k < xs.length) : ∃ g off, ao = some ⟨g, off, none⟩ ∧ w.cell? ⟨g, off + k, none⟩ = some (.int .u16 ((xs.getD k 0 : Nat) : Int)) := by
  rcases h with ⟨h0, _⟩ | ⟨g, off, cap', he, hc⟩
  · rw [h0] at hk; simp at hk
  · simp only [Value.slice.injEq] at he
    exact ⟨g, off, he.1, hc _ hk⟩
theorem RdH.kept {S : Nat → Prop} {w w' : World} {v : Value} {xs : List Nat} (h : RdH w v xs) (hc : Chg S w w') (hS : ∀ k, v.ownBlock = some k → ¬ S k) : RdH w' v xs := by
  rcases h with h | ⟨g, off, cap, rfl, hcell⟩
  · exact .inl h
  · refine .inr ⟨g, off, cap, rfl, fun j hj => ?_⟩
    have := hcell j hj
    have hlt : g < w.heap.size := block_lt_of_cell this
    rw [World.cell?_of_block (w := w) (hc.block g hlt (hS g rfl))]; exact this

/-- the counts that the first k pairs tell -/
def someTo (l : List Nat) : Nat → List Int
  | 0 => List.replicate 256 0
  | k + 1 => (someTo l k).set (l.getD (2 * k) 0 % 256) ((l.getD (2 * k + 1) 0 : Nat) : Int)
theorem someTo_succ (l : List Nat) (k : Nat) : someTo l (k + 1) = (someTo l k).set (l.getD (2 * k) 0 % 256) ((l.getD (2 * k + 1) 0 : Nat) : Int) := rfl
def pairsN (l : List Nat) : Nat := min (l.length / 2) 40
def someC (l : List Nat) : List Int := someTo l (pairsN l)

theorem someTo_facts (l : List Nat) (hx : ∀ x ∈ l, x < 65536) (k : Nat) (hk : 2 * k ≤ l.length) : (someTo l k).length = 256 ∧ (∀ s, s < 256 → 0 ≤ (someTo l k).getD s 0) ∧ tot (someTo l k) ≤ 65535 * (k : Int) := by
  induction k with
  | zero =>
    refine ⟨List.length_replicate, fun s hs => ?_, ?_⟩
    · show 0 ≤ (List.replicate 256 (0 : Int)).getD s 0
      rw [List.getD_eq_getElem?_getD, List.getElem?_replicate, if_pos hs]; exact Int.le_refl _
    · show tot (List.replicate 256 0) ≤ _
      rw [tot_zeros]; simp
  | succ k ih =>
    obtain ⟨i1, i2, i3⟩ := ih (by omega)
    rw [someTo_succ]
    have hv : l.getD (2 * k + 1) 0 < 65536 := by
      rw [List.getD_eq_getElem?_getD, List.getElem?_eq_getElem (by omega)]
      exact hx _ (List.getElem_mem _)
    have hm : l.getD (2 * k) 0 % 256 < 256 := Nat.mod_lt _ (by omega)
    generalize l.getD (2 * k) 0 % 256 = u at *
    generalize l.getD (2 * k + 1) 0 = y at *
    refine ⟨by rw [List.length_set]; exact i1, fun s hs => ?_, ?_⟩
    · rw [iset_getD _ _ _ _ (by omega)]
      split
      · omega
      · exact i2 s hs
    · have := tot_set (someTo l k) u (y : Int) (by omega)
      have := i2 u hm
      omega

theorem someC_len (l : List Nat) (hx : ∀ x ∈ l, x < 65536) : (someC l).length = 256 := (someTo_facts l hx (pairsN l) (by unfold pairsN; omega)).1
theorem someC_right (l : List Nat) (hx : ∀ x ∈ l, x < 65536) : isRight (someC l) ∧ tot (someC l) ≤ 2621400 := by
  obtain ⟨h1, h2, h3⟩ := someTo_facts l hx (pairsN l) (by unfold pairsN; omega)
  have hp : (pairsN l : Int) ≤ 40 := by unfold pairsN; omega
  have ht : tot (someC l) ≤ 2621400 := by unfold someC; omega
  refine ⟨⟨h1, fun c hc => ?_, by omega⟩, ht⟩
  obtain ⟨i, hi, rfl⟩ := List.mem_iff_getElem.1 hc
  have hl' : (someC l).length = 256 := h1
  have : 0 ≤ (someC l).getD i 0 := h2 i (by omega)
  rw [List.getD_eq_getElem?_getD, List.getElem?_eq_getElem hi] at this
  exact this

set_option maxHeartbeats 2000000 in
set_option maxRecDepth 100000 in
theorem r5some_any (v : Value) (xs : List Nat) (w : World) (h : RdH w v xs) (hx : ∀ x ∈ xs, x < 65536) (hl : xs.length < 10000000000) :
    Calls Try.prog 46 #[v] w fun e w' => ∃ v', e = .returned v' ∧ OwnI w' w.heap.size v' (someC xs) ∧ Chg (fun _ => False) w w' := by
  obtain ⟨ao, cap, rfl⟩ := h.form
  have H := Lib.hid h; have HX := Lib.hid hx
  have hpn : pairsN xs = min (xs.length / 2) 40 := rfl
  have hsc : someC xs = someTo xs (pairsN xs) := rfl
  obtain ⟨N, hN⟩ : ∃ N, pairsN xs = N := ⟨_, rfl⟩
  rw [hN] at hpn hsc
  have HPN := Lib.hid hpn; have HSC := Lib.hid hsc
  clear h hx hpn hsc hN
  go_enter Try.func46, Try.ntmps46
  go_wp2_with (at_make; refine wpList_make_ints rfl _ _ rfl 256 256 256 rfl rfl rfl rfl (by omega) (someTo xs 0) rfl ?_)
  intro w1 h1 hc1
  have H1 := Lib.hid h1; have HC1 := Lib.hid hc1
  clear h1 hc1
  go_wp2
  go_loopw [4] (fun o4 wr => ∃ k : Nat, k ≤ N ∧ o4 = .int .i64 ((2 * k : Nat) : Int) ∧ RowI wr w.heap.size 3 (someTo xs k) ∧ Chg (fun _ => False) w wr) (fun o4 _ => 2 * N - (intOf o4).toNat)
  case atStart => exact ⟨0, Nat.zero_le _, rfl, H1.out, HC1.out⟩
  case round =>
    obtain ⟨k, hk, rfl, hrow, hc⟩ := hrel
    clear H1 HC1
    have hpn := HPN.out
    obtain ⟨i, hi⟩ : ∃ i, 2 * k = i := ⟨_, rfl⟩
    have hlen := (someTo_facts xs HX.out k (by omega)).1
    rw [hi]
    by_cases hlt : k < N
    · have hi1 : i + 1 < xs.length := by omega
      have hi80 : i < 80 := by omega
      have hi1I : (i : Int) + 1 < (xs.length : Int) := by omega
      have hi80I : (i : Int) < 80 := by omega
      have hiI : (i : Int) < (xs.length : Int) := by omega
      obtain ⟨g, off, rfl, c1⟩ := (H.out.kept hc (by simp)).at i (by omega)
      obtain ⟨g', off', he, c2⟩ := (H.out.kept hc (by simp)).at (i + 1) hi1
      simp only [Option.some.injEq, Addr.mk.injEq] at he
      obtain ⟨rfl, rfl, -⟩ := he
      have hst := someTo_succ xs k
      rw [hi] at hst
      have hy : xs.getD (i + 1) 0 < 65536 := by
        rw [List.getD_eq_getElem?_getD, List.getElem?_eq_getElem hi1]; exact HX.out _ (List.getElem_mem _)
      have hx : xs.getD i 0 < 65536 := by
        rw [List.getD_eq_getElem?_getD, List.getElem?_eq_getElem (by omega)]; exact HX.out _ (List.getElem_mem _)
      obtain ⟨x, hxe⟩ : ∃ x, xs.getD i 0 = x := ⟨_, rfl⟩
      obtain ⟨y, hye⟩ : ∃ y, xs.getD (i + 1) 0 = y := ⟨_, rfl⟩
      rw [hxe] at c1 hst hx
      rw [hye] at c2 hst hy
      obtain ⟨u, hu⟩ : ∃ u, x % 256 = u := ⟨_, rfl⟩
      have hu' : (x : Int) % 256 = (u : Int) := by omega
      have hut : (x : Int).tmod 256 = (u : Int) := by rw [Int.tmod_eq_emod_of_nonneg (by omega)]; exact hu'
      have hu256 : u < 256 := by omega
      have huI : (u : Int) < 256 := by omega
      rw [hu] at hst
      have a0 := hrow.cell u (by rw [hlen]; exact hu256)
      have f0 := hrow.free u
      have r2 := hrow.set u (y : Int)
      rw [← hst] at r2
      have hc2 : Chg (fun _ => False) w (wr.setCell ⟨w.heap.size, u, none⟩ (.int .i64 (y : Int))) := hc.trans (Chg.setCell wr ⟨w.heap.size, u, none⟩ _) (fun q hq h => by simp at h; omega)
      obtain ⟨i1, hi1e⟩ : ∃ i1, i + 1 = i1 := ⟨_, rfl⟩
      rw [hi1e] at c2 hi1
      have he1 : (i : Int) + 1 = (i1 : Int) := by omega
      have hw1 : IntKind.i64.wrap (i1 : Int) = (i1 : Int) := by rw [IntKind.wrap_i64]; omega
      have hi1J : (i1 : Int) < (xs.length : Int) := by omega
      have hi1K : (0 : Int) ≤ (i1 : Int) := by omega
      have hw2 : IntKind.u16.wrap (u : Int) = (u : Int) := by rw [IntKind.wrap_u16]; omega
      have hw3 : IntKind.i64.wrap (y : Int) = (y : Int) := by rw [IntKind.wrap_i64]; omega
      generalize (someTo xs k).getD u 0 = old at a0
      have R2 := Lib.hid r2; have C2 := Lib.hid hc2; have HI := Lib.hid hi; have HPN2 := Lib.hid hpn
      clear r2 hc2 hrow hc hst hxe hye hu hi hpn hlen hi1I hi1e
      go_wp2
      go_still_tail 13, (by kernel_rfl)
      change wpList _ _ _ _ _ wr.drew
      go_wp2
      go_roundw
      case rel => exact ⟨k + 1, by omega, by have := HI.out; simp; omega, R2.out, C2.out.drew⟩
      case measure => simp [intOf]; have := HI.out; have := HPN2.out; omega
    · obtain rfl : k = N := by omega
      rw [← HSC.out] at hrow hlen
      have own := hrow.own 256 w.heap.size (Nat.le_refl _)
      rw [hlen] at own
      have OWN := Lib.hid own; have CC := Lib.hid hc
      clear hrow own hc hlen
      have hiB : (i : Int) ≤ 80 := by omega
      by_cases hi1 : (i : Int) + 1 < (xs.length : Int)
      · have hi80 : ¬ (i : Int) < 80 := by omega
        clear hpn hi
        go_wp2
        go_ret
        exact ⟨_, rfl, OWN.out, CC.out⟩
      · have hi1N : ¬ i + 1 < xs.length := by omega
        have d1 : decide ((i : Int) + 1 < (xs.length : Int)) = false := decide_eq_false hi1
        clear hpn hi
        go_wp2
        go_ret
        exact ⟨_, rfl, OWN.out, CC.out⟩

end Go.Proofs.Ytllkfmnofklpmaa

/- An argument of type []uint16, opened. -/
namespace Go.Proofs.Ytllkfmnofklpmaa
open Go.ChangeShapes Go.WideShapes Go.ChangeAt Go.RowKit Go.Deep

theorem cellsU16 : Try.prog.cellsOf 53 = 1 := by kernel_rfl

theorem open_u16s {H : Type} {enc : TypeId × Value → H} {W : World} {base : Nat} {spare : Nat → Bool} {held : Bool} {a : Option Addr} {len cap : Nat} {d : DataW H} {p : List MemPlace}
    (h : DataW.Trod enc Try.prog W base spare held 46 (.slice a len cap) d p) : ∃ xs, RdH W (.slice a len cap) xs ∧ ∀ x ∈ xs, x < 65536 := by
  obtain ⟨fuel, hf⟩ := h
  rcases open_ints Try.underlying46 Try.underlying53 cellsU16 hf with ⟨hcs, _⟩ | ⟨x, l, c, zs, hcs, _, hl, _, hz, _, hcell, hwz⟩
  · simp [Value.cells] at hcs
    obtain ⟨rfl, rfl, rfl⟩ := hcs
    exact ⟨[], .inl ⟨rfl, none, 0, rfl⟩, by simp⟩
  · simp [Value.cells] at hcs
    obtain ⟨rfl, rfl, rfl⟩ := hcs
    have hlen : len ≤ zs.length := by rw [hz]; split <;> omega
    have hb : ∀ j, j < zs.length → 0 ≤ zs.getD j 0 ∧ zs.getD j 0 < 65536 := by
      intro j hj
      have hmem : zs.getD j 0 ∈ zs := by
        rw [List.getD_eq_getElem?_getD, List.getElem?_eq_getElem hj]; exact List.getElem_mem hj
      have := bounds_u16 (hwz _ hmem)
      omega
    refine ⟨(List.range len).map fun j => (zs.getD j 0).toNat, ?_, ?_⟩
    · by_cases h0 : len = 0
      · subst h0
        exact .inl ⟨rfl, some x, cap, rfl⟩
      · obtain ⟨g, off, rfl⟩ := spot_none (hcell 0 (by omega))
        refine .inr ⟨g, off, cap, by simp, fun j hj => ?_⟩
        have hj' : j < len := by simpa using hj
        have hc := hcell j (by omega)
        rw [add_lit] at hc
        rw [hc]
        have := (hb j (by omega)).1
        simp only [List.getD_eq_getElem?_getD, List.getElem?_map, List.getElem?_range hj', Option.map_some, Option.getD_some] at this ⊢
        rw [Int.toNat_of_nonneg this]
    · intro y hy
      simp only [List.mem_map, List.mem_range] at hy
      obtain ⟨j, hj, rfl⟩ := hy
      have := hb j (by omega)
      omega

end Go.Proofs.Ytllkfmnofklpmaa

/- What the document's own Counts (puncheonref08) tells: the walk. -/
namespace Go.Proofs.Ytllkfmnofklpmaa
open Go.RowKit

/-- the sum of a row of numbers in memory -/
def sumAt (w : World) (g : Nat) : Int := match w.heap[g]? with
  | some (.cells a _ _) => tot (a.toList.map intOf)
  | _ => 0
theorem RowI.sumAt {w : World} {g : Nat} {t : TypeId} {zs : List Int} (h : RowI w g t zs) : sumAt w g = tot zs := by
  unfold Go.Proofs.Ytllkfmnofklpmaa.sumAt
  rw [show w.heap[g]? = _ from h]
  simp only [iw, List.map_map]
  congr 1
  rw [show (intOf ∘ fun z => Value.int IntKind.i64 z) = id from rfl, List.map_id]

def fQ (c : List Int) (S n : Int) (i : Nat) : Int := if c.getD i 0 * S / n = 0 then min (c.getD i 0) 1 else c.getD i 0 * S / n
def fR (c : List Int) (S n : Int) (i : Nat) : Int := c.getD i 0 * S % n
def fH (c : List Int) (S n : Int) (i : Nat) : Bool := decide (c.getD i 0 * S / n = 0)

theorem base_bound {c : List Int} {S : Int} (h : Fit c S) (hS : S ≤ 4096) (s : Nat) (hs : s < 256) : 0 ≤ (qBase c S (tot c)).getD s 0 ∧ (qBase c S (tot c)).getD s 0 ≤ 4096 := by
  have hl : s < c.length := by rw [h.len]; exact hs
  rw [base_at s hl]
  have hx := h.at s hs
  have hn := h.some
  have hle : c.getD s 0 ≤ tot c := by
    have h1 := tot_take_le c (s + 1) h.low
    rw [tot_take_succ c s hl] at h1
    have := tot_nonneg (c.take s) (fun y hy => h.low y (List.mem_of_mem_take hy))
    omega
  have d := div_parts (c.getD s 0) S (tot c) hn hx h.sz
  have h2 : c.getD s 0 * S / tot c ≤ S := by
    refine Int.ediv_le_of_le_mul hn ?_
    have := Int.mul_le_mul_of_nonneg_right hle (show 0 ≤ S by have := h.sz; omega)
    rw [Int.mul_comm S]; exact this
  split <;> omega

theorem mem_bound {l : List Int} {lo hi : Int} (hl : l.length = 256) (h : ∀ s, s < 256 → lo ≤ l.getD s 0 ∧ l.getD s 0 ≤ hi) : ∀ z ∈ l, lo ≤ z ∧ z ≤ hi := by
  intro z hz
  obtain ⟨i, hi', rfl⟩ := List.mem_iff_getElem.1 hz
  have := h i (by omega)
  rwa [List.getD_eq_getElem?_getD, List.getElem?_eq_getElem hi'] at this

theorem give_bound {c : List Int} {S : Int} (h : Fit c S) (hS : S ≤ 4096) {k : Nat} {p : List Int × List Bool} (g : Gave (rest0 c S (tot c)) (qBase c S (tot c)) (had0 c S (tot c)) k p) : ∀ z ∈ p.1, 0 ≤ z ∧ z ≤ 4294967296 := by
  refine mem_bound g.len1 fun s hs => ?_
  have h1 := g.val s hs
  have h2 := base_bound h hS s hs
  rw [h1]
  split <;> omega

theorem r8richest_l (g h o cap : Nat) (t : TypeId) (q c : List Int) (w : World) (hr : RowI w g t q) (hh : RdI w (.slice (some ⟨h, o, none⟩) c.length cap) c) (hl : q.length = 256) (hl2 : c.length = 256) :
    Calls Try.prog 70 #[.slice (some ⟨g, 0, none⟩) 256 256, .slice (some ⟨h, o, none⟩) c.length cap] w fun e w' => e = .returned (.int .i64 ((richTo q c 255 : Nat) : Int)) ∧ ∃ m, w' = w.drewN m := by
  rw [hl2] at hh ⊢
  exact r8richest_any g h o cap t q c w hr hh hl hl2

/-- the first of two results has room for what it holds -/
def RoomE (e : Ending) : Prop := ∀ v x, e = .returned (.tuple #[v, x]) → RoomOk v
theorem RoomE.of {ao : Option Addr} {len cap : Nat} {x : Value} (h : len ≤ cap) : RoomE (.returned (.tuple #[.slice ao len cap, x])) := fun v y he => by
  simp only [Ending.returned.injEq, Value.tuple.injEq] at he
  have := congrArg (fun a => a[0]?) he
  simp at this
  subst this
  exact .of h

set_option maxHeartbeats 8000000 in
set_option maxRecDepth 100000 in
theorem r8counts_room (v : Value) (c : List Int) (r : Int) (w : World) (h : RdI w v c) (hb : ∀ z ∈ c, -9223372036854775808 ≤ z ∧ z ≤ 9223372036854775807) (hl : c.length < 100000000000) (hr : -9223372036854775808 ≤ r ∧ r ≤ 9223372036854775807) :
    Calls Try.prog 50 #[v, .int .i64 r] w fun e w' => NormSays w c r e w' ∧ RoomE e := by
  have HT := Lib.hid (r5total_any v c w h hb hl); have HM := Lib.hid (r5many_any v c w h hb hl)
  obtain ⟨ao, cap, rfl⟩ := h.form
  have H := Lib.hid h; have HB := Lib.hid hb
  clear h hb
  by_cases h0 : totalI c = 0
  · have hno : ¬ normOk c r := fun hk => (total_pos.1 h0) ⟨hk.1, hk.2.1⟩
    have HNO := Lib.hid hno
    rw [h0] at HT
    clear hno h0
    go_enter Try.func50, Try.ntmps50
    go_wp2_with fail
    refine HT.out.mono ?_
    rintro e w' ⟨rfl, rfl⟩
    go_wp2
    go_ret2
    exact ⟨⟨_, by rw [if_neg HNO.out]; rfl, fun hk => absurd hk HNO.out, fun _ => .inl ⟨rfl, _, _, rfl⟩, Chg.refl _ _⟩, .of (Nat.le_refl _)⟩
  have hpos : isRight c ∧ 0 < tot c := by
    rcases Decidable.em (isRight c ∧ 0 < tot c) with hh | hh
    · exact hh
    · exact absurd (total_pos.2 hh) h0
  have htn : totalI c = tot c := by unfold totalI; rw [if_pos hpos.1]
  have hmn : manyI c = pos c := by unfold manyI; rw [if_pos hpos.1]
  rw [htn] at HT h0
  rw [hmn] at HM
  have hn1 : 0 < tot c := hpos.2
  have hn2 : tot c ≤ 1073741824 := hpos.1.2.2
  have hp256 : pos c ≤ 256 := by have := pos_le c; rw [hpos.1.1] at this; exact this
  obtain ⟨n, hn⟩ : ∃ n, tot c = n := ⟨_, rfl⟩
  rw [hn] at HT hn1 hn2 h0
  have hn0 : (n == 0) = false := by simp; omega
  by_cases hr1 : r < 1
  · have HNO := Lib.hid (show ¬ normOk c r from fun hk => by have := hk.2.2.1; omega)
    clear hpos htn hmn
    go_enter Try.func50, Try.ntmps50
    go_wp2_with fail
    refine HT.out.mono ?_
    rintro e w' ⟨rfl, rfl⟩
    go_wp2
    go_ret2
    exact ⟨⟨_, by rw [if_neg HNO.out]; rfl, fun hk => absurd hk HNO.out, fun _ => .inl ⟨rfl, _, _, rfl⟩, Chg.refl _ _⟩, .of (Nat.le_refl _)⟩
  by_cases hr2 : 12 < r
  · have HNO := Lib.hid (show ¬ normOk c r from fun hk => by have := hk.2.2.2.1; omega)
    clear hpos htn hmn
    go_enter Try.func50, Try.ntmps50
    go_wp2_with fail
    refine HT.out.mono ?_
    rintro e w' ⟨rfl, rfl⟩
    go_wp2
    go_ret2
    exact ⟨⟨_, by rw [if_neg HNO.out]; rfl, fun hk => absurd hk HNO.out, fun _ => .inl ⟨rfl, _, _, rfl⟩, Chg.refl _ _⟩, .of (Nat.le_refl _)⟩
  obtain ⟨k, rfl⟩ : ∃ k : Nat, r = (k : Int) := ⟨r.toNat, by omega⟩
  have hk12 : k ≤ 12 := by omega
  have HPW := Lib.hid (r8power_any k w (by omega))
  have hS := pow12 hk12
  have hS1 := Nat.two_pow_pos k
  obtain ⟨S, hSe⟩ : ∃ S, 2 ^ k = S := ⟨_, rfl⟩
  rw [hSe] at HPW hS hS1
  have hokI : normOk c (k : Int) ↔ (pos c : Int) ≤ (S : Int) := by
    unfold normOk
    rw [Int.toNat_natCast, hSe]
    exact ⟨fun hh => hh.2.2.2.2, fun hh => ⟨hpos.1, hpos.2, by omega, by omega, hh⟩⟩
  have hnr : normR c (k : Int) = normC c (S : Int) := by unfold normR; rw [Int.toNat_natCast, hSe]
  by_cases hmany : (S : Int) < (pos c : Int)
  · have HNO := Lib.hid (show ¬ normOk c (k : Int) from fun hk => by have := hokI.1 hk; omega)
    obtain ⟨p, hp⟩ : ∃ p, pos c = p := ⟨_, rfl⟩
    rw [hp] at hmany HM
    have hmany' : S < p := by omega
    clear hpos htn hmn hokI hnr hp hp256 hn hSe
    go_enter Try.func50, Try.ntmps50
    go_wp2_with fail
    refine HT.out.mono ?_
    rintro e w' ⟨rfl, rfl⟩
    go_wp2_with fail
    refine HPW.out.mono ?_
    rintro e w' ⟨rfl, rfl⟩
    go_wp2_with fail
    refine HM.out.mono ?_
    rintro e w' ⟨rfl, rfl⟩
    go_wp2
    go_ret2
    exact ⟨⟨_, by rw [if_neg HNO.out]; rfl, fun hk => absurd hk HNO.out, fun _ => .inl ⟨rfl, _, _, rfl⟩, Chg.refl _ _⟩, .of (Nat.le_refl _)⟩
  have HOK := Lib.hid (show normOk c (k : Int) from hokI.2 (by omega))
  have hfit : Fit c (S : Int) := by have := HOK.out.fit; rw [Int.toNat_natCast, hSe] at this; exact this
  have HFIT := Lib.hid hfit; have HNR := Lib.hid hnr; have HNN := Lib.hid hn
  obtain ⟨p, hp⟩ : ∃ p, pos c = p := ⟨_, rfl⟩
  rw [hp] at hmany HM
  have hmany' : ¬ S < p := by omega
  have HLEN := Lib.hid hpos.1.1
  have HRG := Lib.hid hpos.1
  have hSI : (S : Int) ≤ 4096 := by omega
  clear hpos htn hmn hokI hnr hp hp256 hn hSe hfit
  go_enter Try.func50, Try.ntmps50
  go_wp2_with fail
  refine HT.out.mono ?_
  rintro e w' ⟨rfl, rfl⟩
  go_wp2_with fail
  refine HPW.out.mono ?_
  rintro e w' ⟨rfl, rfl⟩
  go_wp2_with fail
  refine HM.out.mono ?_
  rintro e w' ⟨rfl, rfl⟩
  clear HT HPW HM
  obtain ⟨w2, hw2⟩ : ∃ w2, w2 = w' := ⟨_, rfl⟩
  subst hw2
  go_wp2_with (at_make; refine wpList_make_ints rfl _ _ rfl 256 256 256 rfl rfl rfl rfl (by omega) (fillI (fQ c S n) 0) (fillI_zero _) ?_)
  intro w3 q3 c3
  go_wp2_with (at_make; refine wpList_make_ints rfl _ _ rfl 256 256 256 rfl rfl rfl rfl (by omega) (fillI (fR c S n) 0) (fillI_zero _) ?_)
  intro w4 q4 c4
  go_wp2_with (at_make; refine wpList_make_bools rfl _ _ rfl 256 256 256 rfl rfl rfl rfl (by omega) (fillB (fH c S n) 0) (fillB_zero _) ?_)
  intro w5 q5 c5
  obtain ⟨gq, hgq⟩ : ∃ gq, gq = w2.heap.size := ⟨_, rfl⟩
  obtain ⟨gr, hgr⟩ : ∃ gr, gr = w3.heap.size := ⟨_, rfl⟩
  obtain ⟨gh, hgh⟩ : ∃ gh, gh = w4.heap.size := ⟨_, rfl⟩
  rw [← hgq] at q3 ⊢
  rw [← hgr] at q4 ⊢
  rw [← hgh] at q5 ⊢
  have l1 : gq < gr := by rw [hgr]; exact q3.lt
  have l2 : gr < gh := by rw [hgh]; exact q4.lt
  have Q5 := Lib.hid ((q3.kept c4 (by simp)).kept c5 (by simp)); have R5 := Lib.hid (q4.kept c5 (by simp)); have T5 := Lib.hid q5
  have C5 := Lib.hid ((c3.trans c4 (fun _ _ h => h)).trans c5 (fun _ _ h => h))
  have LQ := Lib.hid (show w2.heap.size ≤ gq by omega); have L1 := Lib.hid l1; have L2 := Lib.hid l2
  clear q3 q4 q5 c3 c4 c5 l1 l2 hgq hgr hgh
  go_wp2
  go_loopw [11] (fun o11 wr => ∃ s : Nat, s ≤ 256 ∧ o11 = .int .i64 (s : Int) ∧ RowI wr gq 3 (fillI (fQ c S n) s) ∧ RowI wr gr 3 (fillI (fR c S n) s) ∧ RowT wr gh 4 (fillB (fH c S n) s) ∧ Chg (fun _ => False) w2 wr) (fun o11 _ => 256 - (intOf o11).toNat)
  case atStart => exact ⟨0, Nat.zero_le _, rfl, Q5.out, R5.out, T5.out, C5.out⟩
  case round =>
    obtain ⟨s, hs, rfl, rq, rr, rt, hc⟩ := hrel
    clear Q5 R5 T5 C5
    by_cases hlt : s < 256
    · have hsl : s < c.length := by rw [HLEN.out]; exact hlt
      obtain ⟨g0, o0, rfl, hx0⟩ := H.out.at s hsl
      have hg0 : g0 < w2.heap.size := block_lt_of_cell hx0
      have hlq := LQ.out; have hl1 := L1.out; have hl2 := L2.out
      have hxw : wr.cell? ⟨g0, o0 + s, none⟩ = some (.int .i64 (c.getD s 0)) := by rw [World.cell?_of_block (w := w2) (hc.block g0 hg0 (by simp))]; exact hx0
      have hone := HRG.out.one s hsl
      have eQ : fQ c S n s = if c.getD s 0 * (S : Int) / n = 0 then min (c.getD s 0) 1 else c.getD s 0 * (S : Int) / n := rfl
      have eR : fR c S n s = c.getD s 0 * (S : Int) % n := rfl
      have eH : fH c S n s = decide (c.getD s 0 * (S : Int) / n = 0) := rfl
      have fsQ := fillI_set (fQ c S n) s hlt
      have fsR := fillI_set (fR c S n) s hlt
      have fsH := fillB_set (fH c S n) s hlt
      have fkH := fillB_skip (fH c S n) s hlt
      obtain ⟨x, hx⟩ : ∃ x, c.getD s 0 = x := ⟨_, rfl⟩
      rw [hx] at hxw hone eQ eR eH
      obtain ⟨hx1, hx2⟩ := hone
      have hP0 : 0 ≤ x * (S : Int) := Int.mul_nonneg hx1 (by omega)
      have hP1 : x * (S : Int) ≤ 1073741824 * 4096 := Int.mul_le_mul hx2 (by omega) (by omega) (by omega)
      obtain ⟨P, hP⟩ : ∃ P, x * (S : Int) = P := ⟨_, rfl⟩
      rw [hP] at hP0 hP1 eQ eR eH
      have hP2 : P ≤ 4398046511104 := by omega
      have dQ := Int.ediv_nonneg hP0 (show 0 ≤ n by omega)
      have dQ2 := Int.ediv_le_self n hP0
      have dR := Int.emod_nonneg P (show n ≠ 0 by omega)
      have dR2 := Int.emod_lt_of_pos P hn1
      have tq : P.tdiv n = P / n := Int.tdiv_eq_ediv_of_nonneg hP0
      have tr : P.tmod n = P % n := Int.tmod_eq_emod_of_nonneg hP0
      obtain ⟨Q, hQ⟩ : ∃ Q, P / n = Q := ⟨_, rfl⟩
      obtain ⟨R, hR⟩ : ∃ R, P % n = R := ⟨_, rfl⟩
      rw [hQ] at eQ eH dQ dQ2 tq
      rw [hR] at eR dR dR2 tr
      have hwP : IntKind.i64.wrap P = P := by rw [IntKind.wrap_i64]; omega
      have hwQ : IntKind.i64.wrap Q = Q := by rw [IntKind.wrap_i64]; omega
      have hwR : IntKind.i64.wrap R = R := by rw [IntKind.wrap_i64]; omega
      have s1 := Chg.setCell wr ⟨gq, s, none⟩ (.int .i64 Q)
      have rq1 := rq.set s Q
      have rr1 := rr.kept s1 (by simp; omega)
      have rt1 := rt.kept s1 (by simp; omega)
      obtain ⟨W1, hW1⟩ : ∃ W1, wr.setCell ⟨gq, s, none⟩ (.int .i64 Q) = W1 := ⟨_, rfl⟩
      rw [hW1] at s1 rq1 rr1 rt1
      have s2 := Chg.setCell W1 ⟨gr, s, none⟩ (.int .i64 R)
      have rr2 := rr1.set s R
      have rq2 := rq1.kept s2 (by simp; omega)
      have rt2 := rt1.kept s2 (by simp; omega)
      obtain ⟨W2, hW2⟩ : ∃ W2, W1.setCell ⟨gr, s, none⟩ (.int .i64 R) = W2 := ⟨_, rfl⟩
      rw [hW2] at s2 rr2 rq2 rt2
      have c2 : Chg (fun _ => False) w2 W2 := (hc.trans s1 (S := fun _ => False) (fun q hq hh => by simp at hh; omega)).trans s2 (fun q hq hh => by simp at hh; omega)
      have a0 := rq.cell s (by rw [fillI_length]; exact hlt)
      have f0 := rq.free s
      have a1 := rr1.cell s (by rw [fillI_length]; exact hlt)
      have f1 := rr1.free s
      have kx1 : W1.cell? ⟨g0, o0 + s, none⟩ = some (.int .i64 x) := by rw [World.cell?_of_block (w := wr) (s1.block g0 (by have := hc.size; omega) (by simp; omega))]; exact hxw
      have aq2 := rq2.cell s (by rw [List.length_set, fillI_length]; exact hlt)
      rw [iset_getD _ _ _ _ (by rw [fillI_length]; exact hlt), if_pos rfl] at aq2
      have hsI : (s : Int) < 256 := by omega
      have hslI : (s : Int) < (c.length : Int) := by omega
      have d8 : decide ((s : Int) < 256) = true := by simp; omega
      generalize (fillI (fQ c S n) s).getD s 0 = ov at a0
      generalize (fillI (fR c S n) s).getD s 0 = ov2 at a1
      rw [eR] at fsR
      have FSR := Lib.hid fsR
      rw [← eR] at fsR
      by_cases hQ0 : Q = 0
      · subst hQ0
        rw [if_pos rfl] at eQ
        rw [eH, decide_eq_true rfl] at fsH
        rw [eQ] at fsQ
        have s3 := Chg.setCell W2 ⟨gh, s, none⟩ (.bool true)
        have rt3 := rt2.set s true
        have rq3 := rq2.kept s3 (by simp; omega)
        have rr3 := rr2.kept s3 (by simp; omega)
        have at2 := rt2.cell s (by rw [fillB_length]; exact hlt)
        have ft2 := rt2.free s
        obtain ⟨W3, hW3⟩ : ∃ W3, W2.setCell ⟨gh, s, none⟩ (.bool true) = W3 := ⟨_, rfl⟩
        rw [hW3] at s3 rt3 rq3 rr3
        have c3 : Chg (fun _ => False) w2 W3 := c2.trans s3 (fun q hq hh => by simp at hh; omega)
        have kx3 : W3.cell? ⟨g0, o0 + s, none⟩ = some (.int .i64 x) := by rw [World.cell?_of_block (w := w2) (c3.block g0 hg0 (by simp))]; rw [hx0, hx]
        have aq3 := rq3.cell s (by rw [List.length_set, fillI_length]; exact hlt)
        have fq3 := rq3.free s
        have rq4 : ∀ M, RowI (W3.setCell ⟨gq, s, none⟩ (.int .i64 M)) gq 3 ((fillI (fQ c S n) s).set s M) := fun M => by have := rq3.set s M; rw [setset] at this; exact this
        have s4 : ∀ M, Chg (fun k => k = gq) W3 (W3.setCell ⟨gq, s, none⟩ (.int .i64 M)) := fun M => Chg.setCell W3 ⟨gq, s, none⟩ _
        rw [fsH] at rt3
        rw [FSR.out] at rr3
        generalize (fillB (fH c S n) s).getD s false = ob at at2
        generalize ((fillI (fQ c S n) s).set s 0).getD s 0 = ov3 at aq3
        have RQ4 := Lib.hid rq4; have S4 := Lib.hid s4; have RR3 := Lib.hid rr3; have RT3 := Lib.hid rt3; have C3 := Lib.hid c3; have FSQ := Lib.hid fsQ; have TQ := Lib.hid tq; have TR := Lib.hid tr
        clear rq4 s4 rr3 rt3 c3 fsQ fsR fsH fkH rq rr rt hc rq1 rr1 rt1 rr2 rq2 rt2 rq3 s1 s2 s3 c2 eQ eR eH hx hx0 hQ hR FSR
        rcases (show x = 0 ∨ x = 1 ∨ 2 ≤ x by omega) with hx' | hx' | hx'
        · subst hx'
          go_wp2
          all_goals first
            | (exfalso; omega)
            | (go_roundw
               case rel => exact ⟨s + 1, by omega, by go_num, by rw [← FSQ.out]; exact RQ4.out 0, RR3.out.kept (S4.out 0) (by have := L1.out; omega), RT3.out.kept (S4.out 0) (by have := L1.out; have := L2.out; omega), C3.out.trans (S4.out 0) (fun q hq hh => by have := LQ.out; omega)⟩
               case measure => simp [intOf]; omega)
        · subst hx'
          go_wp2
          all_goals first
            | (exfalso; omega)
            | (go_roundw
               case rel => exact ⟨s + 1, by omega, by go_num, by rw [← FSQ.out]; exact RQ4.out 1, RR3.out.kept (S4.out 1) (by have := L1.out; omega), RT3.out.kept (S4.out 1) (by have := L1.out; have := L2.out; omega), C3.out.trans (S4.out 1) (fun q hq hh => by have := LQ.out; omega)⟩
               case measure => simp [intOf]; omega)
        · have hmin : min x 1 = 1 := by omega
          rw [hmin] at FSQ
          go_wp2
          all_goals first
            | (exfalso; omega)
            | (go_roundw
               case rel => exact ⟨s + 1, by omega, by go_num, by rw [← FSQ.out]; exact RQ4.out 1, RR3.out.kept (S4.out 1) (by have := L1.out; omega), RT3.out.kept (S4.out 1) (by have := L1.out; have := L2.out; omega), C3.out.trans (S4.out 1) (fun q hq hh => by have := LQ.out; omega)⟩
               case measure => simp [intOf]; omega)
      · rw [if_neg hQ0] at eQ
        have fkH' := fkH (by rw [eH]; exact decide_eq_false hQ0)
        rw [eQ] at fsQ
        have hQb : (Q == 0) = false := by simp [hQ0]
        rw [fsQ] at rq2
        rw [FSR.out] at rr2
        rw [fkH'] at rt2
        have RQ2 := Lib.hid rq2; have RR2 := Lib.hid rr2; have RT2 := Lib.hid rt2; have C2 := Lib.hid c2
        clear rq2 rr2 rt2 c2 fsQ fsR fsH fkH fkH' rq rr rt hc rq1 rr1 rt1 s1 s2 eQ eR eH hx hx0 hQ hR FSR
        go_wp2
        go_roundw
        case rel => exact ⟨s + 1, by omega, by go_num, RQ2.out, RR2.out, RT2.out, C2.out⟩
        case measure => simp [intOf]; omega
    · have hse : s = 256 := by omega
      have hsI : (s : Int) = 256 := by omega
      rw [hse] at rq rr rt
      rw [hsI]
      clear hse hsI hs hlt
      have hlenc := HLEN.out
      rw [fillI_all (fQ c S n) (qBase c S n) (by simp [qBase, hlenc]) (fun u hu => base_at u (by omega))] at rq
      rw [fillI_all (fR c S n) (rest0 c S n) (by simp [rest0, hlenc]) (fun u hu => rest_at u (by omega))] at rr
      rw [fillB_all (fH c S n) (had0 c S n) (by simp [had0, hlenc]) (fun u hu => had_at u (by omega))] at rt
      have hfit := HFIT.out
      have hroom := give_room (size := (S : Int)) hfit.low rfl hfit.some
      have hgave : ∀ j, j ≤ cntN (rest0 c S (tot c)) (had0 c S (tot c)) → Gave (rest0 c S (tot c)) (qBase c S (tot c)) (had0 c S (tot c)) j (giveN (rest0 c S (tot c)) j (qBase c S (tot c)) (had0 c S (tot c))) := fun j hj =>
        Go.Proofs.Ytllkfmnofklpmaa.gave (by simp [rest0, hlenc]) (by simp [qBase, hlenc]) (by simp [had0, hlenc]) j hj
      have hgs := hfit.gaveSum
      have hgc : gaveC c S (tot c) = (giveN (rest0 c S (tot c)) ((S : Int) - tot (qBase c S (tot c))).toNat (qBase c S (tot c)) (had0 c S (tot c))).1 := rfl
      have hbnd : ∀ j, j ≤ cntN (rest0 c S (tot c)) (had0 c S (tot c)) → ∀ z ∈ (giveN (rest0 c S (tot c)) j (qBase c S (tot c)) (had0 c S (tot c))).1, 0 ≤ z ∧ z ≤ 4294967296 := fun j hj => give_bound hfit hSI (hgave j hj)
      rw [← HNN.out] at rq rr rt
      have hrl : (rest0 c S (tot c)).length = 256 := by simp [rest0, hlenc]
      obtain ⟨rs, hrs⟩ : ∃ rs, rest0 c S (tot c) = rs := ⟨_, rfl⟩
      obtain ⟨qb, hqb⟩ : ∃ qb, qBase c S (tot c) = qb := ⟨_, rfl⟩
      obtain ⟨hd, hhd⟩ : ∃ hd, had0 c S (tot c) = hd := ⟨_, rfl⟩
      rw [hrs] at rr hroom hgave hgc hbnd hrl
      rw [hqb] at rq hroom hgave hgc hbnd hgs
      rw [hhd] at rt hroom hgave hgc hbnd
      obtain ⟨D, hD⟩ : ∃ D, ((S : Int) - tot qb).toNat = D := ⟨_, rfl⟩
      rw [hD] at hroom hgc
      obtain ⟨tB, htB⟩ : ∃ tB, tot qb = tB := ⟨_, rfl⟩
      rw [htB] at hD hgs
      have HROOM := Lib.hid hroom; have HGAVE := Lib.hid hgave; have HGS := Lib.hid hgs; have HGC := Lib.hid hgc; have HBND := Lib.hid hbnd; have HRL := Lib.hid hrl; have HD := Lib.hid hD; have HTB := Lib.hid htB
      have RQ := Lib.hid rq; have RR := Lib.hid rr; have RT := Lib.hid rt; have CC := Lib.hid hc
      clear hroom hgave hgs hgc hbnd hrl hD htB rq rr rt hc hrs hqb hhd hlenc hfit
      go_wp2
      go_loopw [12] (fun _ wr => ∃ j : Nat, j ≤ D ∧ RowI wr gq 3 (giveN rs j qb hd).1 ∧ RowI wr gr 3 rs ∧ RowT wr gh 4 (giveN rs j qb hd).2 ∧ Chg (fun _ => False) w2 wr) (fun _ wr => ((S : Int) - sumAt wr gq).toNat)
      case atStart => exact ⟨0, Nat.zero_le _, RQ.out, RR.out, RT.out, CC.out⟩
      case round =>
        obtain ⟨j, hj, rq, rr, rt, hc⟩ := hrel
        clear RQ RR RT CC
        have g := HGAVE.out j (by have := HROOM.out; omega)
        have hsum := g.sum
        rw [HTB.out] at hsum
        have rd := rq.rd 256
        rw [g.len1] at rd
        have hs1 := rq.sumAt
        rw [hsum] at hs1
        have hDe := HD.out
        by_cases hjD : j < D
        · obtain ⟨s, hn, hs256, hps, g2⟩ := gave_step HRL.out g (by have := HROOM.out; omega)
          have hgn : giveN rs (j + 1) qb hd = ((giveN rs j qb hd).1.set s ((giveN rs j qb hd).1.getD s 0 + 1), (giveN rs j qb hd).2.set s true) := by rw [giveN_succ, giveStep_some hn]
          have hzb := HBND.out j (by have := HROOM.out; omega) _ (getD_mem (cs := (giveN rs j qb hd).1) (k := s) (by rw [g.len1]; exact hs256))
          have aq := rq.cell s (by rw [g.len1]; exact hs256)
          have fq := rq.free s
          have at1 := rt.cell s (by rw [g.len2]; exact hs256)
          have ft1 := rt.free s
          have BND := Lib.hid (HBND.out j (by have := HROOM.out; omega))
          have HNE := Lib.hid (r8neediest_any gr gh _ _ rs (giveN rs j qb hd).2 wr rr rt HRL.out g.len2)
          have l1 := g.len1
          have hl1 := L1.out; have hl2 := L2.out; have hlq := LQ.out
          obtain ⟨z, hz⟩ : ∃ z, (giveN rs j qb hd).1.getD s 0 = z := ⟨_, rfl⟩
          rw [hz] at hgn hzb aq
          have st1 := Chg.setCell wr ⟨gh, s, none⟩ (.bool true)
          have rt1 := rt.set s true
          have rq1 := rq.kept st1 (by simp; omega)
          have rr1 := rr.kept st1 (by simp; omega)
          have c1 : Chg (fun _ => False) w2 _ := hc.trans st1 (S := fun _ => False) (fun q hq hh => by simp at hh; omega)
          have st2 := Chg.setCell (wr.setCell ⟨gh, s, none⟩ (.bool true)) ⟨gq, s, none⟩ (.int .i64 (z + 1))
          have rq2 := rq1.set s (z + 1)
          have rr2 := rr1.kept st2 (by simp; omega)
          have rt2 := rt1.kept st2 (by simp; omega)
          have c2 : Chg (fun _ => False) w2 _ := c1.trans st2 (S := fun _ => False) (fun q hq hh => by simp at hh; omega)
          have aq1 := rq1.cell s (by rw [l1]; exact hs256)
          have fq1 := rq1.free s
          rw [hz] at aq1
          have eq1 : (giveN rs (j + 1) qb hd).1 = (giveN rs j qb hd).1.set s (z + 1) := by rw [hgn]
          have eq2 : (giveN rs (j + 1) qb hd).2 = (giveN rs j qb hd).2.set s true := by rw [hgn]
          rw [← eq1] at rq2
          rw [← eq2] at rt2
          have g3 := HGAVE.out (j + 1) (by have := HROOM.out; omega)
          have hsum3 := g3.sum
          rw [HTB.out] at hsum3
          have hs3 := rq2.sumAt
          rw [hsum3] at hs3
          rw [hn] at HNE
          have hlt : tB + (j : Int) < (S : Int) := by omega
          have RD := Lib.hid rd; have HS := Lib.hid hsum; have RQ2 := Lib.hid rq2; have RR2 := Lib.hid rr2; have RT2 := Lib.hid rt2; have C2 := Lib.hid c2; have HS1 := Lib.hid hs1; have HS3 := Lib.hid hs3
          have hsI : (s : Int) < 256 := by omega
          obtain ⟨hz0, hz1⟩ := hzb
          generalize (giveN rs j qb hd).2.getD s false = ob at at1
          have L1000 := Lib.hid (show (giveN rs j qb hd).1.length ≤ 1000 by rw [l1]; omega)
          clear rd hsum rq2 rr2 rt2 c2 hs1 hs3 rq rr rt hc g g2 g3 hgn eq1 eq2 rq1 rr1 rt1 st1 st2 c1 hsum3 hn hz l1 hps
          go_wp2_with fail
          refine (r8sum_any _ _ wr RD.out BND.out L1000.out).mono ?_
          rintro e w6 ⟨rfl, rfl⟩
          rw [HS.out]
          go_wp2_with fail
          refine HNE.out.mono ?_
          rintro e w7 ⟨rfl, m, rfl⟩
          simp only [idx]
          clear HNE
          go_wp2
          go_roundw
          case rel => exact ⟨j + 1, by omega, RowI.kept (w := (w6.setCell ⟨gh, s, none⟩ (.bool true)).setCell ⟨gq, s, none⟩ (.int .i64 (z + 1))) RQ2.out ((Chg.refl (fun _ => False) _).drewN m) (by simp), RowI.kept (w := (w6.setCell ⟨gh, s, none⟩ (.bool true)).setCell ⟨gq, s, none⟩ (.int .i64 (z + 1))) RR2.out ((Chg.refl (fun _ => False) _).drewN m) (by simp), RowT.kept (w := (w6.setCell ⟨gh, s, none⟩ (.bool true)).setCell ⟨gq, s, none⟩ (.int .i64 (z + 1))) RT2.out ((Chg.refl (fun _ => False) _).drewN m) (by simp), C2.out.drewN m⟩
          case measure =>
            show ((S : Int) - sumAt ((w6.setCell ⟨gh, s, none⟩ (.bool true)).setCell ⟨gq, s, none⟩ (.int .i64 (z + 1))) gq).toNat < ((S : Int) - sumAt w6 gq).toNat
            rw [HS1.out, HS3.out]; omega
        · obtain rfl : j = D := by omega
          have hge : ¬ tB + (j : Int) < (S : Int) := by omega
          have BND := Lib.hid (HBND.out j (by have := HROOM.out; omega))
          have L1000 := Lib.hid (show (giveN rs j qb hd).1.length ≤ 1000 by rw [g.len1]; omega)
          have RD := Lib.hid rd; have HS := Lib.hid hsum
          have eg : (giveN rs j qb hd).1 = gaveC c S (tot c) := HGC.out.symm
          have RQ := Lib.hid rq; have CC := Lib.hid hc; have HGE := Lib.hid hge; have EG := Lib.hid eg
          clear rd hsum rq rr rt hc g hs1 eg
          go_wp2_with fail
          refine (r8sum_any _ _ wr RD.out BND.out L1000.out).mono ?_
          rintro e w6 ⟨rfl, rfl⟩
          rw [HS.out]
          have hfit := HFIT.out
          have hgs := HGS.out
          have hmn := hfit.many
          obtain ⟨G, hG⟩ : ∃ G, gaveC c S (tot c) = G := ⟨_, rfl⟩
          have htook : ∀ i : Nat, (i : Int) ≤ tot G - (S : Int) → Took c G i (takeN c i G) := fun i hi => by
            have t0 := hfit.took0
            rw [hG] at t0
            exact Go.Proofs.Ytllkfmnofklpmaa.took hfit.len t0 i (by omega)
          have hnc : normC c (S : Int) = takeN c (tot G - (S : Int)).toNat G := by unfold normC; rw [hG]
          have hGb : ∀ s, s < 256 → G.getD s 0 ≤ 4294967296 := fun s hs => by
            have h1 := EG.out
            rw [hG] at h1
            have h2 := BND.out _ (getD_mem (cs := (giveN rs j qb hd).1) (k := s) (by have := (HGAVE.out j HROOM.out).len1; omega))
            rw [h1] at h2
            exact h2.2
          have rq := RQ.out
          rw [EG.out, hG] at rq
          rw [hG] at hgs
          obtain ⟨tG, htG⟩ : ∃ tG, tot G = tG := ⟨_, rfl⟩
          rw [htG] at hgs htook hnc
          obtain ⟨T, hT⟩ : ∃ T, (tG - (S : Int)).toNat = T := ⟨_, rfl⟩
          rw [hT] at hnc
          have HTOOK := Lib.hid htook; have HNC := Lib.hid hnc; have HGB := Lib.hid hGb; have HTG := Lib.hid htG; have HTT := Lib.hid (show (T : Int) = tG - (S : Int) by omega); have RQ2 := Lib.hid rq
          clear htook hnc hGb rq hG htG hT hgs hmn hfit HGC RQ RD BND L1000 HS HGAVE HBND HGS EG HROOM HD hDe hjD hj
          obtain ⟨g0, o0, rfl, hx0⟩ := H.out.at 0 (by rw [HLEN.out]; omega)
          clear hx0
          go_wp2
          go_loopw [92] (fun _ wr => ∃ i : Nat, i ≤ T ∧ RowI wr gq 3 (takeN c i G) ∧ Chg (fun _ => False) w2 wr) (fun _ wr => (sumAt wr gq - (S : Int)).toNat)
          case atStart => exact ⟨0, Nat.zero_le _, RQ2.out, CC.out⟩
          case round =>
            obtain ⟨i, hi, rq, hc⟩ := hrel
            clear RQ2 CC
            have htt := HTT.out
            have t := HTOOK.out i (by omega)
            have hsum := t.sum
            rw [HTG.out] at hsum
            have rd := rq.rd 256
            rw [t.len] at rd
            have hs1 := rq.sumAt
            rw [hsum] at hs1
            have BND := Lib.hid (mem_bound (lo := 0) (hi := 4294967296) t.len (fun s hs => ⟨(t.low s hs).1, Int.le_trans (t.top s hs) (HGB.out s hs)⟩))
            have L1000 := Lib.hid (show (takeN c i G).length ≤ 1000 by rw [t.len]; omega)
            have RD := Lib.hid rd; have HS := Lib.hid hsum
            by_cases hiT : i < T
            · have hmany2 := HFIT.out.many
              obtain ⟨hb256, hz1, t2⟩ := took_step HLEN.out t (by rw [hsum]; omega)
              have HRI := Lib.hid (r8richest_l gq g0 o0 cap 3 (takeN c i G) c wr rq (H.out.kept hc (by simp)) t.len HLEN.out)
              have hst : takeN c (i + 1) G = (takeN c i G).set (richTo (takeN c i G) c 255) ((takeN c i G).getD (richTo (takeN c i G) c 255) 0 - 1) := by rw [takeN_succ]; rfl
              have hzt := t.top (richTo (takeN c i G) c 255) hb256
              have hzg := HGB.out (richTo (takeN c i G) c 255) hb256
              obtain ⟨b, hb⟩ : ∃ b, richTo (takeN c i G) c 255 = b := ⟨_, rfl⟩
              rw [hb] at hb256 hz1 hst HRI hzt hzg
              have aq := rq.cell b (by rw [t.len]; exact hb256)
              have fq := rq.free b
              obtain ⟨z, hz⟩ : ∃ z, (takeN c i G).getD b 0 = z := ⟨_, rfl⟩
              rw [hz] at hz1 hst aq hzt
              have rq1 := rq.set b (z - 1)
              rw [← hst] at rq1
              have c1 : Chg (fun _ => False) w2 (wr.setCell ⟨gq, b, none⟩ (.int .i64 (z - 1))) := hc.trans (Chg.setCell wr ⟨gq, b, none⟩ _) (fun q hq hh => by have := LQ.out; simp at hh; omega)
              have t3 := HTOOK.out (i + 1) (by omega)
              have hsum3 := t3.sum
              rw [HTG.out] at hsum3
              have hs3 := rq1.sumAt
              rw [hsum3] at hs3
              have hgt : (S : Int) < tG - (i : Int) := by omega
              have hbI : (b : Int) < 256 := by omega
              have hz2 : z ≤ 4294967296 := by omega
              have RQ1 := Lib.hid rq1; have C1 := Lib.hid c1; have HS1 := Lib.hid hs1; have HS3 := Lib.hid hs3; have HTT2 := Lib.hid htt
              clear rq1 c1 hs1 hs3 t3 hsum3 t t2 hst hz hb rq hc rd hsum hzt hzg hmany2
              go_wp2_with fail
              refine (r8sum_any _ _ wr RD.out BND.out L1000.out).mono ?_
              rintro e w7 ⟨rfl, rfl⟩
              rw [HS.out]
              clear htt
              go_wp2_with fail
              refine HRI.out.mono ?_
              rintro e w8 ⟨rfl, m, rfl⟩
              clear HRI
              go_wp2
              go_roundw
              case rel => exact ⟨i + 1, by omega, RowI.kept (w := w7.setCell ⟨gq, b, none⟩ (.int .i64 (z - 1))) RQ1.out ((Chg.refl (fun _ => False) _).drewN m) (by simp), C1.out.drewN m⟩
              case measure =>
                show (sumAt (w7.setCell ⟨gq, b, none⟩ (.int .i64 (z - 1))) gq - (S : Int)).toNat < (sumAt w7 gq - (S : Int)).toNat
                have := HTT2.out
                rw [HS1.out, HS3.out]; omega
            · obtain rfl : i = T := by omega
              have hle : ¬ (S : Int) < tG - (i : Int) := by omega
              rw [← HNC.out] at rq
              have hnl := norm_len HFIT.out
              have own := rq.own 256 w2.heap.size LQ.out
              rw [hnl, ← HNR.out] at own
              have OWN := Lib.hid own; have CC := Lib.hid hc
              clear rq own hnl hc t hs1 htt rd hsum
              go_wp2_with fail
              refine (r8sum_any _ _ wr RD.out BND.out L1000.out).mono ?_
              rintro e w7 ⟨rfl, rfl⟩
              rw [HS.out]
              go_wp2
              go_ret2
              exact ⟨⟨_, by rw [if_pos HOK.out]; rfl, fun _ => OWN.out, fun hk => absurd HOK.out hk, CC.out⟩, .of (Nat.le_refl _)⟩

theorem r8counts_any (v : Value) (c : List Int) (r : Int) (w : World) (h : RdI w v c) (hb : ∀ z ∈ c, -9223372036854775808 ≤ z ∧ z ≤ 9223372036854775807) (hl : c.length < 100000000000) (hr : -9223372036854775808 ≤ r ∧ r ≤ 9223372036854775807) :
    Calls Try.prog 50 #[v, .int .i64 r] w fun e w' => NormSays w c r e w' := (r8counts_room v c r w h hb hl hr).mono fun _ _ h => h.1

end Go.Proofs.Ytllkfmnofklpmaa

/- Normalized counts of few numbers: what puncheonref08.Some tells. -/
namespace Go.Proofs.Ytllkfmnofklpmaa
open Go.RowKit

theorem norm_normQ {c : List Int} {k : Nat} (h : normOk c (k : Int)) : NormQ (normR c (k : Int)) k := by
  have hf := h.fit
  rw [Int.toNat_natCast] at hf
  unfold normR
  rw [Int.toNat_natCast]
  have h1 := h.2.2.1
  have h2 := h.2.2.2.1
  exact ⟨norm_len hf, norm_nonneg hf, norm_sum hf, by omega, by omega⟩
theorem right_bnds {c : List Int} (h : isRight c) : ∀ z ∈ c, -9223372036854775808 ≤ z ∧ z ≤ 9223372036854775807 := by
  intro z hz
  obtain ⟨i, hi, rfl⟩ := List.mem_iff_getElem.1 hz
  have := h.one i hi
  rw [List.getD_eq_getElem?_getD, List.getElem?_eq_getElem hi] at this
  simp only [Option.getD_some] at this
  omega
theorem right_seven {c : List Int} (h : isRight c) (h0 : tot c = 0) : isRight (c.set 7 1) ∧ 0 < tot (c.set 7 1) ∧ tot (c.set 7 1) ≤ 2621400 := by
  have hl := h.1
  have hs := tot_set c 7 1 (by omega)
  have h7 := h.one 7 (by omega)
  have hn : ∀ z ∈ c.set 7 1, 0 ≤ z := fun z hz => by
    rcases List.mem_or_eq_of_mem_set hz with h1 | h1
    · exact h.2.1 z h1
    · omega
  have hle : c.getD 7 0 ≤ tot c := by
    have := h.at 7 (by omega)
    have h1 := tot_take_succ c 7 (by omega)
    have h2 := tot_take_le c (7 + 1) h.2.1
    have h3 := tot_nonneg (c.take 7) fun z hz => h.2.1 z (List.mem_of_mem_take hz)
    omega
  exact ⟨⟨by rw [List.length_set]; exact hl, hn, by omega⟩, by omega, by omega⟩

set_option maxHeartbeats 2000000 in
theorem r8some_room (v : Value) (xs : List Nat) (r : Nat) (w : World) (h : RdH w v xs) (hx : ∀ x ∈ xs, x < 65536) (hl : xs.length < 10000000000) (hr : r < 256) :
    Calls Try.prog 24 #[v, .int .u8 (r : Int)] w fun e w' => ∃ v' q k, e = .returned (.tuple #[v', .int .i64 ((k : Nat) : Int)]) ∧ OwnI w' w.heap.size v' q ∧ NormQ q k ∧ 5 ≤ k ∧ k ≤ 9 ∧ Chg (fun _ => False) w w' ∧ RoomOk v' := by
  have HS := Lib.hid (r5some_any v xs w h hx hl)
  have HRT := Lib.hid (someC_right xs hx)
  clear h hx hl
  obtain ⟨rr, hrr⟩ : ∃ rr, r % 5 = rr := ⟨_, rfl⟩
  have hrr' : (r : Int) % 5 = (rr : Int) := by omega
  obtain ⟨k0, hk0⟩ : ∃ k0, 5 + rr = k0 := ⟨_, rfl⟩
  have hkI : 5 + (rr : Int) = (k0 : Int) := by omega
  have hk9 : k0 ≤ 9 := by omega
  have hk5 : 5 ≤ k0 := by omega
  have hrr5 : (rr : Int) < 5 := by omega
  have HK9 := Lib.hid hk9; have HK5 := Lib.hid hk5
  clear hrr hk0 hk9 hk5
  go_enter Try.func24, Try.ntmps24
  go_wp2_with fail
  refine HS.out.mono ?_
  rintro e w1 ⟨v1, rfl, ho, hc⟩
  generalize hC : someC xs = C at *
  have hrt := HRT.out.1
  have htt := HRT.out.2
  obtain ⟨g, off, cap, rfl, -⟩ := id ho
  have HO := Lib.hid ho; have HC := Lib.hid hc; have HR := Lib.hid hrt; have HTT := Lib.hid htt
  clear ho hc HS HRT hC hrt htt
  go_wp2_with fail
  refine (r5total_any _ C w1 HO.out.rd (right_bnds HR.out) (by rw [HR.out.1]; omega)).mono ?_
  rintro e w1' ⟨rfl, rfl⟩
  rw [show totalI C = tot C by unfold totalI; rw [if_pos HR.out]]
  have h7 : 7 < C.length := by rw [HR.out.1]; omega
  have hsv := fun h0 => right_seven HR.out h0
  have htn := tot_nonneg C HR.out.2.1
  have hcell : w1'.cell? ⟨g, off + 7, none⟩ = some (.int .i64 (C.getD 7 0)) := by
    obtain ⟨g', off', he, hc⟩ := HO.out.rd.at 7 h7
    simp only [Option.some.injEq, Addr.mk.injEq] at he
    obtain ⟨rfl, rfl, -⟩ := he
    exact hc
  obtain ⟨hgw, hfr⟩ : w.heap.size ≤ g ∧ w1'.frozen? ⟨g, off + 7, none⟩ = false := by
    obtain ⟨g', off', cap', he, hb, -, -, hf⟩ := HO.out
    simp only [Value.slice.injEq, Option.some.injEq, Addr.mk.injEq] at he
    obtain ⟨⟨rfl, rfl, -⟩, -, -⟩ := he
    exact ⟨hb, hf 7⟩
  have hst := HO.out.store 7 h7 1
  have hc2 : Chg (fun _ => False) w (w1'.setCell ⟨g, off + 7, none⟩ (.int .i64 1)) := HC.out.trans (Chg.setCell w1' ⟨g, off + 7, none⟩ _) (fun q hq h => by simp at h; omega)
  have hn6 : C.length = 256 := HR.out.1
  obtain ⟨n, hn⟩ : ∃ n, C.length = n := ⟨_, rfl⟩
  rw [hn] at HO h7 hst hn6 ⊢
  have HST := Lib.hid hst; have HC2 := Lib.hid hc2; have HSV := Lib.hid hsv; have HN := Lib.hid hn6
  clear hst hc2 hsv hn hn6
  obtain ⟨T, hT⟩ : ∃ T, tot C = T := ⟨_, rfl⟩
  rw [hT] at HSV HTT htn ⊢
  have h7I : (7 : Int) < (n : Int) := by omega
  have HGW := Lib.hid hgw
  clear h7 hgw
  have key : ∃ (C' : List Int) (w2 : World), Hid (OwnI w2 w.heap.size (.slice (some ⟨g, off, none⟩) n cap) C' ∧ isRight C' ∧ 0 < tot C' ∧ Chg (fun _ => False) w w2) ∧ ((T = 0 ∧ w2 = w1'.setCell ⟨g, off + 7, none⟩ (.int .i64 1)) ∨ (T ≠ 0 ∧ w2 = w1')) := by
    by_cases h0 : T = 0
    · exact ⟨_, _, Lib.hid ⟨HST.out, (HSV.out h0).1, (HSV.out h0).2.1, HC2.out⟩, .inl ⟨h0, rfl⟩⟩
    · exact ⟨_, _, Lib.hid ⟨HO.out, HR.out, by omega, HC.out⟩, .inr ⟨h0, rfl⟩⟩
  obtain ⟨C', w2, KEY, hcase⟩ := key
  clear HST HC2 HSV HO HR HC HTT hT
  have HLEN := Lib.hid KEY.out.2.1.1
  have MN := Lib.hid <| r5many_any (.slice (some ⟨g, off, none⟩) n cap) C' w2 KEY.out.1.rd (right_bnds KEY.out.2.1) (by rw [HLEN.out]; omega)
  have hml := manyI_le C'
  have hmp : manyI C' = pos C' := by unfold manyI; rw [if_pos KEY.out.2.1]
  have HMP := Lib.hid hmp
  obtain ⟨M, hM⟩ : ∃ M, manyI C' = M := ⟨_, rfl⟩
  rw [hM] at MN hml HMP
  clear hM hmp
  have HCO := Lib.hid fun (k : Nat) (hk : k ≤ 9) => r8counts_room (.slice (some ⟨g, off, none⟩) n cap) C' (k : Int) w2 KEY.out.1.rd (right_bnds KEY.out.2.1) (by rw [HLEN.out]; omega) (by omega)
  have HNO := Lib.hid fun (k : Nat) (h5 : 5 ≤ k) (h9 : k ≤ 9) (hm : M ≤ 2 ^ k) => (show normOk C' (k : Int) from ⟨KEY.out.2.1, KEY.out.2.2.1, by omega, by omega, by rw [← HMP.out, Int.toNat_natCast]; omega⟩)
  rcases hcase with ⟨rfl, hw2⟩ | ⟨hT0, hw2⟩
  · go_wp2
    rw [← hw2]
    clear hw2 hcell hfr hrr' hkI
    go_loopw [7] (fun o7 wr => ∃ k : Nat, 5 ≤ k ∧ k ≤ 9 ∧ o7 = .int .i64 (k : Int) ∧ wr = w2) (fun o7 _ => 9 - (intOf o7).toNat)
    case atStart => exact ⟨k0, HK5.out, HK9.out, rfl, rfl⟩
    case round =>
      obtain ⟨k, h5, h9, rfl, rfl⟩ := hrel
      obtain ⟨P, hP⟩ : ∃ P, 2 ^ k = P := ⟨_, rfl⟩
      have hPI : (2 : Int) ^ k = (P : Int) := by rw [← hP]; simp
      have hk8 : P < 256 → k < 8 := fun h => by
        by_cases h8 : 8 ≤ k
        · have := pow_le h8
          have : (2 : Nat) ^ 8 = 256 := by decide
          omega
        · omega
      have hno := HNO.out k h5 h9
      rw [hP] at hno
      have hco := HCO.out k h9
      have HK8 := Lib.hid hk8; have HNK := Lib.hid hno; have HCK := Lib.hid hco
      have H5 := Lib.hid h5; have H9 := Lib.hid h9
      clear hk8 hno hco HNO HCO hP
      go_wp2_with fail
      refine (r8power_any k _ (by omega)).mono ?_
      rintro e w3 ⟨rfl, rfl⟩
      go_wp2_with fail
      refine MN.out.mono ?_
      rintro e w3 ⟨rfl, rfl⟩
      by_cases hlt : P < M
      · have hk8 := HK8.out (by omega)
        have dl : decide (P < M) = true := decide_eq_true hlt
        clear HK8 HNK HCK hlt
        go_wp2
        go_roundw
        case rel => exact ⟨k + 1, by omega, by omega, by go_num, trivial⟩
        case measure => simp [intOf]; omega
      · have hok := HNK.out (by omega)
        have HOK := Lib.hid hok
        clear hok HNK HK8
        go_wp2_with fail
        refine HCK.out.mono ?_
        rintro e w4 ⟨⟨v4, rfl, ho4, -, hc4⟩, hr4⟩
        have HR4 := Lib.hid (hr4 _ _ rfl)
        clear hr4
        rw [if_pos HOK.out]
        have HO4 := Lib.hid (ho4 HOK.out)
        have HC4 := Lib.hid hc4
        clear ho4 hc4 HCK
        go_wp2
        go_ret2
        exact ⟨_, _, k, rfl, HO4.out.mono KEY.out.2.2.2.size, norm_normQ HOK.out, H5.out, H9.out, KEY.out.2.2.2.trans HC4.out fun _ _ h => h, HR4.out⟩
  · have hT1 : (T == 0) = false := by simpa using hT0
    clear hT0
    go_wp2
    rw [← hw2]
    clear hw2 hcell hfr hrr' hkI
    go_loopw [7] (fun o7 wr => ∃ k : Nat, 5 ≤ k ∧ k ≤ 9 ∧ o7 = .int .i64 (k : Int) ∧ wr = w2) (fun o7 _ => 9 - (intOf o7).toNat)
    case atStart => exact ⟨k0, HK5.out, HK9.out, rfl, rfl⟩
    case round =>
      obtain ⟨k, h5, h9, rfl, rfl⟩ := hrel
      obtain ⟨P, hP⟩ : ∃ P, 2 ^ k = P := ⟨_, rfl⟩
      have hPI : (2 : Int) ^ k = (P : Int) := by rw [← hP]; simp
      have hk8 : P < 256 → k < 8 := fun h => by
        by_cases h8 : 8 ≤ k
        · have := pow_le h8
          have : (2 : Nat) ^ 8 = 256 := by decide
          omega
        · omega
      have hno := HNO.out k h5 h9
      rw [hP] at hno
      have hco := HCO.out k h9
      have HK8 := Lib.hid hk8; have HNK := Lib.hid hno; have HCK := Lib.hid hco
      have H5 := Lib.hid h5; have H9 := Lib.hid h9
      clear hk8 hno hco HNO HCO hP
      go_wp2_with fail
      refine (r8power_any k _ (by omega)).mono ?_
      rintro e w3 ⟨rfl, rfl⟩
      go_wp2_with fail
      refine MN.out.mono ?_
      rintro e w3 ⟨rfl, rfl⟩
      by_cases hlt : P < M
      · have hk8 := HK8.out (by omega)
        have dl : decide (P < M) = true := decide_eq_true hlt
        clear HK8 HNK HCK hlt
        go_wp2
        go_roundw
        case rel => exact ⟨k + 1, by omega, by omega, by go_num, trivial⟩
        case measure => simp [intOf]; omega
      · have hok := HNK.out (by omega)
        have HOK := Lib.hid hok
        clear hok HNK HK8
        go_wp2_with fail
        refine HCK.out.mono ?_
        rintro e w4 ⟨⟨v4, rfl, ho4, -, hc4⟩, hr4⟩
        have HR4 := Lib.hid (hr4 _ _ rfl)
        clear hr4
        rw [if_pos HOK.out]
        have HO4 := Lib.hid (ho4 HOK.out)
        have HC4 := Lib.hid hc4
        clear ho4 hc4 HCK
        go_wp2
        go_ret2
        exact ⟨_, _, k, rfl, HO4.out.mono KEY.out.2.2.2.size, norm_normQ HOK.out, H5.out, H9.out, KEY.out.2.2.2.trans HC4.out fun _ _ h => h, HR4.out⟩

theorem r8some_any (v : Value) (xs : List Nat) (r : Nat) (w : World) (h : RdH w v xs) (hx : ∀ x ∈ xs, x < 65536) (hl : xs.length < 10000000000) (hr : r < 256) :
    Calls Try.prog 24 #[v, .int .u8 (r : Int)] w fun e w' => ∃ v' q k, e = .returned (.tuple #[v', .int .i64 ((k : Nat) : Int)]) ∧ OwnI w' w.heap.size v' q ∧ NormQ q k ∧ 5 ≤ k ∧ k ≤ 9 ∧ Chg (fun _ => False) w w' := (r8some_room v xs r w h hx hl hr).mono fun _ _ ⟨v', q, k, h1, h2, h3, h4, h5, h6, _⟩ => ⟨v', q, k, h1, h2, h3, h4, h5, h6⟩

end Go.Proofs.Ytllkfmnofklpmaa
