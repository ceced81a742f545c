/- What budget's Put, Take and Cost do. THIS ALONE SPEAKS OF THE PROGRAM'S OWN TEXT. -/
import Derived.Test.YtgnenelfbmpfgaaBgMath
import Derived.Test.YtgnenelfbmpfgaaBwPutC
import Derived.Test.YtgnenelfbmpfgaaLgProg
namespace Go.Proofs.Ytgnenelfbmpfgaa
open Go.RowKit

theorem bgwithin_i (n a z : Int) (w : World) : Calls Try.prog 39 #[.int .i64 n, .int .i64 a, .int .i64 z] w fun e w' => e = .returned (.bool (decide (a ≤ n ∧ n ≤ z))) ∧ w' = w := by
  by_cases h1 : a ≤ n
  · have d1 : decide (a ≤ n) = true := decide_eq_true h1
    have hd : decide (a ≤ n ∧ n ≤ z) = decide (n ≤ z) := decide_eq_decide.2 ⟨fun h => h.2, fun h => ⟨h1, h⟩⟩
    rw [hd]
    clear hd h1
    go_enter Try.func39, Try.ntmps39
    go_wp2
    go_ret
    exact ⟨rfl, rfl⟩
  · have d1 : decide (a ≤ n) = false := decide_eq_false h1
    have hd : decide (a ≤ n ∧ n ≤ z) = false := decide_eq_false fun h => h1 h.1
    rw [hd]
    clear hd h1
    go_enter Try.func39, Try.ntmps39
    go_wp2
    go_ret
    exact ⟨rfl, rfl⟩

theorem bgwithin_u (n a z : Int) (w : World) : Calls Try.prog 34 #[.int .u32 n, .int .u32 a, .int .u32 z] w fun e w' => e = .returned (.bool (decide (a ≤ n ∧ n ≤ z))) ∧ w' = w := by
  by_cases h1 : a ≤ n
  · have d1 : decide (a ≤ n) = true := decide_eq_true h1
    have hd : decide (a ≤ n ∧ n ≤ z) = decide (n ≤ z) := decide_eq_decide.2 ⟨fun h => h.2, fun h => ⟨h1, h⟩⟩
    rw [hd]
    clear hd h1
    go_enter Try.func34, Try.ntmps34
    go_wp2
    go_ret
    exact ⟨rfl, rfl⟩
  · have d1 : decide (a ≤ n) = false := decide_eq_false h1
    have hd : decide (a ≤ n ∧ n ≤ z) = false := decide_eq_false fun h => h1 h.1
    rw [hd]
    clear hd h1
    go_enter Try.func34, Try.ntmps34
    go_wp2
    go_ret
    exact ⟨rfl, rfl⟩

theorem bgleft_any (l : Int) (w : World) : Calls Try.prog 32 #[.int .i64 l] w fun e w' => e = .returned (.bool (decide (1 ≤ l ∧ l ≤ 4096))) ∧ w' = w := by
  have HI := Lib.hid (bgwithin_i l 1 4096 w)
  go_enter Try.func32, Try.ntmps32
  go_wp2_with fail
  refine (HI.out).mono ?_
  rintro e w1 ⟨rfl, rfl⟩
  go_wp2
  go_ret
  exact ⟨by rw [Bool.decide_and]; rfl, rfl⟩

theorem bgmay_any (v l : Int) (w : World) : Calls Try.prog 29 #[.int .i64 v, .int .i64 l] w fun e w' => e = .returned (.bool (decide (bCan v l))) ∧ w' = w := by
  have HL := Lib.hid (bgleft_any l w)
  by_cases h1 : 1 ≤ l ∧ l ≤ 4096
  · have hd : decide (bCan v l) = decide (0 ≤ v ∧ v ≤ l) := decide_eq_decide.2 ⟨fun h => h.2.2, fun h => ⟨h1.1, h1.2, h.1, h.2⟩⟩
    have HI := Lib.hid (bgwithin_i v 0 l w)
    rw [hd]
    rw [decide_eq_true h1] at HL
    clear hd h1
    go_enter Try.func29, Try.ntmps29
    go_wp2_with fail
    refine (HL.out).mono ?_
    rintro e w1 ⟨rfl, rfl⟩
    go_wp2_with fail
    refine (HI.out).mono ?_
    rintro e w1 ⟨rfl, rfl⟩
    go_wp2
    go_ret
    exact ⟨by rw [Bool.decide_and]; rfl, rfl⟩
  · have hd : decide (bCan v l) = false := decide_eq_false fun h => h1 ⟨h.1, h.2.1⟩
    rw [hd]
    rw [decide_eq_false h1] at HL
    clear hd h1
    go_enter Try.func29, Try.ntmps29
    go_wp2_with fail
    refine (HL.out).mono ?_
    rintro e w1 ⟨rfl, rfl⟩
    go_wp2
    go_ret
    exact ⟨rfl, rfl⟩

theorem bgput_any (b : Nat) (o : Option Nat) (bs : List Bool) (v l : Int) (w : World) (h : Wr w b o bs) (hlen : bs.length < 900000000) (hv : -9223372036854775808 ≤ v ∧ v ≤ 9223372036854775807) (hl : -9223372036854775808 ≤ l ∧ l ≤ 9223372036854775807) :
    Calls Try.prog 12 #[.pointer (some ⟨b, 0, none⟩), .int .i64 v, .int .i64 l] w fun e w' => e = .returned (.bool (decide (bCan v l))) ∧ WrTo w w' b o (bgPutB bs v l) := by
  have HC := Lib.hid (bgmay_any v l w)
  by_cases hc : bCan v l
  · obtain ⟨h1, h2, h3, h4⟩ := hc
    have hw := width_13 h1 h2
    have HW := Lib.hid (lwidth_w l w (by omega) (by omega))
    have hbs : bgPutB bs v l = bs ++ bitsOf v.toNat (widthI l) := by unfold bgPutB; rw [if_pos ⟨h1, h2, h3, h4⟩]
    have hdt : decide (bCan v l) = true := decide_eq_true (show bCan v l from ⟨h1, h2, h3, h4⟩)
    rw [hdt] at HC ⊢
    clear hdt
    obtain ⟨x, rfl⟩ := Int.eq_ofNat_of_zero_le h3
    rw [Int.toNat_natCast] at hbs
    have HP := Lib.hid (put_yes b o bs x (widthI l) w h hlen (by omega) (by omega))
    have hx : (x : Int) % 4294967296 = (x : Int) := by omega
    obtain ⟨n, hn⟩ : ∃ n, widthI l = n := ⟨_, rfl⟩
    rw [hn] at HW HP hbs
    have HBS := Lib.hid hbs
    clear hbs hn h hw hlen
    go_enter Try.func12, Try.ntmps12
    go_wp2_with fail
    refine (HC.out).mono ?_
    rintro e w1 ⟨rfl, rfl⟩
    go_wp2_with fail
    refine (HW.out).mono ?_
    rintro e w1 ⟨rfl, rfl⟩
    go_wp2_with fail
    refine (HP.out).mono ?_
    rintro e w2 ⟨rfl, ho2⟩
    have HO2 := Lib.hid ho2
    clear ho2
    go_wp2
    go_ret
    exact ⟨rfl, by rw [HBS.out]; exact HO2.out⟩
  · have hbs : bgPutB bs v l = bs := by unfold bgPutB; rw [if_neg hc]
    rw [decide_eq_false hc] at HC ⊢
    have HBS := Lib.hid hbs; have HO := Lib.hid h
    clear hbs h hc
    go_enter Try.func12, Try.ntmps12
    go_wp2_with fail
    refine (HC.out).mono ?_
    rintro e w1 ⟨rfl, rfl⟩
    go_wp2
    go_ret
    exact ⟨rfl, by rw [HBS.out]; exact ⟨o, HO.out, Chg.refl _ _, .inl rfl⟩⟩

theorem bgcost_any (v l : Int) (w : World) (hv : -9223372036854775808 ≤ v ∧ v ≤ 9223372036854775807) (hl : -9223372036854775808 ≤ l ∧ l ≤ 9223372036854775807) :
    Calls Try.prog 13 #[.int .i64 v, .int .i64 l] w fun e w' => e = .returned (.int .i64 ((bgCostN v l : Nat) : Int)) ∧ Chg (fun _ => False) w w' := by
  have HC := Lib.hid (bgmay_any v l w)
  by_cases hc : bCan v l
  · have hb : bgCostN v l = widthI l := by unfold bgCostN; rw [if_pos hc]
    have HW := Lib.hid (lwidth_w l w (by have := hc.2.1; omega) (by omega))
    rw [decide_eq_true hc] at HC
    rw [hb]
    clear hb hc
    go_enter Try.func13, Try.ntmps13
    go_wp2_with fail
    refine (HC.out).mono ?_
    rintro e w1 ⟨rfl, rfl⟩
    go_wp2_with fail
    refine (HW.out).mono ?_
    rintro e w1 ⟨rfl, rfl⟩
    go_wp2
    go_ret
    exact ⟨rfl, Chg.refl _ _⟩
  · have hb : bgCostN v l = 0 := by unfold bgCostN; rw [if_neg hc]
    rw [decide_eq_false hc] at HC
    rw [hb]
    clear hb hc
    go_enter Try.func13, Try.ntmps13
    go_wp2_with fail
    refine (HC.out).mono ?_
    rintro e w1 ⟨rfl, rfl⟩
    go_wp2
    go_ret
    exact ⟨rfl, Chg.refl _ _⟩

theorem bgtake_any (b : Nat) (o : Option Nat) (xs : List Nat) (p : Nat) (l : Int) (w : World) (h : Rf w b o xs p) (hl : -9223372036854775808 ≤ l ∧ l ≤ 9223372036854775807) :
    Calls Try.prog 20 #[.pointer (some ⟨b, 0, none⟩), .int .i64 l] w fun e w' => e = .returned (.tuple #[.int .i64 (bgTk xs p l).1, .int .i64 (bgTk xs p l).2.1]) ∧ Rf w' b o xs (bgTk xs p l).2.2 ∧ Chg (fun k => k = b) w w' := by
  have H := Lib.hid h
  have HL := Lib.hid (bgleft_any l w)
  by_cases h1 : 1 ≤ l ∧ l ≤ 4096
  · rw [decide_eq_true h1] at HL
    have hw := width_13 h1.1 h1.2
    have HW := Lib.hid (lwidth_w l w (by omega) (by omega))
    obtain ⟨n, hn⟩ : ∃ n, widthI l = n := ⟨_, rfl⟩
    have hb : bgTk xs p l = if p + n ≤ 8 * xs.length then (if ((fv xs p n : Nat) : Int) ≤ l then (((fv xs p n : Nat) : Int), 0, p + n) else (0, 13, p + n)) else (0, 3, p) := by unfold bgTk; rw [if_pos h1, hn]
    rw [hn] at HW hw
    have hfv := fv_lt xs p n
    by_cases hh : p + n ≤ 8 * xs.length
    · have HT := Lib.hid (ftake_yes b o xs p n w h (by omega) hh)
      rw [if_pos hh] at hb
      obtain ⟨f, hf⟩ : ∃ f, fv xs p n = f := ⟨_, rfl⟩
      rw [hf] at hb HT hfv
      have hf13 : f < 8192 := Nat.lt_of_lt_of_le hfv (by have := pow_le hw.2.1; have : (2 : Nat) ^ 13 = 8192 := by decide
                                                         omega)
      have hlm : l % 4294967296 = l := by omega
      by_cases hle : (f : Int) ≤ l
      · rw [if_pos hle] at hb
        rw [hb]
        have HU := bgwithin_u (f : Int) 0 l
        rw [decide_eq_true (show 0 ≤ (f : Int) ∧ (f : Int) ≤ l by omega)] at HU
        have HU := Lib.hid HU
        clear hb hf hfv hw hn h h1 hle
        go_enter Try.func20, Try.ntmps20
        go_wp2_with fail
        refine (HL.out).mono ?_
        rintro e w1 ⟨rfl, rfl⟩
        go_wp2_with fail
        refine (HW.out).mono ?_
        rintro e w1 ⟨rfl, rfl⟩
        go_wp2_with fail
        refine (HT.out).mono ?_
        rintro e w2 ⟨rfl, hx2, hc2⟩
        have HX2 := Lib.hid hx2; have HC2 := Lib.hid hc2
        clear hx2 hc2
        go_wp2_with fail
        refine (HU.out _).mono ?_
        rintro e w3 ⟨rfl, rfl⟩
        go_wp2
        go_ret2
        exact ⟨rfl, HX2.out, HC2.out⟩
      · rw [if_neg hle] at hb
        rw [hb]
        have HU := bgwithin_u (f : Int) 0 l
        rw [decide_eq_false (show ¬ (0 ≤ (f : Int) ∧ (f : Int) ≤ l) by omega)] at HU
        have HU := Lib.hid HU
        clear hb hf hfv hw hn h h1 hle
        go_enter Try.func20, Try.ntmps20
        go_wp2_with fail
        refine (HL.out).mono ?_
        rintro e w1 ⟨rfl, rfl⟩
        go_wp2_with fail
        refine (HW.out).mono ?_
        rintro e w1 ⟨rfl, rfl⟩
        go_wp2_with fail
        refine (HT.out).mono ?_
        rintro e w2 ⟨rfl, hx2, hc2⟩
        have HX2 := Lib.hid hx2; have HC2 := Lib.hid hc2
        clear hx2 hc2
        go_wp2_with fail
        refine (HU.out _).mono ?_
        rintro e w3 ⟨rfl, rfl⟩
        go_wp2
        go_ret2
        exact ⟨rfl, HX2.out, HC2.out⟩
    · have HT := Lib.hid (ftake_no b o xs p (n : Int) w h (by omega))
      rw [if_neg hh] at hb
      rw [hb]
      clear hb hfv hw hn h h1 hh
      go_enter Try.func20, Try.ntmps20
      go_wp2_with fail
      refine (HL.out).mono ?_
      rintro e w1 ⟨rfl, rfl⟩
      go_wp2_with fail
      refine (HW.out).mono ?_
      rintro e w1 ⟨rfl, rfl⟩
      go_wp2_with fail
      refine (HT.out).mono ?_
      rintro e w2 ⟨rfl, hc2⟩
      have HC2 := Lib.hid hc2
      clear hc2
      go_wp2
      go_ret2
      exact ⟨rfl, H.out.kept HC2.out (fun h => h) (fun _ _ h => h), HC2.out.mono fun _ _ h => h.elim⟩
  · rw [decide_eq_false h1] at HL
    have hb : bgTk xs p l = (0, 1, p) := by unfold bgTk; rw [if_neg h1]
    rw [hb]
    clear hb h h1
    go_enter Try.func20, Try.ntmps20
    go_wp2_with fail
    refine (HL.out).mono ?_
    rintro e w1 ⟨rfl, rfl⟩
    go_wp2
    go_ret2
    exact ⟨rfl, H.out, Chg.refl _ _⟩

end Go.Proofs.Ytgnenelfbmpfgaa
