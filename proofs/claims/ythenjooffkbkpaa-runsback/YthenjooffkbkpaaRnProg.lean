/- What runs' Put, Take and Cost do. THIS ALONE SPEAKS OF THE PROGRAM'S OWN TEXT. -/
import Derived.Test.YthenjooffkbkpaaRnMath
import Derived.Test.YthenjooffkbkpaaBwPutC
namespace Go.Proofs.Ythenjooffkbkpaa
open Go.RowKit

/-- k threes, in two bits each -/
def rn3 : Nat → List Bool
  | 0 => []
  | k + 1 => rn3 k ++ bitsOf 3 2
theorem rn3_length (k : Nat) : (rn3 k).length = 2 * k := by
  induction k with
  | zero => rfl
  | succ k ih => rw [rn3, List.length_append, ih, bitsOf_length]; omega
theorem rn3_front (k : Nat) : bitsOf 3 2 ++ rn3 k = rn3 (k + 1) := by
  induction k with
  | zero => rfl
  | succ k ih => rw [rn3, ← List.append_assoc, ih]; rfl
theorem rnB_threes (n : Nat) : rnB n = rn3 (n / 3) ++ bitsOf (n % 3) 2 := by
  induction n using Nat.strongRecOn with
  | ind n ih =>
    by_cases h3 : n < 3
    · rw [rnB_small h3, Nat.div_eq_of_lt h3, Nat.mod_eq_of_lt h3]; rfl
    · obtain ⟨k, rfl⟩ : ∃ k, n = k + 3 := ⟨n - 3, by omega⟩
      rw [rnB, ih k (by omega), ← List.append_assoc, rn3_front, show (k + 3) / 3 = k / 3 + 1 by omega, show (k + 3) % 3 = k % 3 by omega]

theorem rnmay_any (n : Int) (w : World) : Calls Try.prog 26 #[.int .i64 n] w fun e w' => e = .returned (.bool (decide (rnOk n))) ∧ w' = w := by
  by_cases h1 : 0 ≤ n
  · have d1 : decide (0 ≤ n) = true := decide_eq_true h1
    have hd : decide (rnOk n) = decide (n ≤ 255) := decide_eq_decide.2 ⟨fun h => h.2, fun h => ⟨h1, h⟩⟩
    rw [hd]
    clear hd h1
    go_enter Try.func26, Try.ntmps26
    go_wp2
    go_ret
    exact ⟨rfl, rfl⟩
  · have d1 : decide (0 ≤ n) = false := decide_eq_false h1
    have hd : decide (rnOk n) = false := decide_eq_false fun h => h1 h.1
    rw [hd]
    clear hd h1
    go_enter Try.func26, Try.ntmps26
    go_wp2
    go_ret
    exact ⟨rfl, rfl⟩

/-- two bits are what they add, and whether more come -/
theorem rnmean_any (y : Nat) (w : World) (hy : y < 4) : Calls Try.prog 30 #[.int .u32 (y : Int)] w fun e w' => e = .returned (.tuple #[.int .i64 (y : Int), .bool (decide (y = 3))]) ∧ w' = w := by
  by_cases h3 : y = 3
  · subst h3
    go_enter Try.func30, Try.ntmps30
    go_wp2
    go_ret2
    exact ⟨rfl, rfl⟩
  · have d3 : decide ((y : Int) = 3) = false := decide_eq_false (by omega)
    have d4 : ((y : Int) == 3) = false := d3
    have d3' : decide (y = 3) = false := decide_eq_false h3
    rw [d3']
    clear d3' h3
    go_enter Try.func30, Try.ntmps30
    go_wp2
    go_ret2
    exact ⟨rfl, rfl⟩

theorem rnput_any (b : Nat) (o : Option Nat) (bs : List Bool) (n : Int) (w : World) (h : Wr w b o bs) (hlen : bs.length < 800000000) (hn : -9223372036854775808 ≤ n ∧ n ≤ 9223372036854775807) :
    Calls Try.prog 11 #[.pointer (some ⟨b, 0, none⟩), .int .i64 n] w fun e w' => e = .returned (.bool (decide (rnOk n))) ∧ WrTo w w' b o (rnPutB bs n) := by
  have HM := Lib.hid (rnmay_any n w)
  by_cases hok : rnOk n
  · rw [decide_eq_true hok] at HM ⊢
    obtain ⟨k, rfl⟩ := Int.eq_ofNat_of_zero_le hok.1
    have hk := hok.2
    have hbs : rnPutB bs (k : Int) = bs ++ rn3 (k / 3) ++ bitsOf (k % 3) 2 := by unfold rnPutB; rw [if_pos hok, Int.toNat_natCast, rnB_threes, List.append_assoc]
    rw [hbs]
    have hq : (k : Int).tdiv 3 = ((k / 3 : Nat) : Int) := by rw [Int.tdiv_eq_ediv_of_nonneg (by omega)]; omega
    have hr : (k : Int).tmod 3 = ((k % 3 : Nat) : Int) := by rw [Int.tmod_eq_emod_of_nonneg (by omega)]; omega
    obtain ⟨q, hqe⟩ : ∃ q, k / 3 = q := ⟨_, rfl⟩
    obtain ⟨r, hre⟩ : ∃ r, k % 3 = r := ⟨_, rfl⟩
    rw [hqe] at hq ⊢
    rw [hre] at hr ⊢
    have hq85 : q ≤ 85 := by omega
    have hr3 : r < 3 := by omega
    have hst : WrTo w w b o (bs ++ rn3 0) := ⟨o, by rw [rn3, List.append_nil]; exact h, Chg.refl _ _, .inl rfl⟩
    have HST := Lib.hid hst; have HL := Lib.hid hlen
    clear hbs hok h hqe hre hst hlen
    go_enter Try.func11, Try.ntmps11
    go_wp2_with fail
    refine (HM.out).mono ?_
    rintro e w1 ⟨rfl, rfl⟩
    go_wp2
    go_loopw [10] (fun i wr => ∃ j : Nat, j ≤ q ∧ i = .int .i64 (j : Int) ∧ WrTo w1 wr b o (bs ++ rn3 j)) (fun i _ => q - (intOf i).toNat)
    case atStart => exact ⟨0, Nat.zero_le _, rfl, HST.out⟩
    case round =>
      obtain ⟨j, hj, rfl, hwr⟩ := hrel
      by_cases hlt : j < q
      · obtain ⟨o1, hw1, hc1, ho1⟩ := hwr
        have P := Lib.hid (put_yes b o1 (bs ++ rn3 j) 3 2 wr hw1 (by rw [List.length_append, rn3_length]; have := HL.out; omega) (by decide) (by decide))
        have K := Lib.hid (And.intro hc1 ho1)
        clear hw1 hc1 ho1
        go_wp2_with fail
        refine (P.out).mono ?_
        rintro e w2 ⟨rfl, hw2⟩
        have hw2' := WrTo.trans K.out.1 K.out.2 hw2
        rw [List.append_assoc] at hw2'
        have HW2 := Lib.hid hw2'
        clear hw2 hw2' P
        go_wp2
        go_roundw
        case rel => exact ⟨j + 1, by omega, by go_num, HW2.out⟩
        case measure => simp [intOf]; omega
      · obtain rfl : j = q := by omega
        obtain ⟨o1, hw1, hc1, ho1⟩ := hwr
        have P := Lib.hid (put_yes b o1 (bs ++ rn3 j) r 2 wr hw1 (by rw [List.length_append, rn3_length]; have := HL.out; omega) (by omega) (by decide))
        have K := Lib.hid (And.intro hc1 ho1)
        have hr32 : (r : Int) % 4294967296 = (r : Int) := by omega
        clear hw1 hc1 ho1
        go_wp2_with fail
        refine (P.out).mono ?_
        rintro e w2 ⟨rfl, hw2⟩
        have HW2 := Lib.hid (WrTo.trans K.out.1 K.out.2 hw2)
        clear hw2 P
        go_wp2
        go_ret
        exact ⟨rfl, HW2.out⟩
  · have hbs : rnPutB bs n = bs := by unfold rnPutB; rw [if_neg hok]
    rw [decide_eq_false hok] at HM ⊢
    have HBS := Lib.hid hbs; have HO := Lib.hid h
    clear hbs h hok
    go_enter Try.func11, Try.ntmps11
    go_wp2_with fail
    refine (HM.out).mono ?_
    rintro e w1 ⟨rfl, rfl⟩
    go_wp2
    go_ret
    exact ⟨rfl, by rw [HBS.out]; exact ⟨o, HO.out, Chg.refl _ _, .inl rfl⟩⟩

theorem rncost_any (n : Int) (w : World) (hn : -9223372036854775808 ≤ n ∧ n ≤ 9223372036854775807) :
    Calls Try.prog 12 #[.int .i64 n] w fun e w' => e = .returned (.int .i64 ((rnCostN n : Nat) : Int)) ∧ Chg (fun _ => False) w w' := by
  have HM := Lib.hid (rnmay_any n w)
  by_cases hok : rnOk n
  · rw [decide_eq_true hok] at HM
    obtain ⟨k, rfl⟩ := Int.eq_ofNat_of_zero_le hok.1
    have hk := hok.2
    have hb : rnCostN (k : Int) = 2 * (k / 3) + 2 := by unfold rnCostN; rw [if_pos hok, Int.toNat_natCast]
    have hq : (k : Int).tdiv 3 = ((k / 3 : Nat) : Int) := by rw [Int.tdiv_eq_ediv_of_nonneg (by omega)]; omega
    rw [hb]
    obtain ⟨q, hqe⟩ : ∃ q, k / 3 = q := ⟨_, rfl⟩
    rw [hqe] at hq ⊢
    have hq85 : q ≤ 85 := by omega
    clear hb hok hqe
    go_enter Try.func12, Try.ntmps12
    go_wp2_with fail
    refine (HM.out).mono ?_
    rintro e w1 ⟨rfl, rfl⟩
    go_wp2
    go_ret
    exact ⟨congrArg (fun z => Ending.returned (Value.int .i64 z)) (by omega), Chg.refl _ _⟩
  · have hb : rnCostN n = 0 := by unfold rnCostN; rw [if_neg hok]
    rw [decide_eq_false hok] at HM
    rw [hb]
    clear hb hok
    go_enter Try.func12, Try.ntmps12
    go_wp2_with fail
    refine (HM.out).mono ?_
    rintro e w1 ⟨rfl, rfl⟩
    go_wp2
    go_ret
    exact ⟨rfl, Chg.refl _ _⟩

/-- whether more come is what the loop asks -/
def moreN : Value → Nat
  | .bool true => 257
  | _ => 256

set_option maxHeartbeats 1000000 in
theorem rntake_any (b : Nat) (o : Option Nat) (xs : List Nat) (p : Nat) (l : Int) (w : World) (h : Rf w b o xs p) (hl : -9223372036854775808 ≤ l ∧ l ≤ 9223372036854775807) :
    Calls Try.prog 19 #[.pointer (some ⟨b, 0, none⟩), .int .i64 l] w fun e w' => e = .returned (.tuple #[.int .i64 (rnTk xs p l).1, .int .i64 (rnTk xs p l).2.1]) ∧ Rf w' b o xs (rnTk xs p l).2.2 ∧ Chg (fun k => k = b) w w' := by
  have H := Lib.hid h
  have HM := Lib.hid (rnmay_any l w)
  by_cases hok : rnOk l
  · rw [decide_eq_true hok] at HM
    obtain ⟨k, rfl⟩ := Int.eq_ofNat_of_zero_le hok.1
    have hk255 := hok.2
    have hb : rnTk xs p (k : Int) = rnGo xs k (4 * xs.length + 1) p 0 := by unfold rnTk; rw [if_pos hok, Int.toNat_natCast]
    rw [hb]
    obtain ⟨G, hG⟩ : ∃ G, rnGo xs k (4 * xs.length + 1) p 0 = G := ⟨_, rfl⟩
    rw [hG]
    have HG := Lib.hid hG; have HP0 := Lib.hid h.2.2.1
    clear hb hG h hok
    go_enter Try.func19, Try.ntmps19
    go_wp2_with fail
    refine (HM.out).mono ?_
    rintro e w1 ⟨rfl, rfl⟩
    go_wp2
    go_loopw [6, 7, 8, 9, 10] (fun o6 o7 _ _ _ wr => ∃ (q acc : Nat) (m : Bool), o6 = .int .i64 (acc : Int) ∧ o7 = .bool m ∧ acc ≤ k ∧ (m = true → ∃ f, rnGo xs k f q acc = G ∧ 8 * xs.length < q + 2 * f) ∧ (m = false → G = ((acc : Int), 0, q)) ∧ q ≤ 8 * xs.length ∧ Rf wr b o xs q ∧ Chg (fun k => k = b) w1 wr) (fun o6 o7 _ _ _ _ => moreN o7 - (intOf o6).toNat)
    case atStart => exact ⟨p, 0, true, rfl, rfl, Nat.zero_le _, fun _ => ⟨4 * xs.length + 1, HG.out, by omega⟩, fun h => by simp at h, HP0.out, H.out, Chg.refl _ _⟩
    case round =>
      obtain ⟨q, acc, m, rfl, rfl, hak, hmt, hmf, hq8, hx, hc⟩ := hrel
      cases m with
      | false =>
        have hg := hmf rfl
        have HGG := Lib.hid hg; have X := Lib.hid hx; have C := Lib.hid hc
        clear hmt hmf hg hx hc
        go_wp2
        go_ret2
        rw [HGG.out]
        exact ⟨rfl, X.out, C.out⟩
      | true =>
        obtain ⟨f, hg, hfuel⟩ := hmt rfl
        clear hmt hmf
        obtain ⟨f, rfl⟩ : ∃ f', f = f' + 1 := ⟨f - 1, by omega⟩
        have hv4 := fv_lt xs q 2
        simp only [rnGo] at hg
        have C := Lib.hid hc
        have haI : (acc : Int) ≤ 255 := by omega
        clear hc
        by_cases hh : q + 2 ≤ 8 * xs.length
        · rw [if_pos hh] at hg
          have hT := ftake_yes b o xs q 2 wr hx (by decide) hh
          obtain ⟨y, hy⟩ : ∃ y, fv xs q 2 = y := ⟨_, rfl⟩
          rw [hy] at hg hT hv4
          have hy4 : y < 4 := hv4
          have T := Lib.hid hT
          obtain ⟨s, hs⟩ : ∃ s, acc + y = s := ⟨_, rfl⟩
          have hsI : (acc : Int) + (y : Int) = (s : Int) := by omega
          rw [hs] at hg
          have HS := Lib.hid hs; have HFU := Lib.hid hfuel; have HH := Lib.hid hh
          have ME := Lib.hid fun W => rnmean_any y W hy4
          clear hT hy hs hfuel hv4 hx
          by_cases h3 : k < s
          · rw [if_pos h3] at hg
            have HGG := Lib.hid hg
            have d4 : k < s := h3
            clear hg hh h3
            go_wp2_with fail
            refine (T.out).mono ?_
            rintro e w3 ⟨rfl, hx3, hc3⟩
            have X3 := Lib.hid hx3; have C3 := Lib.hid (C.out.trans hc3 fun _ _ h => h)
            clear hx3 hc3
            go_wp2_with fail
            refine (ME.out _).mono ?_
            rintro e w4 ⟨rfl, rfl⟩
            go_wp2
            go_ret2
            rw [← HGG.out]
            exact ⟨rfl, X3.out, C3.out⟩
          · rw [if_neg h3] at hg
            have HGG := Lib.hid hg; have H3 := Lib.hid h3
            have d4 : s ≤ k := by omega
            clear hg hh h3
            go_wp2_with fail
            refine (T.out).mono ?_
            rintro e w3 ⟨rfl, hx3, hc3⟩
            have X3 := Lib.hid hx3; have C3 := Lib.hid (C.out.trans hc3 fun _ _ h => h)
            clear hx3 hc3
            go_wp2_with fail
            refine (ME.out _).mono ?_
            rintro e w4 ⟨rfl, rfl⟩
            go_wp2
            go_roundw
            case rel =>
              refine ⟨q + 2, s, decide (y = 3), rfl, rfl, d4, fun hm => ?_, fun hm => ?_, HH.out, X3.out, C3.out⟩
              · have hy3 := of_decide_eq_true hm
                have hg := HGG.out
                rw [if_neg (by omega)] at hg
                exact ⟨f, hg, by have := HFU.out; omega⟩
              · have hy3 := of_decide_eq_false hm
                have hg := HGG.out
                rw [if_pos (by omega)] at hg
                exact hg.symm
            case measure =>
              have hs := HS.out
              by_cases hy3 : y = 3
              · rw [decide_eq_true hy3]; simp [intOf, moreN]; omega
              · rw [decide_eq_false hy3]; simp [intOf, moreN]; omega
        · rw [if_neg hh] at hg
          have T := Lib.hid (ftake_no b o xs q (2 : Int) wr hx (by omega)); have HGG := Lib.hid hg; have X := Lib.hid hx
          clear hg hv4 hx hh
          go_wp2_with fail
          refine (T.out).mono ?_
          rintro e w3 ⟨rfl, hc3⟩
          have C3 := Lib.hid hc3
          clear hc3
          go_wp2
          go_ret2
          rw [← HGG.out]
          exact ⟨rfl, X.out.kept C3.out (fun h => h) (fun _ _ h => h), C.out.trans (C3.out.mono fun _ _ h => h.elim) fun _ _ h => h⟩
  · have hb : rnTk xs p l = (0, 1, p) := by unfold rnTk; rw [if_neg hok]
    rw [decide_eq_false hok] at HM
    rw [hb]
    clear hb h hok
    go_enter Try.func19, Try.ntmps19
    go_wp2_with fail
    refine (HM.out).mono ?_
    rintro e w1 ⟨rfl, rfl⟩
    go_wp2
    go_ret2
    exact ⟨rfl, H.out, Chg.refl _ _⟩

end Go.Proofs.Ythenjooffkbkpaa
