/- What the document's own numbers (puncheonref13) tell: Can, Put, Take. -/
import Derived.Test.YtgnenelfbmpfgaaBgMath
import Derived.Test.YtgnenelfbmpfgaaBwRef
import Derived.Test.YtgnenelfbmpfgaaBfRef
import Derived.Test.YtgnenelfbmpfgaaLgRef
namespace Go.Proofs.Ytgnenelfbmpfgaa
open Go.RowKit

theorem r13can_any (v l : Int) (w : World) : Calls Try.prog 10 #[.int .i64 v, .int .i64 l] w fun e w' => e = .returned (.bool (decide (bCan v l))) ∧ w' = w := by
  by_cases h1 : 1 ≤ l
  · have d1 : decide (1 ≤ l) = true := decide_eq_true h1
    by_cases h2 : l ≤ 4096
    · have d2 : decide (l ≤ 4096) = true := decide_eq_true h2
      by_cases h3 : 0 ≤ v
      · have d3 : decide (0 ≤ v) = true := decide_eq_true h3
        have hd : decide (bCan v l) = decide (v ≤ l) := decide_eq_decide.2 ⟨fun h => h.2.2.2, fun h => ⟨h1, h2, h3, h⟩⟩
        rw [hd]
        clear hd
        go_enter Try.func10, Try.ntmps10
        go_wp2
        go_ret
        exact ⟨rfl, rfl⟩
      · have d3 : decide (0 ≤ v) = false := decide_eq_false h3
        have hd : decide (bCan v l) = false := decide_eq_false fun h => h3 h.2.2.1
        rw [hd]
        clear hd
        go_enter Try.func10, Try.ntmps10
        go_wp2
        go_ret
        exact ⟨rfl, rfl⟩
    · have d2 : decide (l ≤ 4096) = false := decide_eq_false h2
      have hd : decide (bCan v l) = false := decide_eq_false fun h => h2 h.2.1
      rw [hd]
      clear hd
      go_enter Try.func10, Try.ntmps10
      go_wp2
      go_ret
      exact ⟨rfl, rfl⟩
  · have d1 : decide (1 ≤ l) = false := decide_eq_false h1
    have hd : decide (bCan v l) = false := decide_eq_false fun h => h1 h.1
    rw [hd]
    clear hd
    go_enter Try.func10, Try.ntmps10
    go_wp2
    go_ret
    exact ⟨rfl, rfl⟩

theorem r13put_any (u : Value) (bs : List Bool) (v l : Int) (B : Nat) (w : World) (h : w.ownsRow B 4 1 u bs.length (bl bs)) (hB : B ≤ w.heap.size) (hlen : bs.length < 990000) :
    Calls Try.prog 11 #[u, .int .i64 v, .int .i64 l] w fun e w' => ∃ v', e = .returned v' ∧ w'.ownsRow B 4 1 v' (bgPutB bs v l).length (bl (bgPutB bs v l)) ∧ Chg (fun _ => False) w w' := by
  have HC := Lib.hid (r13can_any v l w)
  by_cases hc : bCan v l
  · obtain ⟨h1, h2, h3, h4⟩ := hc
    have hw := width_13 h1 h2
    have HW := Lib.hid (r7width_any l w (by omega) (by omega))
    have hbs : bgPutB bs v l = bs ++ bitsOf v.toNat (widthI l) := by unfold bgPutB; rw [if_pos ⟨h1, h2, h3, h4⟩]
    rw [decide_eq_true (show bCan v l from ⟨h1, h2, h3, h4⟩)] at HC
    obtain ⟨x, rfl⟩ := Int.eq_ofNat_of_zero_le h3
    rw [Int.toNat_natCast] at hbs
    have HP := Lib.hid (rput_any u bs x (widthI l) w ⟨B, h⟩ (by omega) (by omega) (by omega))
    have hx : (x : Int) % 4294967296 = (x : Int) := by omega
    obtain ⟨n, hn⟩ : ∃ n, widthI l = n := ⟨_, rfl⟩
    rw [hn] at HW HP hbs
    have HBS := Lib.hid hbs; have HB := Lib.hid hB
    clear hbs hn h hw hlen hB
    go_enter Try.func11, Try.ntmps11
    go_wp2_with fail
    refine (HC.out).mono ?_
    rintro e w1 ⟨rfl, rfl⟩
    go_wp2_with fail
    refine (HW.out).mono ?_
    rintro e w1 ⟨rfl, rfl⟩
    go_wp2_with fail
    refine (HP.out).mono ?_
    rintro e w2 ⟨v2, rfl, ho2, hc2⟩
    have HO2 := Lib.hid ho2; have HC2 := Lib.hid hc2
    clear ho2 hc2
    go_wp2
    go_ret
    exact ⟨_, rfl, by rw [HBS.out]; exact ownsRow_mono HO2.out HB.out, HC2.out⟩
  · have hbs : bgPutB bs v l = bs := by unfold bgPutB; rw [if_neg hc]
    rw [decide_eq_false hc] at HC
    have HBS := Lib.hid hbs; have HO := Lib.hid h
    clear hbs h hc
    go_enter Try.func11, Try.ntmps11
    go_wp2_with fail
    refine (HC.out).mono ?_
    rintro e w1 ⟨rfl, rfl⟩
    go_wp2
    go_ret
    exact ⟨_, rfl, by rw [HBS.out]; exact HO.out, Chg.refl _ _⟩

theorem r13take_any (b : Nat) (o : Option Nat) (xs : List Nat) (p : Nat) (l : Int) (w : World) (h : Xr w b o (bitsB xs) p) (hl : -9223372036854775808 ≤ l) :
    Calls Try.prog 21 #[.pointer (some ⟨b, 0, none⟩), .int .i64 l] w fun e w' => e = .returned (.tuple #[.int .i64 (bgTk xs p l).1, .int .i64 (bgTk xs p l).2.1]) ∧ Xr w' b o (bitsB xs) (bgTk xs p l).2.2 ∧ Chg (fun k => k = b) w w' := by
  have H := Lib.hid h
  clear h
  by_cases h1 : 1 ≤ l
  · by_cases h2 : l ≤ 4096
    · have d1 : decide (l < 1) = false := decide_eq_false (by omega)
      have d2 : decide (4096 < l) = false := decide_eq_false (by omega)
      have hw := width_13 h1 h2
      have HW := Lib.hid (r7width_any l w (by omega) (by omega))
      obtain ⟨n, hn⟩ : ∃ n, widthI l = n := ⟨_, rfl⟩
      have hb : bgTk xs p l = if p + n ≤ 8 * xs.length then (if ((fv xs p n : Nat) : Int) ≤ l then (((fv xs p n : Nat) : Int), 0, p + n) else (0, 13, p + n)) else (0, 3, p) := by unfold bgTk; rw [if_pos ⟨h1, h2⟩, hn]
      rw [hn] at HW hw
      have HT := Lib.hid (xtake_f b o xs p (n : Int) w H.out)
      have hftk : ftk xs p (n : Int) = if p + n ≤ 8 * xs.length then (fv xs p n, true, p + n) else (0, false, p) := by
        unfold ftk
        by_cases hh : p + n ≤ 8 * xs.length
        · rw [if_pos (by omega), if_pos hh, Int.toNat_natCast]
        · rw [if_neg (by omega), if_neg hh]
      have hfv := fv_lt xs p n
      by_cases hh : p + n ≤ 8 * xs.length
      · rw [if_pos hh] at hb hftk
        rw [hftk] at HT
        obtain ⟨f, hf⟩ : ∃ f, fv xs p n = f := ⟨_, rfl⟩
        rw [hf] at hb HT hfv
        have hf13 : f < 8192 := Nat.lt_of_lt_of_le hfv (by have := pow_le hw.2.1; have : (2 : Nat) ^ 13 = 8192 := by decide
                                                           omega)
        by_cases hle : (f : Int) ≤ l
        · rw [if_pos hle] at hb
          rw [hb]
          have d3 : decide (l < (f : Int)) = false := decide_eq_false (by omega)
          clear hb hftk hf hfv hw hn
          go_enter Try.func21, Try.ntmps21
          go_wp2_with fail
          refine (HW.out).mono ?_
          rintro e w1 ⟨rfl, rfl⟩
          go_wp2_with fail
          refine (HT.out).mono ?_
          rintro e w2 ⟨rfl, hx2, hc2⟩
          have HX2 := Lib.hid hx2; have HC2 := Lib.hid hc2
          clear hx2 hc2
          go_wp2
          go_ret2
          exact ⟨rfl, HX2.out, HC2.out⟩
        · rw [if_neg hle] at hb
          rw [hb]
          have d3 : decide (l < (f : Int)) = true := decide_eq_true (by omega)
          clear hb hftk hf hfv hw hn
          go_enter Try.func21, Try.ntmps21
          go_wp2_with fail
          refine (HW.out).mono ?_
          rintro e w1 ⟨rfl, rfl⟩
          go_wp2_with fail
          refine (HT.out).mono ?_
          rintro e w2 ⟨rfl, hx2, hc2⟩
          have HX2 := Lib.hid hx2; have HC2 := Lib.hid hc2
          clear hx2 hc2
          go_wp2
          go_ret2
          exact ⟨rfl, HX2.out, HC2.out⟩
      · rw [if_neg hh] at hb hftk
        rw [hftk] at HT
        rw [hb]
        clear hb hftk hfv hw hn
        go_enter Try.func21, Try.ntmps21
        go_wp2_with fail
        refine (HW.out).mono ?_
        rintro e w1 ⟨rfl, rfl⟩
        go_wp2_with fail
        refine (HT.out).mono ?_
        rintro e w2 ⟨rfl, hx2, hc2⟩
        have HX2 := Lib.hid hx2; have HC2 := Lib.hid hc2
        clear hx2 hc2
        go_wp2
        go_ret2
        exact ⟨rfl, HX2.out, HC2.out⟩
    · have d1 : decide (l < 1) = false := decide_eq_false (by omega)
      have d2 : decide (4096 < l) = true := decide_eq_true (by omega)
      have hb : bgTk xs p l = (0, 1, p) := by unfold bgTk; rw [if_neg (by omega)]
      rw [hb]
      clear hb
      go_enter Try.func21, Try.ntmps21
      go_wp2
      go_ret2
      exact ⟨rfl, H.out, Chg.refl _ _⟩
  · have d1 : decide (l < 1) = true := decide_eq_true (by omega)
    have hb : bgTk xs p l = (0, 1, p) := by unfold bgTk; rw [if_neg (by omega)]
    rw [hb]
    clear hb
    go_enter Try.func21, Try.ntmps21
    go_wp2
    go_ret2
    exact ⟨rfl, H.out, Chg.refl _ _⟩

end Go.Proofs.Ytgnenelfbmpfgaa
