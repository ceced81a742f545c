/- What the document's own runs (puncheonref14) tell: Put, Take. -/
import Derived.Test.YthenjooffkbkpaaRnMath
import Derived.Test.YthenjooffkbkpaaBwRef
import Derived.Test.YthenjooffkbkpaaBfRef
namespace Go.Proofs.Ythenjooffkbkpaa
open Go.RowKit

theorem r14put_nat : ∀ (n : Nat), n ≤ 255 → ∀ (u : Value) (bs : List Bool) (B : Nat) (w : World), w.ownsRow B 4 1 u bs.length (bl bs) → B ≤ w.heap.size → bs.length + 2 * n < 989000 →
    Calls Try.prog 10 #[u, .int .i64 (n : Int)] w fun e w' => ∃ v', e = .returned v' ∧ w'.ownsRow B 4 1 v' (bs ++ rnB n).length (bl (bs ++ rnB n)) ∧ Chg (fun _ => False) w w' := by
  intro n
  induction n using Nat.strongRecOn with
  | ind n ih =>
    intro hn u bs B w h hB hlen
    have d1 : decide ((n : Int) < 0) = false := decide_eq_false (by omega)
    have d2 : decide (255 < (n : Int)) = false := decide_eq_false (by omega)
    by_cases h3 : n < 3
    · have d3 : decide (3 ≤ (n : Int)) = false := decide_eq_false (by omega)
      have HP := Lib.hid (rput_any u bs n 2 w ⟨B, h⟩ (by omega) (by omega) (by omega))
      rw [rnB_small h3]
      have hx : (n : Int) % 4294967296 = (n : Int) := by omega
      have HB := Lib.hid hB
      clear h hlen ih h3 hB
      go_enter Try.func10, Try.ntmps10
      go_wp2_with fail
      refine (HP.out).mono ?_
      rintro e w2 ⟨v2, rfl, ho2, hc2⟩
      have HO2 := Lib.hid ho2; have HC2 := Lib.hid hc2
      clear ho2 hc2
      go_wp2
      go_ret
      exact ⟨_, rfl, ownsRow_mono HO2.out HB.out, HC2.out⟩
    · have d3 : decide (3 ≤ (n : Int)) = true := decide_eq_true (by omega)
      obtain ⟨k, rfl⟩ : ∃ k, n = k + 3 := ⟨n - 3, by omega⟩
      have HP := Lib.hid (rput_any u bs 3 2 w ⟨B, h⟩ (by omega) (by omega) (by omega))
      have IH := Lib.hid fun (v : Value) (W : World) (hv : W.ownsRow w.heap.size 4 1 v (bs ++ bitsOf 3 2).length (bl (bs ++ bitsOf 3 2))) (hW : w.heap.size ≤ W.heap.size) => ih k (by omega) (by omega) v (bs ++ bitsOf 3 2) B W (ownsRow_mono hv hB) (by omega) (by rw [List.length_append, bitsOf_length]; omega)
      have hk : ((k + 3 : Nat) : Int) - 3 = (k : Int) := by omega
      obtain ⟨n, hne⟩ : ∃ n : Int, ((k + 3 : Nat) : Int) = n := ⟨_, rfl⟩
      rw [hne] at d1 d2 d3 hk ⊢
      have hnb : 3 ≤ n ∧ n ≤ 255 := by omega
      have hrn : bs ++ rnB (k + 3) = bs ++ bitsOf 3 2 ++ rnB k := by rw [List.append_assoc]; rfl
      rw [hrn]
      clear h hlen ih h3 hne hB hrn hn
      go_enter Try.func10, Try.ntmps10
      go_wp2_with fail
      refine (HP.out).mono ?_
      rintro e w2 ⟨v2, rfl, ho2, hc2⟩
      have IH2 := Lib.hid (IH.out v2 w2 ho2 hc2.size); have HC2 := Lib.hid hc2
      clear ho2 hc2 IH
      go_wp2_with fail
      refine (IH2.out).mono ?_
      rintro e w3 ⟨v3, rfl, ho3, hc3⟩
      have HO3 := Lib.hid ho3; have HC3 := Lib.hid (HC2.out.trans hc3 fun _ _ h => h)
      clear ho3 hc3
      go_wp2
      go_ret
      exact ⟨_, rfl, HO3.out, HC3.out⟩

theorem r14put_any (u : Value) (bs : List Bool) (n : Int) (B : Nat) (w : World) (h : w.ownsRow B 4 1 u bs.length (bl bs)) (hB : B ≤ w.heap.size) (hlen : bs.length < 988000) :
    Calls Try.prog 10 #[u, .int .i64 n] w fun e w' => ∃ v', e = .returned v' ∧ w'.ownsRow B 4 1 v' (rnPutB bs n).length (bl (rnPutB bs n)) ∧ Chg (fun _ => False) w w' := by
  by_cases hok : rnOk n
  · obtain ⟨k, rfl⟩ := Int.eq_ofNat_of_zero_le hok.1
    have h2 := hok.2
    have := r14put_nat k (by omega) u bs B w h hB (by omega)
    unfold rnPutB
    rw [if_pos hok, Int.toNat_natCast]
    exact this
  · unfold rnPutB
    rw [if_neg hok]
    have HO := Lib.hid h
    by_cases h1 : n < 0
    · have d1 : decide (n < 0) = true := decide_eq_true h1
      clear h hok
      go_enter Try.func10, Try.ntmps10
      go_wp2
      go_ret
      exact ⟨_, rfl, HO.out, Chg.refl _ _⟩
    · have d1 : decide (n < 0) = false := decide_eq_false h1
      have d2 : decide (255 < n) = true := decide_eq_true (by unfold rnOk at hok; omega)
      clear h hok
      go_enter Try.func10, Try.ntmps10
      go_wp2
      go_ret
      exact ⟨_, rfl, HO.out, Chg.refl _ _⟩

set_option maxHeartbeats 1000000 in
theorem r14take_any (b : Nat) (o : Option Nat) (xs : List Nat) (p : Nat) (l : Int) (w : World) (h : Xr w b o (bitsB xs) p) :
    Calls Try.prog 20 #[.pointer (some ⟨b, 0, none⟩), .int .i64 l] w fun e w' => e = .returned (.tuple #[.int .i64 (rnTk xs p l).1, .int .i64 (rnTk xs p l).2.1]) ∧ Xr w' b o (bitsB xs) (rnTk xs p l).2.2 ∧ Chg (fun k => k = b) w w' := by
  have H := Lib.hid h
  by_cases h1 : l < 0
  · have d1 : decide (l < 0) = true := decide_eq_true h1
    have hb : rnTk xs p l = (0, 1, p) := by unfold rnTk; rw [if_neg (fun hh => by have := hh.1; omega)]
    rw [hb]
    clear hb h
    go_enter Try.func20, Try.ntmps20
    go_wp2
    go_ret2
    exact ⟨rfl, H.out, Chg.refl _ _⟩
  · have d1 : decide (l < 0) = false := decide_eq_false h1
    by_cases h2 : 255 < l
    · have d2 : decide (255 < l) = true := decide_eq_true h2
      have hb : rnTk xs p l = (0, 1, p) := by unfold rnTk; rw [if_neg (fun hh => by have := hh.2; omega)]
      rw [hb]
      clear hb h
      go_enter Try.func20, Try.ntmps20
      go_wp2
      go_ret2
      exact ⟨rfl, H.out, Chg.refl _ _⟩
    · have d2 : decide (255 < l) = false := decide_eq_false h2
      obtain ⟨k, rfl⟩ := Int.eq_ofNat_of_zero_le (show 0 ≤ l by omega)
      have hb : rnTk xs p (k : Int) = rnGo xs k (4 * xs.length + 1) p 0 := by unfold rnTk; rw [if_pos ⟨by omega, by omega⟩, Int.toNat_natCast]
      rw [hb]
      obtain ⟨G, hG⟩ : ∃ G, rnGo xs k (4 * xs.length + 1) p 0 = G := ⟨_, rfl⟩
      rw [hG]
      have HG := Lib.hid hG
      have hp0 := h.2.1
      rw [bitsB_length] at hp0
      have HP0 := Lib.hid hp0
      have hk255 : (k : Int) ≤ 255 := by omega
      clear hb hG h hp0
      go_enter Try.func20, Try.ntmps20
      go_wp2
      go_loopw [6, 7, 8] (fun o6 _ _ wr => ∃ (f q acc : Nat), o6 = .int .i64 (acc : Int) ∧ acc ≤ k ∧ rnGo xs k f q acc = G ∧ q ≤ 8 * xs.length ∧ 8 * xs.length < q + 2 * f ∧ Xr wr b o (bitsB xs) q ∧ Chg (fun k => k = b) w wr) (fun o6 _ _ _ => 256 - (intOf o6).toNat)
      case atStart => exact ⟨4 * xs.length + 1, p, 0, rfl, Nat.zero_le _, HG.out, HP0.out, by omega, H.out, Chg.refl _ _⟩
      case round =>
        obtain ⟨f, q, acc, rfl, hak, hg, hq8, hfuel, hx, hc⟩ := hrel
        obtain ⟨f, rfl⟩ : ∃ f', f = f' + 1 := ⟨f - 1, by omega⟩
        have hT := xtake_f b o xs q 2 wr hx
        have hftk : ftk xs q 2 = if q + 2 ≤ 8 * xs.length then (fv xs q 2, true, q + 2) else (0, false, q) := by
          unfold ftk
          by_cases hh : q + 2 ≤ 8 * xs.length
          · rw [if_pos (by omega), if_pos hh]; rfl
          · rw [if_neg (by omega), if_neg hh]
        have hv4 := fv_lt xs q 2
        simp only [rnGo] at hg
        have C := Lib.hid hc
        have haI : (acc : Int) ≤ 255 := by omega
        clear hc hx
        by_cases hh : q + 2 ≤ 8 * xs.length
        · rw [if_pos hh] at hg hftk
          rw [hftk] at hT
          obtain ⟨y, hy⟩ : ∃ y, fv xs q 2 = y := ⟨_, rfl⟩
          rw [hy] at hg hT hv4
          have hy4 : (y : Int) < 4 := by omega
          have T := Lib.hid hT
          obtain ⟨s, hs⟩ : ∃ s, acc + y = s := ⟨_, rfl⟩
          have hsI : (acc : Int) + (y : Int) = (s : Int) := by omega
          rw [hs] at hg
          have HS := Lib.hid hs; have HFU := Lib.hid hfuel; have HH := Lib.hid hh; have HY4 := Lib.hid hv4
          clear hT hftk hy hs hfuel hv4
          by_cases h3 : k < s
          · rw [if_pos h3] at hg
            have HGG := Lib.hid hg
            have d4 : k < s := h3
            clear hg hh h3
            go_wp2_with fail
            refine (T.out).mono ?_
            rintro e w3 ⟨rfl, hx3, hc3⟩
            have X3 := Lib.hid hx3; have C3 := Lib.hid (C.out.trans hc3 fun _ _ h => h)
            clear hx3 hc3
            go_wp2
            go_ret2
            rw [← HGG.out]
            exact ⟨rfl, X3.out, C3.out⟩
          · rw [if_neg h3] at hg
            by_cases h4 : y < 3
            · rw [if_pos h4] at hg
              have HGG := Lib.hid hg
              have d5 : decide ((y : Int) < 3) = true := decide_eq_true (by omega)
              clear hg hh
              go_wp2_with fail
              refine (T.out).mono ?_
              rintro e w3 ⟨rfl, hx3, hc3⟩
              have X3 := Lib.hid hx3; have C3 := Lib.hid (C.out.trans hc3 fun _ _ h => h)
              clear hx3 hc3
              go_wp2
              go_ret2
              rw [← HGG.out]
              exact ⟨rfl, X3.out, C3.out⟩
            · rw [if_neg h4] at hg
              have HGG := Lib.hid hg
              have d5 : decide ((y : Int) < 3) = false := decide_eq_false (by omega)
              have H3 := Lib.hid h3; have H4 := Lib.hid h4
              clear hg hh
              go_wp2_with fail
              refine (T.out).mono ?_
              rintro e w3 ⟨rfl, hx3, hc3⟩
              have X3 := Lib.hid hx3; have C3 := Lib.hid (C.out.trans hc3 fun _ _ h => h)
              clear hx3 hc3
              go_wp2
              go_roundw
              case rel => exact ⟨f, q + 2, s, rfl, by have := H3.out; omega, HGG.out, HH.out, by have := HFU.out; omega, X3.out, C3.out⟩
              case measure => simp [intOf]; have := HS.out; have := H3.out; have := H4.out; omega
        · rw [if_neg hh] at hg hftk
          rw [hftk] at hT
          have T := Lib.hid hT; have HGG := Lib.hid hg
          clear hT hftk hg hv4
          go_wp2_with fail
          refine (T.out).mono ?_
          rintro e w3 ⟨rfl, hx3, hc3⟩
          have X3 := Lib.hid hx3; have C3 := Lib.hid (C.out.trans hc3 fun _ _ h => h)
          clear hx3 hc3
          go_wp2
          go_ret2
          rw [← HGG.out]
          exact ⟨rfl, X3.out, C3.out⟩

end Go.Proofs.Ythenjooffkbkpaa
