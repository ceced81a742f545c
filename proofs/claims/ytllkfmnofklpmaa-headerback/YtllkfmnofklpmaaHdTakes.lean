/- HeaderTakes' walk. -/
import Derived.Test.YtllkfmnofklpmaaBase3
import Derived.Test.YtllkfmnofklpmaaRnTakes
namespace Go.Proofs.Ytllkfmnofklpmaa
open Go.RowKit

theorem hdTk_len (xs : List Nat) : ∀ (fu p left s : Nat) (z : Bool) (q : List Int), q.length = 256 → (hdTk xs fu p left s z q).1.length = 256 ∨ (hdTk xs fu p left s z q).1 = [] := by
  intro fu
  induction fu with
  | zero => intro p left s z q _; exact .inr rfl
  | succ fu ih =>
    intro p left s z q hq
    simp only [hdTk]
    by_cases c1 : left = 0
    · rw [if_pos c1]; exact .inl hq
    rw [if_neg c1]
    by_cases c2 : 255 < s
    · rw [if_pos c2]; exact .inr rfl
    rw [if_neg c2]
    by_cases c3 : (bgTk xs p (left : Int)).2.1 ≠ 0
    · rw [if_pos c3]; exact .inr rfl
    rw [if_neg c3]
    by_cases c4 : (bgTk xs p (left : Int)).1 = 0
    · rw [if_pos c4]
      by_cases c5 : z = true
      · rw [if_pos c5]; exact .inr rfl
      rw [if_neg c5]
      by_cases c6 : 255 < s + 1
      · rw [if_pos c6]; exact .inr rfl
      rw [if_neg c6]
      by_cases c7 : (rnTk xs (bgTk xs p (left : Int)).2.2 (255 - ((s + 1 : Nat) : Int))).2.1 ≠ 0
      · rw [if_pos c7]; exact .inr rfl
      rw [if_neg c7]
      exact ih _ _ _ _ _ (by rw [List.length_set]; exact hq)
    · rw [if_neg c4]
      exact ih _ _ _ _ _ (by rw [List.length_set]; exact hq)
theorem hdRes_len (xs : List Nat) (p : Nat) (l : Int) : (hdRes xs p l).1.length < 100000000000 := by
  unfold hdRes
  by_cases h : 1 ≤ l ∧ l ≤ 12
  · rw [if_pos h]
    rcases hdTk_len xs 257 p (2 ^ l.toNat) 0 false (List.replicate 256 0) List.length_replicate with h | h
    · omega
    · rw [h]; simp
  · rw [if_neg h]; simp

set_option maxHeartbeats 2000000 in
theorem headerTakes_walk (v : Value) (xs : List Nat) (l : Int) (w : World) (h : RdB w v xs) (hxs : ∀ y ∈ xs, y < 256) (hl : -9223372036854775808 ≤ l ∧ l ≤ 9223372036854775807) :
    Calls Try.prog 4 #[v, .int .i64 l] w fun e w' => e = .returned (.bool true) ∧ Chg (fun _ => False) w w' := by
  obtain ⟨ao, cap, rfl⟩ := h.form
  have H := Lib.hid h; have HXS := Lib.hid hxs; have HL := Lib.hid hl
  clear h hxs hl
  by_cases hbig : 600 < xs.length
  · have hb' : decide (600 < (xs.length : Int)) = true := decide_eq_true (by omega)
    go_enter Try.func4, Try.ntmps4
    go_wp2_with fail
    refine (awake15_any w).mono ?_
    rintro e w1 ⟨rfl, hc1⟩
    go_wp2
    go_ret
    exact ⟨rfl, hc1⟩
  have hb' : decide (600 < (xs.length : Int)) = false := decide_eq_false (by omega)
  go_enter Try.func4, Try.ntmps4
  go_wp2_with fail
  refine (awake15_any w).mono ?_
  rintro e w1 ⟨rfl, hc1⟩
  have h1 := H.out.kept hc1 (by simp)
  have z1 := hc1.size
  go_wp2_with fail
  refine (fnew_any _ xs w1 h1 (by omega) HXS.out).mono ?_
  rintro e w2 ⟨b, o, rfl, r2, ab, hc2⟩
  have h2 := h1.kept hc2 (by simp)
  have hc2' := hc1.trans hc2 (fun _ _ h => h)
  have hl2 := r2.lt
  go_wp2_with fail
  refine (xnew_any _ xs w2 h2 (by omega) HXS.out).mono ?_
  rintro e w3 ⟨b', o', rfl, x3, ab', hc3⟩
  have r3 := r2.kept hc3 (by simp) (by simp)
  have hc3' := hc2'.trans hc3 (fun _ _ h => h)
  have HD : Hid (b' ≠ b ∧ (∀ q, o' = some q → ¬ q = b) ∧ b ≠ b' ∧ (∀ q, o = some q → ¬ q = b')) := by
    refine Lib.hid ⟨by have := ab'.1; omega, fun q hq => by have := ab'.2 q hq; omega, by have := ab'.1; omega, fun q hq => by have := (hl2.2 q hq).1; have := ab'.1; omega⟩
  have HB : Hid (w.heap.size ≤ b ∧ w.heap.size ≤ b') := Lib.hid ⟨by have := ab.1; omega, by have := ab'.1; have := hc2'.size; omega⟩
  have HB3 := Lib.hid (show b' < w3.heap.size from x3.lt.1)
  have T1 := Lib.hid (hdtake_any b o xs 0 l w3 r3 HL.out)
  have T2 := Lib.hid fun W (hX : Xr W b' o' (bitsB xs) 0) => r15take_any b' o' xs 0 l W hX
  have hle := hdRes_len xs 0 l
  obtain ⟨R, hR⟩ : ∃ R, hdRes xs 0 l = R := ⟨_, rfl⟩
  rw [hR] at T1 T2 hle
  obtain ⟨Q, er, p⟩ := R
  simp only [] at T1 T2 hle
  have X3 := Lib.hid x3; have C3 := Lib.hid hc3'; have HLE := Lib.hid hle
  clear h1 h2 hc1 hc2 hc3 hc2' r2 ab ab' hl2 z1 r3 x3 hc3' hR hle
  go_wp2_with fail
  refine (T1.out).mono ?_
  rintro e w5 ⟨v5, rfl, q5, f5, -, r5, hc5⟩
  have C5 := Lib.hid (C3.out.trans hc5 (S := fun _ => False) (fun i hi (hh : i = b) => by have := HB.out.1; omega))
  have T3 := Lib.hid (T2.out w5 (X3.out.kept hc5 HD.out.1 HD.out.2.1))
  have R5 := Lib.hid r5; have Q5 := Lib.hid q5; have F5 := Lib.hid f5
  clear r5 q5 f5 hc5 T1 T2 X3 C3
  go_wp2_with fail
  refine (T3.out).mono ?_
  rintro e w6 ⟨v6, rfl, q6, x6, hc6⟩
  have C6 := Lib.hid (C5.out.trans hc6 (S := fun _ => False) (fun i hi (hh : i = b') => by have := HB.out.2; omega))
  have R6 := Lib.hid (R5.out.kept hc6 HD.out.2.2.1 HD.out.2.2.2)
  have Q56 := Lib.hid (Q5.out.kept hc6 (fun k hk (hh : k = b') => by have := F5.out k hk; have := HB3.out; omega))
  have Q6 := Lib.hid q6; have X6 := Lib.hid x6
  clear q6 x6 hc6 T3 R5 Q5 C5
  have IN := Lib.hid (ints_any v5 v6 Q Q w6 Q56.out Q6.out HLE.out HLE.out)
  rw [decide_eq_true (rfl : Q = Q)] at IN
  go_wp2_with fail
  refine (IN.out).mono ?_
  rintro e w7 ⟨rfl, m, rfl⟩
  have c7 : Chg (fun _ => False) w6 (w6.drewN m) := (Chg.refl _ _).drewN m
  have R7 := Lib.hid (R6.out.kept c7 (by simp) (by simp)); have X7 := Lib.hid (X6.out.kept c7 (by simp) (by simp)); have C7 := Lib.hid (C6.out.trans c7 fun _ _ h => h)
  clear c7 IN R6 X6 C6 Q56 Q6
  obtain ⟨L, hL⟩ : ∃ L, 8 * xs.length - p = L := ⟨_, rfl⟩
  have HLL := Lib.hid hL
  clear hL
  go_wp2_with fail
  refine (fleft_any b o xs p _ R7.out).mono ?_
  rintro e w8 ⟨rfl, hc8⟩
  rw [HLL.out]
  have X8 := Lib.hid (X7.out.kept hc8 (by simp) (by simp)); have C8 := Lib.hid (C7.out.trans hc8 (fun _ _ h => h))
  clear hc8 X7 C7
  go_wp2_with fail
  refine (xleft_x b' o' xs p w8 X8.out).mono ?_
  rintro e w9 ⟨rfl, hc9⟩
  rw [HLL.out]
  have C9 := Lib.hid (C8.out.trans hc9 (fun _ _ h => h))
  clear hc9 X8 C8
  go_wp2
  go_ret
  exact ⟨rfl, C9.out⟩

end Go.Proofs.Ytllkfmnofklpmaa
