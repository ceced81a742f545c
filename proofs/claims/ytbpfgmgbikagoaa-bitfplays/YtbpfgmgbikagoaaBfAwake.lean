/- What puncheonlaw03.awake tells: the chapter's example holds. -/
import Derived.Test.YtbpfgmgbikagoaaBfRest
namespace Go.Proofs.Ytbpfgmgbikagoaa
open Go.RowKit

theorem same_eq (v1 v2 : Value) (xs : List Nat) (w : World) (h1 : RdB w v1 xs) (h2 : RdB w v2 xs) (hx : ∀ x ∈ xs, x < 256) :
    Calls Try.prog 16 #[v1, v2] w fun e w' => e = .returned (.bool true) ∧ w = w' := by
  refine (same_any v1 v2 xs xs w h1 h2 hx hx).mono ?_
  rintro e w' ⟨rfl, rfl⟩
  exact ⟨by simp, rfl⟩

theorem fleft_w (b : Nat) (o : Option Nat) (xs : List Nat) (q : Nat) (w : World) (h : Rf w b o xs (8 * q)) :
    Calls Try.prog 14 #[.pointer (some ⟨b, 0, none⟩)] w fun e w' => e = .returned (.int .i64 (8 * ((xs.length : Int) - (q : Int)))) ∧ Chg (fun _ => False) w w' := by
  have hp := h.2.2.1
  refine (fleft_any b o xs (8 * q) w h).mono ?_
  rintro e w' ⟨rfl, hc⟩
  exact ⟨congrArg (fun z => Ending.returned (Value.int .i64 z)) (by omega), hc⟩

theorem frest_q (b : Nat) (o : Option Nat) (xs : List Nat) (p q : Nat) (w : World) (h : Rf w b o xs p) (hq : (p + 7) / 8 = q) :
    Calls Try.prog 17 #[.pointer (some ⟨b, 0, none⟩)] w fun e w' => ∃ v', e = .returned v' ∧ RdB w' v' (xs.drop q) ∧ Chg (fun _ => False) w w' := by
  subst hq
  refine (frest_any b o xs p w h).mono ?_
  rintro e w' ⟨v', rfl, ho, hc⟩
  exact ⟨v', rfl, RdB.of_own ho, hc⟩

theorem ftake_in (b : Nat) (o : Option Nat) (xs : List Nat) (p : Nat) (n : Int) (w : World) (h : Rf w b o xs p) (hn0 : 0 ≤ n) (hn : n ≤ 24) (hl : (p : Int) + n ≤ 8 * xs.length) :
    Calls Try.prog 12 #[.pointer (some ⟨b, 0, none⟩), .int .i64 n] w fun e w' => e = .returned (.tuple #[.int .u32 ((fv xs p n.toNat : Nat) : Int), .bool true]) ∧ Rf w' b o xs (p + n.toNat) ∧ Chg (fun k => k = b) w w' := by
  obtain ⟨m, rfl⟩ := Int.eq_ofNat_of_zero_le hn0
  exact ftake_yes b o xs p m w h (by omega) (by omega)

theorem ex_fv : fv [13, 7] 0 (3 : Int).toNat = 5 ∧ fv [13, 7] 3 (2 : Int).toNat = 1 := by decide +kernel
theorem ex_clear : Clear [13, 7] 5 := by
  intro j h1 h2
  have : j = 5 ∨ j = 6 ∨ j = 7 := by omega
  rcases this with rfl | rfl | rfl <;> decide
theorem str7 : ((strB [7]).toList == [7]) = true := by decide +kernel

theorem two_rdb (w : World) (x y : Nat) : RdB (w.alloc (.cells #[.int .u8 (x : Int), .int .u8 (y : Int)] 5)) (.slice (some ⟨w.heap.size, 0, none⟩) 2 2) [x, y] := by
  refine .inr ⟨w.heap.size, 0, 2, rfl, fun j hj => ?_⟩
  have : j = 0 ∨ j = 1 := by simp at hj; omega
  rcases this with rfl | rfl <;> (rw [cell_of_row _ _ _ _ _ _ (heap_alloc_new w _)]; rfl)

/-- bytes of a slice that the call owns, whatever their address -/
theorem own_slice {w : World} {base : Nat} {v : Value} {n : Nat} {xs : List Value} (h : w.ownsRow base 5 1 v n xs) : ∃ ao cap, v = .slice ao n cap := by
  obtain ⟨ao, cap, hv, _⟩ := own_src h
  exact ⟨ao, cap, hv⟩

set_option maxHeartbeats 1000000 in
theorem awake3_any (w : World) : Calls Try.prog 7 #[] w fun e w' => e = .returned (.bool true) ∧ Chg (fun _ => False) w w' := by
  have H1 := Lib.hid (two_rdb w 13 7)
  have HC1 := Lib.hid (Chg.alloc (fun _ => False) w (.cells #[.int .u8 ((13 : Nat) : Int), .int .u8 ((7 : Nat) : Int)] 5))
  go_enter Try.func7, Try.ntmps7
  go_wp2_with fail
  refine (fnew_any _ [13, 7] _ H1.out (by decide) (by decide)).mono ?_
  rintro e w1 ⟨b, o, rfl, h1, ha, hc1⟩
  have hc1' : Chg (fun _ => False) w w1 := HC1.out.trans hc1 (fun _ _ h => h)
  have z1 : w.heap.size ≤ b := by have := HC1.out.size; have := ha.1; omega
  clear hc1 H1 HC1 ha
  go_wp2_with fail
  refine (ftake_in b o _ 0 3 w1 h1 (by decide) (by decide) (by decide)).mono ?_
  rintro e w3 ⟨rfl, h3, hc3⟩
  have hc3' : Chg (fun _ => False) w w3 := hc1'.trans hc3 (fun k hk h => by omega)
  rw [ex_fv.1]
  clear hc3 h1 hc1'
  go_wp2_with fail
  refine (ftake_in b o _ 3 2 w3 h3 (by decide) (by decide) (by decide)).mono ?_
  rintro e w4 ⟨rfl, h4, hc4⟩
  have hc4' : Chg (fun _ => False) w w4 := hc3'.trans hc4 (fun k hk h => by omega)
  rw [ex_fv.2]
  clear hc4 h3 hc3'
  go_wp2_with fail
  refine (fpad_any b o _ 5 w4 h4).mono ?_
  rintro e w5 (⟨-, rfl, h5, hc5⟩ | ⟨hno, -, -⟩)
  · have hc5' : Chg (fun _ => False) w w5 := hc4'.trans hc5 (fun k hk h => by omega)
    clear hc5 h4 hc4'
    go_wp2_with fail
    refine (frest_any b o _ 8 w5 h5).mono ?_
    rintro e w6 ⟨v6, rfl, ho6, hc6⟩
    have hc6' := hc5'.trans hc6 (fun _ _ h => h)
    have h6 := h5.kept hc6 (by simp) (by simp)
    replace ho6 : w6.ownsRow w5.heap.size 5 1 v6 1 (bv [7]) := ho6
    have r6 := run_conv (RdB.of_own ho6)
    have e6 := str7
    obtain ⟨ao, cap, hv⟩ := own_slice ho6
    subst hv
    clear ho6 hc6 h5 hc5'
    go_wp2_with fail
    refine (fleft_any b o _ 8 w6 h6).mono ?_
    rintro e w7 ⟨rfl, hc7⟩
    have hc7' := hc6'.trans hc7 (fun _ _ h => h)
    clear h6 r6 e6 hc7 hc6'
    go_wp2
    go_ret
    exact ⟨rfl, hc7'⟩
  · exact absurd ex_clear hno

end Go.Proofs.Ytbpfgmgbikagoaa
