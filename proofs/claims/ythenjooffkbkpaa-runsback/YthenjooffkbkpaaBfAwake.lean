/- What puncheonlaw03.awake tells: the chapter's example holds. -/
import Derived.Test.YthenjooffkbkpaaBfRest
namespace Go.Proofs.Ythenjooffkbkpaa
open Go.RowKit

theorem same_eq (v1 v2 : Value) (xs : List Nat) (w : World) (h1 : RdB w v1 xs) (h2 : RdB w v2 xs) (hx : ∀ x ∈ xs, x < 256) :
    Calls Try.prog 14 #[v1, v2] w fun e w' => e = .returned (.bool true) ∧ w = w' := by
  refine (same_any v1 v2 xs xs w h1 h2 hx hx).mono ?_
  rintro e w' ⟨rfl, rfl⟩
  exact ⟨by simp, rfl⟩

theorem fleft_w (b : Nat) (o : Option Nat) (xs : List Nat) (q : Nat) (w : World) (h : Rf w b o xs (8 * q)) :
    Calls Try.prog 21 #[.pointer (some ⟨b, 0, none⟩)] w fun e w' => e = .returned (.int .i64 (8 * ((xs.length : Int) - (q : Int)))) ∧ Chg (fun _ => False) w w' := by
  have hp := h.2.2.1
  refine (fleft_any b o xs (8 * q) w h).mono ?_
  rintro e w' ⟨rfl, hc⟩
  exact ⟨congrArg (fun z => Ending.returned (Value.int .i64 z)) (by omega), hc⟩

theorem ftake_in (b : Nat) (o : Option Nat) (xs : List Nat) (p : Nat) (n : Int) (w : World) (h : Rf w b o xs p) (hn0 : 0 ≤ n) (hn : n ≤ 24) (hl : (p : Int) + n ≤ 8 * xs.length) :
    Calls Try.prog 29 #[.pointer (some ⟨b, 0, none⟩), .int .i64 n] w fun e w' => e = .returned (.tuple #[.int .u32 ((fv xs p n.toNat : Nat) : Int), .bool true]) ∧ Rf w' b o xs (p + n.toNat) ∧ Chg (fun k => k = b) w w' := by
  obtain ⟨m, rfl⟩ := Int.eq_ofNat_of_zero_le hn0
  exact ftake_yes b o xs p m w h (by omega) (by omega)

theorem ex_fv : fv [13, 7] 0 (3 : Int).toNat = 5 ∧ fv [13, 7] 3 (2 : Int).toNat = 1 := by decide +kernel
theorem ex_clear : Clear [13, 7] 5 := by
  intro j h1 h2
  have : j = 5 ∨ j = 6 ∨ j = 7 := by omega
  rcases this with rfl | rfl | rfl <;> decide
theorem str7 : ((strB [7]).toList == [7]) = true := by decide +kernel

theorem two_rdb (w : World) (x y : Nat) : RdB (w.alloc (.cells #[.int .u8 (x : Int), .int .u8 (y : Int)] 5)) (.slice (some ⟨w.heap.size, 0, none⟩) 2 2) [x, y] := by
  refine .inr ⟨w.heap.size, 0, 2, rfl, fun j hj => ?_⟩
  have : j = 0 ∨ j = 1 := by simp at hj; omega
  rcases this with rfl | rfl <;> (rw [cell_of_row _ _ _ _ _ _ (heap_alloc_new w _)]; rfl)

/-- bytes of a slice that the call owns, whatever their address -/
theorem own_slice {w : World} {base : Nat} {v : Value} {n : Nat} {xs : List Value} (h : w.ownsRow base 5 1 v n xs) : ∃ ao cap, v = .slice ao n cap := by
  obtain ⟨ao, cap, hv, _⟩ := own_src h
  exact ⟨ao, cap, hv⟩

end Go.Proofs.Ythenjooffkbkpaa
