/- What bitw.New, Put, Bits do. -/
import Derived.Test.YthenjooffkbkpaaBwPutB
namespace Go.Proofs.Ythenjooffkbkpaa
open Go.RowKit

theorem wraps_u32 (n : Int) (h0 : 0 ≤ n) (h1 : n < 2 ^ 32) : IntKind.u32.wrap n = n := by rw [IntKind.wrap_u32]; omega

theorem and_one_bit (v k : Nat) (hv : v < 4294967296) : (bits BinOp.and IntKind.u32 ((v : Int) / 2 ^ k) 1 == 1) = decide (v / 2 ^ k % 2 = 1) := by
  have e : ((v : Int) / 2 ^ k) = ((v / 2 ^ k : Nat) : Int) := by simp
  have hl : v / 2 ^ k ≤ v := Nat.div_le_self _ _
  rw [e]
  generalize v / 2 ^ k = y at *
  have h := bits_mask .u32 32 (by decide) wraps_u32 1 (by decide) (y : Int) (by omega) (by omega)
  rw [show (1 : Int) = 2 ^ 1 - 1 from by decide, h]
  rw [Bool.eq_iff_iff]; simp; omega

theorem new_any (w : World) : Calls Try.prog 9 #[] w fun e w' => e = .returned (.pointer (some ⟨w.heap.size, 0, none⟩)) ∧ w.alloc (.cells #[.slice none 0 0, .int .i64 0] 49) = w' := by
  go_enter Try.func9, Try.ntmps9
  go_wp2
  go_ret
  exact ⟨rfl, rfl⟩

theorem new_wr (w : World) : Calls Try.prog 9 #[] w fun e w' => e = .returned (.pointer (some ⟨w.heap.size, 0, none⟩)) ∧ Wr w' w.heap.size none [] ∧ Chg (fun _ => False) w w' := by
  refine (new_any w).mono ?_
  rintro e w' ⟨rfl, rfl⟩
  exact ⟨rfl, ⟨_, heap_alloc_new w _, rfl, World.ownsRow_nil _ _ _ _⟩, Chg.alloc _ w _⟩

theorem bits_any (b : Nat) (o : Option Nat) (bs : List Bool) (w : World) (h : Wr w b o bs) :
    Calls Try.prog 13 #[.pointer (some ⟨b, 0, none⟩)] w fun e w' => e = .returned (.int .i64 (bs.length : Int)) ∧ w = w' := by
  obtain ⟨v, hb, ho, hown⟩ := h
  obtain ⟨c0, c1, f0, f1⟩ := cells2 hb
  clear hb ho hown
  go_enter Try.func13, Try.ntmps13
  go_wp2
  go_ret
  exact ⟨rfl, rfl⟩

theorem put_no (b : Nat) (v n : Int) (w : World) (hn : n < 0 ∨ 24 < n) :
    Calls Try.prog 27 #[.pointer (some ⟨b, 0, none⟩), .int .u32 v, .int .i64 n] w fun e w' => e = .returned (.bool false) ∧ w = w' := by
  by_cases h0 : n < 0
  · have h0' : decide (n < 0) = true := by simpa using h0
    go_enter Try.func27, Try.ntmps27
    go_wp2
    go_ret
    exact ⟨rfl, rfl⟩
  · have h0' : decide (n < 0) = false := by simpa using h0
    have h1' : decide (24 < n) = true := by simp; omega
    go_enter Try.func27, Try.ntmps27
    go_wp2
    go_ret
    exact ⟨rfl, rfl⟩

set_option maxHeartbeats 400000 in
theorem put_yes (b : Nat) (o : Option Nat) (bs : List Bool) (v n : Nat) (w : World) (h : Wr w b o bs) (hlen : bs.length < 900000000) (hv : v < 4294967296) (hn : n ≤ 24) :
    Calls Try.prog 27 #[.pointer (some ⟨b, 0, none⟩), .int .u32 (v : Int), .int .i64 (n : Int)] w fun e w' => e = .returned (.bool true) ∧ WrTo w w' b o (bs ++ bitsOf v n) := by
  have h0' : decide ((n : Int) < 0) = false := by simp
  have h1' : decide (24 < (n : Int)) = false := by simp; omega
  have hst : WrTo w w b o (bs ++ bitsOf v 0) := ⟨o, by simpa [bitsOf] using h, Chg.refl _ _, .inl rfl⟩
  go_enter Try.func27, Try.ntmps27
  go_wp2
  go_loopw [15] (fun i wr => ∃ k : Nat, k ≤ n ∧ i = .int .i64 (k : Int) ∧ WrTo w wr b o (bs ++ bitsOf v k)) (fun i _ => n - (intOf i).toNat)
  case atStart => exact ⟨0, Nat.zero_le _, rfl, hst⟩
  case round =>
    obtain ⟨k, hk, rfl, hwr⟩ := hrel
    by_cases hlt : k < n
    · obtain ⟨o1, hw1, hc1, ho1⟩ := hwr
      go_wp2_with fail
      refine (putBit_any b o1 (bs ++ bitsOf v k) _ wr hw1 (by simp [bitsOf_length]; omega)).mono ?_
      rintro e w2 ⟨rfl, hw2⟩
      have hw2' := WrTo.trans hc1 ho1 hw2
      rw [and_one_bit v k hv, List.append_assoc, show bitsOf v k ++ [decide (v / 2 ^ k % 2 = 1)] = bitsOf v (k + 1) from rfl] at hw2'
      clear hw2 hw1 hc1 ho1
      go_wp2
      go_roundw
      case rel => exact ⟨k + 1, by omega, by go_num, hw2'⟩
      case measure => simp [intOf]; omega
    · obtain rfl : k = n := by omega
      go_wp2
      go_ret
      exact ⟨rfl, hwr⟩

theorem put_any (b : Nat) (o : Option Nat) (bs : List Bool) (v : Nat) (n : Int) (w : World) (h : Wr w b o bs) (hlen : bs.length < 900000000) (hv : v < 4294967296) :
    Calls Try.prog 27 #[.pointer (some ⟨b, 0, none⟩), .int .u32 (v : Int), .int .i64 n] w fun e w' => e = .returned (.bool (decide (0 ≤ n ∧ n ≤ 24))) ∧ WrTo w w' b o (putB bs v n) := by
  by_cases hn : 0 ≤ n ∧ n ≤ 24
  · obtain ⟨m, rfl⟩ := Int.eq_ofNat_of_zero_le hn.1
    refine (put_yes b o bs v m w h hlen hv (by omega)).mono ?_
    rintro e w' ⟨rfl, hw⟩
    rw [show decide (0 ≤ (m : Int) ∧ (m : Int) ≤ 24) = true from decide_eq_true hn, show putB bs v (m : Int) = bs ++ bitsOf v m from by unfold putB; rw [if_pos hn]; rfl]
    exact ⟨rfl, hw⟩
  · refine (put_no b v n w (by omega)).mono ?_
    rintro e w' ⟨rfl, rfl⟩
    rw [show decide (0 ≤ n ∧ n ≤ 24) = false from decide_eq_false hn, show putB bs v n = bs from by unfold putB; rw [if_neg hn]]
    exact ⟨rfl, o, h, Chg.refl _ _, .inl rfl⟩

end Go.Proofs.Ythenjooffkbkpaa
