/- What puncheonlaw01.awake tells: the chapter's example holds. -/
import Derived.Test.YtoajgiefjkibeaaBwLawPut
namespace Go.Proofs.Ytoajgiefjkibeaa
open Go.RowKit

theorem put_int (b : Nat) (o : Option Nat) (bs : List Bool) (v n : Int) (w : World) (h : Wr w b o bs) (hlen : bs.length < 900000000) (hv0 : 0 ≤ v) (hv : v < 4294967296) :
    Calls Try.prog 10 #[.pointer (some ⟨b, 0, none⟩), .int .u32 v, .int .i64 n] w fun e w' => e = .returned (.bool (decide (0 ≤ n ∧ n ≤ 24))) ∧ WrTo w w' b o (putB bs v.toNat n) := by
  obtain ⟨u, rfl⟩ := Int.eq_ofNat_of_zero_le hv0
  rw [Int.toNat_natCast]
  exact put_any b o bs u n w h hlen (by omega)

theorem put_in (b : Nat) (o : Option Nat) (bs : List Bool) (v n : Int) (w : World) (h : Wr w b o bs) (hlen : bs.length < 900000000) (hv0 : 0 ≤ v) (hv : v < 4294967296) (hn0 : 0 ≤ n) (hn : n ≤ 24) :
    Calls Try.prog 10 #[.pointer (some ⟨b, 0, none⟩), .int .u32 v, .int .i64 n] w fun e w' => e = .returned (.bool true) ∧ ∃ o', Wr w' b o' (bs ++ bitsOf v.toNat n.toNat) ∧ Chg (fun k => k = b ∨ some k = o) w w' ∧ (o' = o ∨ ∃ k, o' = some k ∧ w.heap.size ≤ k) := by
  refine (put_int b o bs v n w h hlen hv0 hv).mono ?_
  rintro e w' ⟨rfl, ht⟩
  rw [show decide (0 ≤ n ∧ n ≤ 24) = true from decide_eq_true ⟨hn0, hn⟩]
  unfold putB at ht
  rw [if_pos ⟨hn0, hn⟩] at ht
  exact ⟨rfl, ht⟩

theorem Own.to {B : Nat} {w w' : World} {b : Nat} {o : Option Nat} {bs : List Bool} (h : WrTo w w' b o bs) (hB : B ≤ b) (ho : ∀ k, o = some k → B ≤ k) (hs : B ≤ w.heap.size) : Own B w' b bs ∧ Chg (fun k => B ≤ k) w w' := by
  obtain ⟨o', hw, hc, ho'⟩ := h
  refine ⟨⟨o', hw, hB, fun k hk => ?_⟩, hc.mono fun k _ hk => ?_⟩
  · rcases ho' with rfl | ⟨j, rfl, hj⟩
    · exact ho k hk
    · simp only [Option.some.injEq] at hk; omega
  · rcases hk with rfl | hk
    · exact hB
    · exact ho k hk.symm

theorem put_own (B b : Nat) (bs : List Bool) (v n : Int) (w : World) (h : Own B w b bs) (hs : B ≤ w.heap.size) (hlen : bs.length < 900000000) (hv0 : 0 ≤ v) (hv : v < 4294967296) :
    Calls Try.prog 10 #[.pointer (some ⟨b, 0, none⟩), .int .u32 v, .int .i64 n] w fun e w' => e = .returned (.bool (decide (0 ≤ n ∧ n ≤ 24))) ∧ Own B w' b (putB bs v.toNat n) ∧ Chg (fun k => B ≤ k) w w' := by
  obtain ⟨o, hw, hB, ho⟩ := h
  refine (put_int b o bs v n w hw hlen hv0 hv).mono ?_
  rintro e w' ⟨rfl, ht⟩
  exact ⟨rfl, Own.to ht hB ho hs⟩

theorem ex_bits : putB (putB [] 5 3) 1 2 = [true, false, true, true, false] := by decide
theorem ex_pack : pack [true, false, true, true, false] = [13] := by decide
theorem ex_close : pack ([true, false, true, true, false] ++ [true]) = [45] := by decide
theorem str13 : ((strB [13]).toList == [13]) = true := by decide +kernel
theorem str45 : ((strB [45]).toList == [45]) = true := by decide +kernel

set_option maxHeartbeats 1000000 in
theorem awake_any (w : World) : Calls Try.prog 8 #[] w fun e w' => e = .returned (.bool true) ∧ Chg (fun _ => False) w w' := by
  go_enter Try.func8, Try.ntmps8
  go_wp2_with fail
  refine (new_wr _).mono ?_
  rintro e w1 ⟨rfl, hw1, hc1⟩
  have z1 := hc1.size
  go_wp2_with fail
  refine (put_own w.heap.size w.heap.size [] 5 3 w1 ⟨none, hw1, Nat.le_refl _, by simp⟩ z1 (by simp) (by decide) (by decide)).mono ?_
  rintro e w2 ⟨rfl, hw2, hc2⟩
  have z2 := hc2.size
  have hc2' : Chg (fun _ => False) w w2 := hc1.trans hc2 (fun k hk h => by omega)
  clear hw1 hc1 hc2
  go_wp2_with fail
  refine (put_own w.heap.size w.heap.size (putB [] 5 3) 1 2 w2 hw2 (by omega) (by decide) (by decide) (by decide)).mono ?_
  rintro e w3 ⟨rfl, hw3, hc3⟩
  have z3 := hc3.size
  have hc3' : Chg (fun _ => False) w w3 := hc2'.trans hc3 (fun k hk h => by omega)
  clear hw2 hc2' hc3
  rw [show putB (putB [] 5 3) (1 : Int).toNat 2 = [true, false, true, true, false] from ex_bits] at hw3
  obtain ⟨o, hw3, _, _⟩ := hw3
  go_wp2_with fail
  refine (bytes_any w.heap.size o _ w3 hw3 (by decide)).mono ?_
  rintro e w4 ⟨g, cap, rfl, hown4, hc4⟩
  rw [ex_pack] at hown4 ⊢
  have r4 : (convert 34 9 (.slice (some ⟨g, 0, none⟩) 1 cap)).run Try.prog w4 = .ok (.string (strB [13])) w4 := run_conv (RdB.of_own hown4)
  have e4 := str13
  have hw4 := hw3.kept hc4 (by simp) (by simp)
  have hc4' : Chg (fun _ => False) w w4 := hc3'.trans hc4 (fun _ _ h => h)
  clear hw3 hc3' hc4 hown4
  go_wp2_with fail
  refine (close_any w.heap.size o _ w4 hw4 (by decide)).mono ?_
  rintro e w5 ⟨g5, cap5, rfl, hown5, hc5⟩
  rw [ex_close] at hown5 ⊢
  have r5 : (convert 34 9 (.slice (some ⟨g5, 0, none⟩) 1 cap5)).run Try.prog w5 = .ok (.string (strB [45])) w5 := run_conv (RdB.of_own hown5)
  have e5 := str45
  have hw5 := hw4.kept hc5 (by simp) (by simp)
  have hc5' : Chg (fun _ => False) w w5 := hc4'.trans hc5 (fun _ _ h => h)
  clear hw4 hc4' hc5 hown5 r4 e4
  go_wp2_with fail
  refine (bits_any w.heap.size o _ w5 hw5).mono ?_
  rintro e w6 ⟨rfl, rfl⟩
  clear hw5 r5 e5
  go_wp2
  go_ret
  exact ⟨rfl, hc5'⟩

end Go.Proofs.Ytoajgiefjkibeaa
