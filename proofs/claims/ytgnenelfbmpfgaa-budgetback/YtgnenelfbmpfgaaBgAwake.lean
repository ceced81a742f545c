/- What puncheonlaw13.awake tells: the chapter's examples hold. -/
import Derived.Test.YtgnenelfbmpfgaaBgProg
import Derived.Test.YtgnenelfbmpfgaaBgRef
import Derived.Test.YtgnenelfbmpfgaaBwBytes
import Derived.Test.YtgnenelfbmpfgaaBwMany
import Derived.Test.YtgnenelfbmpfgaaBwPlays
import Derived.Test.YtgnenelfbmpfgaaLgProg
namespace Go.Proofs.Ytgnenelfbmpfgaa
open Go.RowKit

theorem ex13_put : bCan 5 9 ∧ (bgPutB [] 5 9).length = 4 ∧ pack (bgPutB [] 5 9) = [5] ∧ bgCostN 5 9 = 4 := by decide +kernel
theorem ex13_take : bgTk [5] 0 4 = (0, 13, 3) := by decide +kernel

set_option maxHeartbeats 2000000 in
set_option maxRecDepth 100000 in
theorem awake13_any (w : World) : Calls Try.prog 8 #[] w fun e w' => e = .returned (.bool true) ∧ Chg (fun _ => False) w w' := by
  go_enter Try.func8, Try.ntmps8
  go_wp2_with fail
  refine (new_wr w).mono ?_
  rintro e w1 ⟨rfl, hw1, hc1⟩
  obtain ⟨b, hb⟩ : ∃ b, w.heap.size = b := ⟨_, rfl⟩
  rw [hb] at hw1 ⊢
  have HP := Lib.hid (bgput_any b none [] 5 9 w1 hw1 (by simp) (by decide) (by decide))
  rw [decide_eq_true ex13_put.1] at HP
  have hab : Above w.heap.size b none := ⟨by omega, by simp⟩
  have HAB := Lib.hid hab; have HC := Lib.hid hc1; have HB := Lib.hid hb
  clear hw1 hc1 hab hb
  go_wp2_with fail
  refine (HP.out).mono ?_
  rintro e w2 ⟨rfl, o2, hw2, hc2, ho2⟩
  have hc2' := HC.out.up hc2 HAB.out
  have hab2 := HAB.out.step (w := w1) HC.out.size ho2
  obtain ⟨A, hA⟩ : ∃ A, bgPutB [] 5 9 = A := ⟨_, rfl⟩
  have hex := ex13_put.2
  rw [hA] at hw2 hex
  have hne : ∀ k, o2 = some k → k < w2.heap.size := fun k hk => (hw2.lt.2 k hk).2
  have hbl : b < w2.heap.size := hw2.lt.1
  have HNE := Lib.hid hne; have HBL := Lib.hid hbl
  replace HC := Lib.hid hc2'
  have HW2 := Lib.hid hw2; have HEX := Lib.hid hex
  have HNW := Lib.hid (fnew_any _ [5] (w2.alloc (.cells #[.int .u8 5] 5)) (one_rdb w2 5) (by decide) (by decide))
  clear hw2 hc2 ho2 hc2' hab2 hA hex HP HAB hne hbl
  go_wp2_with fail
  refine (HNW.out).mono ?_
  rintro e w3 ⟨br, orr, rfl, hr3, hab3, hc3⟩
  have hc23 : Chg (fun _ => False) w2 w3 := (Chg.alloc (fun _ => False) w2 _).trans hc3 fun _ _ h => h
  have hw3 := HW2.out.kept hc23 (by simp) (by simp)
  have hbr : w2.heap.size ≤ br := by have := hab3.1; simp at this; omega
  have htk := bgtake_any br orr [5] 0 4 w3 hr3 (by decide)
  rw [ex13_take] at htk
  have HTK := Lib.hid htk; have HW3 := Lib.hid hw3; have HBR := Lib.hid hbr
  replace HC := Lib.hid (HC.out.trans hc23 fun _ _ h => h)
  have HS3 := Lib.hid hc23.size
  clear hr3 hab3 hc3 hc23 hw3 hbr htk HNW HW2
  go_wp2_with fail
  refine (HTK.out).mono ?_
  rintro e w4 ⟨rfl, hr4, hc4⟩
  have hw4 := HW3.out.kept hc4 (by have := HBR.out; have := HBL.out; omega) (fun k hk => by have := HNE.out k hk; have := HBR.out; omega)
  have hc4' := HC.out.trans hc4 (S := fun _ => False) (fun k hk hh => by have := HBR.out; have := HBL.out; have := HB.out; omega)
  have HR4 := Lib.hid hr4; have HW4 := Lib.hid hw4
  replace HC := Lib.hid hc4'
  clear hr4 hc4 hw4 hc4' HTK HW3
  have hbits := bits_any b o2 A w4 HW4.out
  rw [HEX.out.1] at hbits
  have HBT := Lib.hid hbits
  clear hbits
  go_wp2_with fail
  refine (HBT.out).mono ?_
  rintro e w5 ⟨rfl, rfl⟩
  have hby := bytes_any b o2 A w4 HW4.out (by rw [HEX.out.1]; omega)
  rw [HEX.out.2.1] at hby
  have HBY := Lib.hid hby
  clear hby HBT
  go_wp2_with fail
  refine (HBY.out).mono ?_
  rintro e w5 ⟨g5, cap5, rfl, ho5, hc5⟩
  have cv := run_conv (RdB.of_own ho5)
  rw [show strB [5] = ⟨#[5]⟩ from rfl, show ([5] : List Nat).length = 1 from rfl] at cv
  replace HC := Lib.hid (HC.out.trans hc5 fun _ _ h => h)
  replace HR4 := Lib.hid (HR4.out.kept hc5 (by simp) (by simp))
  clear ho5 hc5 HBY HW4
  go_wp2_with fail
  refine (fleft_any br orr [5] 3 w5 HR4.out).mono ?_
  rintro e w6 ⟨rfl, hc6⟩
  replace HC := Lib.hid (HC.out.trans hc6 fun _ _ h => h)
  rw [show ((8 * [5].length - 3 : Nat) : Int) = 5 from rfl]
  clear hc6 HR4 cv
  go_wp2_with fail
  refine (bgcost_any 5 9 w6 (by decide) (by decide)).mono ?_
  rintro e w7 ⟨rfl, hc7⟩
  rw [HEX.out.2.2]
  replace HC := Lib.hid (HC.out.trans hc7 fun _ _ h => h)
  clear hc7
  go_wp2
  go_ret
  exact ⟨rfl, HC.out⟩

set_option maxHeartbeats 1000000 in
theorem budgetRoom_walk (l v : Nat) (w : World) (hl : l < 65536) (hv : v < 65536) :
    Calls Try.prog 6 #[.int .u16 (l : Int), .int .u16 (v : Int)] w fun e w' => e = .returned (.bool true) ∧ Chg (fun _ => False) w w' := by
  obtain ⟨l0, hl0⟩ : ∃ l0, l % 4096 = l0 := ⟨_, rfl⟩
  have hlI : (l : Int) % 4096 = (l0 : Int) := by omega
  have hlT : (l : Int).tmod 4096 = (l0 : Int) := by rw [Int.tmod_eq_emod_of_nonneg (by omega)]; exact hlI
  obtain ⟨n, hn⟩ : ∃ n, 1 + l0 = n := ⟨_, rfl⟩
  have hnI : 1 + (l0 : Int) = (n : Int) := by omega
  have hn4 : (n : Int) ≤ 4096 := by omega
  have hn1 : 1 ≤ (n : Int) := by omega
  obtain ⟨n1, hn1e⟩ : ∃ n1, n + 1 = n1 := ⟨_, rfl⟩
  have hn1I : (n : Int) + 1 = (n1 : Int) := by omega
  obtain ⟨x, hx⟩ : ∃ x, v % n1 = x := ⟨_, rfl⟩
  have hxn : x < n1 := by rw [← hx]; exact Nat.mod_lt _ (by omega)
  have hxI : (v : Int) % (n1 : Int) = (x : Int) := by rw [← hx]; rfl
  have hxT : (v : Int).tmod (n1 : Int) = (x : Int) := by rw [Int.tmod_eq_emod_of_nonneg (by omega)]; exact hxI
  have hn0 : ((n1 : Int) == 0) = false := by simp; omega
  have hn0' : ¬ (n1 : Int) = 0 := by omega
  have hw := width_13 hn1 hn4
  have c1 : bgCostN (x : Int) (n : Int) = widthI (n : Int) := by unfold bgCostN; rw [if_pos ⟨hn1, hn4, by omega, by omega⟩]
  have c2 : bgCostN (n : Int) (n : Int) = widthI (n : Int) := by unfold bgCostN; rw [if_pos ⟨hn1, hn4, by omega, by omega⟩]
  have c3 : bgCostN (n1 : Int) (n : Int) = 0 := by unfold bgCostN; rw [if_neg (fun h => by have := h.2.2.2; omega)]
  have H1 := Lib.hid fun W => bgcost_any (x : Int) (n : Int) W (by omega) (by omega)
  have H2 := Lib.hid fun W => bgcost_any (n : Int) (n : Int) W (by omega) (by omega)
  have H3 := Lib.hid fun W => bgcost_any (n1 : Int) (n : Int) W (by omega) (by omega)
  have H4 := Lib.hid fun W => lwidth_any (n : Int) W (by omega) (by omega)
  rw [c1] at H1
  rw [c2] at H2
  rw [c3] at H3
  obtain ⟨k, hk⟩ : ∃ k, widthI (n : Int) = k := ⟨_, rfl⟩
  rw [hk] at H1 H2 H4 hw
  obtain ⟨P, hP⟩ : ∃ P, 2 ^ k = P := ⟨_, rfl⟩
  have hPI : (2 : Int) ^ k = (P : Int) := by rw [← hP]; simp
  obtain ⟨k1, hk1⟩ : ∃ k1, k - 1 = k1 := ⟨_, rfl⟩
  have hk1I : (k : Int) - 1 = (k1 : Int) := by omega
  obtain ⟨Q, hQ⟩ : ∃ Q, 2 ^ k1 = Q := ⟨_, rfl⟩
  have hQI : (2 : Int) ^ k1 = (Q : Int) := by rw [← hQ]; simp
  rw [hk1, hP, hQ] at hw
  have hPb : P ≤ 8192 := by rw [← hP]; have := pow_le hw.2.1; have : (2 : Nat) ^ 13 = 8192 := by decide
                            omega
  have hPI8 : (P : Int) ≤ 8192 := by omega
  have hQn : Q ≤ n := by omega
  have hQI8 : (Q : Int) ≤ 8192 := by omega
  have hnP : n < P := by omega
  have hk64 : (k : Int) < 64 := by omega
  have hk164 : (k1 : Int) < 64 := by omega
  have d1 : decide ((k : Int) < 1) = false := decide_eq_false (by omega)
  have d2 : decide (13 < (k : Int)) = false := decide_eq_false (by omega)
  have d3 : decide ((k1 : Int) < 0) = false := decide_eq_false (by omega)
  have d4 : decide ((k : Int) < 0) = false := decide_eq_false (by omega)
  have d5 : decide ((n : Int) < (P : Int)) = true := decide_eq_true (by omega)
  have d6 : decide ((Q : Int) ≤ (n : Int)) = true := decide_eq_true (by omega)
  have hvI : (v : Int) < 65536 := by omega
  have hlb : (l : Int) < 65536 := by omega
  have hlIb : (l0 : Int) < 4096 := by omega
  have hn1b : (n1 : Int) ≤ 4097 := by omega
  clear c1 c2 c3 hk hP hQ hw hPb hn hl0 hx hxn hk1 hn1e hl hv
  go_enter Try.func6, Try.ntmps6
  go_wp2_with fail
  refine (awake13_any _).mono ?_
  rintro e w1 ⟨rfl, hc⟩
  have HC := Lib.hid hc
  clear hc
  go_wp2_with fail
  refine (H1.out _).mono ?_
  rintro e w2 ⟨rfl, hc2⟩
  replace HC := Lib.hid (HC.out.trans hc2 fun _ _ h => h)
  clear hc2
  go_wp2_with fail
  refine (H4.out _).mono ?_
  rintro e w3 ⟨rfl, hc3⟩
  replace HC := Lib.hid (HC.out.trans hc3 fun _ _ h => h)
  clear hc3
  go_wp2_with fail
  refine (H2.out _).mono ?_
  rintro e w4 ⟨rfl, hc4⟩
  replace HC := Lib.hid (HC.out.trans hc4 fun _ _ h => h)
  clear hc4
  go_wp2_with fail
  refine (H3.out _).mono ?_
  rintro e w5 ⟨rfl, hc5⟩
  replace HC := Lib.hid (HC.out.trans hc5 fun _ _ h => h)
  clear hc5
  go_wp2
  go_ret
  exact ⟨rfl, HC.out⟩

end Go.Proofs.Ytgnenelfbmpfgaa
