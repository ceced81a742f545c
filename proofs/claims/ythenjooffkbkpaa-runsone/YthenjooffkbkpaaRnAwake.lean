/- What puncheonlaw14.awake tells: the chapter's examples hold; RunsCost's walk. -/
import Derived.Test.YthenjooffkbkpaaRnProg
import Derived.Test.YthenjooffkbkpaaRnRef
import Derived.Test.YthenjooffkbkpaaBwBytes
import Derived.Test.YthenjooffkbkpaaBwMany
import Derived.Test.YthenjooffkbkpaaBwPlays
namespace Go.Proofs.Ythenjooffkbkpaa
open Go.RowKit

theorem ex14_put : rnOk 7 ∧ (rnPutB [] 7).length = 6 ∧ pack (rnPutB [] 7) = [31] ∧ rnCostN 7 = 6 := by decide +kernel
theorem ex14_take : rnTk [31] 0 7 = (7, 0, 6) := by decide +kernel
theorem ex14_less : (rnTk [31] 0 6).1 = 0 ∧ (rnTk [31] 0 6).2.1 = 13 := by decide +kernel

set_option maxHeartbeats 2000000 in
set_option maxRecDepth 100000 in
theorem awake14_any (w : World) : Calls Try.prog 8 #[] w fun e w' => e = .returned (.bool true) ∧ Chg (fun _ => False) w w' := by
  go_enter Try.func8, Try.ntmps8
  go_wp2_with fail
  refine (new_wr w).mono ?_
  rintro e w1 ⟨rfl, hw1, hc1⟩
  obtain ⟨b, hb⟩ : ∃ b, w.heap.size = b := ⟨_, rfl⟩
  rw [hb] at hw1 ⊢
  have HP := Lib.hid (rnput_any b none [] 7 w1 hw1 (by simp) (by decide))
  rw [decide_eq_true ex14_put.1] at HP
  have hab : Above w.heap.size b none := ⟨by omega, by simp⟩
  have HAB := Lib.hid hab; have HC := Lib.hid hc1; have HB := Lib.hid hb
  clear hw1 hc1 hab hb
  go_wp2_with fail
  refine (HP.out).mono ?_
  rintro e w2 ⟨rfl, o2, hw2, hc2, ho2⟩
  have hc2' := HC.out.up hc2 HAB.out
  obtain ⟨A, hA⟩ : ∃ A, rnPutB [] 7 = A := ⟨_, rfl⟩
  have hex := ex14_put.2
  rw [hA] at hw2 hex
  have HNE := Lib.hid (show ∀ k, o2 = some k → k < w2.heap.size from fun k hk => (hw2.lt.2 k hk).2); have HBL := Lib.hid hw2.lt.1
  replace HC := Lib.hid hc2'
  have HW2 := Lib.hid hw2; have HEX := Lib.hid hex
  clear hw2 hc2 ho2 hc2' hA hex HP HAB
  have HBY := Lib.hid fun W (hW : Wr W b o2 A) => bytes_any b o2 A W hW (by rw [HEX.out.1]; omega)
  rw [HEX.out.2.1] at HBY
  go_wp2_with fail
  refine (HBY.out w2 HW2.out).mono ?_
  rintro e w3 ⟨g3, cap3, rfl, r3, hc3⟩
  have NW3 := Lib.hid (fnew_any _ [31] w3 (RdB.of_own r3) (by decide) (by decide))
  replace HC := Lib.hid (HC.out.trans hc3 fun _ _ h => h)
  replace HW2 := Lib.hid (HW2.out.kept hc3 (by simp) (by simp))
  have HS3 := Lib.hid hc3.size
  clear r3 hc3
  go_wp2_with fail
  refine (NW3.out).mono ?_
  rintro e w4 ⟨br, orr, rfl, r4, ab4, hc4⟩
  replace HC := Lib.hid (HC.out.trans hc4 fun _ _ h => h)
  replace HW2 := Lib.hid (HW2.out.kept hc4 (by simp) (by simp))
  have R4 := Lib.hid r4; have RL4 := Lib.hid r4.lt
  have HBR := Lib.hid (show w2.heap.size ≤ br ∧ (∀ k, orr = some k → w2.heap.size ≤ k) from ⟨by have := ab4.1; have := HS3.out; omega, fun k hk => by have := ab4.2 k hk; have := HS3.out; omega⟩)
  clear r4 ab4 hc4 NW3
  go_wp2_with fail
  refine (HBY.out w4 HW2.out).mono ?_
  rintro e w5 ⟨g5, cap5, rfl, r5, hc5⟩
  have NW5 := Lib.hid (fnew_any _ [31] w5 (RdB.of_own r5) (by decide) (by decide))
  replace HC := Lib.hid (HC.out.trans hc5 fun _ _ h => h)
  replace HW2 := Lib.hid (HW2.out.kept hc5 (by simp) (by simp))
  replace R4 := Lib.hid (R4.out.kept hc5 (by simp) (by simp))
  have HS5 := Lib.hid hc5.size
  clear r5 hc5 HBY
  go_wp2_with fail
  refine (NW5.out).mono ?_
  rintro e w6 ⟨bx, ox, rfl, r6, ab6, hc6⟩
  replace HC := Lib.hid (HC.out.trans hc6 fun _ _ h => h)
  replace HW2 := Lib.hid (HW2.out.kept hc6 (by simp) (by simp))
  replace R4 := Lib.hid (R4.out.kept hc6 (by simp) (by simp))
  have R6 := Lib.hid r6
  have HBX := Lib.hid (show w4.heap.size ≤ bx ∧ (∀ k, ox = some k → w4.heap.size ≤ k) from ⟨by have := ab6.1; have := HS5.out; omega, fun k hk => by have := ab6.2 k hk; have := HS5.out; omega⟩)
  have HAP := Lib.hid (show br < bx ∧ (∀ k, ox = some k → br < k) ∧ b < br ∧ b < bx from ⟨by have := RL4.out.1; have := HBX.out.1; omega, fun k hk => by have := RL4.out.1; have := HBX.out.2 k hk; omega, by have := HBL.out; have := HBR.out.1; omega, by have := RL4.out.1; have := HBX.out.1; have := HBL.out; have := HBR.out.1; omega⟩)
  clear r6 ab6 hc6 NW5
  have T1 := Lib.hid (rntake_any br orr [31] 0 7 w6 R4.out (by decide))
  rw [ex14_take] at T1
  go_wp2_with fail
  refine (T1.out).mono ?_
  rintro e w7 ⟨rfl, -, hc7⟩
  replace HC := Lib.hid (HC.out.trans hc7 (S := fun _ => False) (fun k hk (hh : k = br) => by have := HAP.out.2.2.1; have := HB.out; omega))
  replace HW2 := Lib.hid (HW2.out.kept hc7 (fun (hh : b = br) => by have := HAP.out.2.2.1; omega) (fun k hk (hh : k = br) => by have := HNE.out k hk; have := HBR.out.1; omega))
  replace R6 := Lib.hid (R6.out.kept hc7 (fun (hh : bx = br) => by have := HAP.out.1; omega) (fun k hk (hh : k = br) => by have := HAP.out.2.1 k hk; omega))
  clear hc7 T1 R4
  have T2 := Lib.hid (rntake_any bx ox [31] 0 6 w7 R6.out (by decide))
  rw [ex14_less.1, ex14_less.2] at T2
  go_wp2_with fail
  refine (T2.out).mono ?_
  rintro e w8 ⟨rfl, -, hc8⟩
  replace HC := Lib.hid (HC.out.trans hc8 (S := fun _ => False) (fun k hk (hh : k = bx) => by have := HAP.out.2.2.2; have := HB.out; omega))
  replace HW2 := Lib.hid (HW2.out.kept hc8 (fun (hh : b = bx) => by have := HAP.out.2.2.2; omega) (fun k hk (hh : k = bx) => by have := HNE.out k hk; have := HBR.out.1; have := HAP.out.1; omega))
  clear hc8 T2 R6
  have hbits := bits_any b o2 A w8 HW2.out
  rw [HEX.out.1] at hbits
  have HBT := Lib.hid hbits
  clear hbits
  go_wp2_with fail
  refine (HBT.out).mono ?_
  rintro e w9 ⟨rfl, rfl⟩
  go_wp2_with fail
  refine (rncost_any 7 w8 (by decide)).mono ?_
  rintro e w10 ⟨rfl, hc10⟩
  rw [HEX.out.2.2]
  replace HC := Lib.hid (HC.out.trans hc10 fun _ _ h => h)
  clear hc10
  go_wp2
  go_ret
  exact ⟨rfl, HC.out⟩

end Go.Proofs.Ythenjooffkbkpaa
