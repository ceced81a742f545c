/- The walk of LogsRoom. -/
import Derived.Test.YtkdgfnaelekjoaaLgBetween
namespace Go.Proofs.Ytkdgfnaelekjoaa
open Go.RowKit

set_option maxHeartbeats 2000000 in
theorem lroom_any (n m t : Nat) (w : World) (hn : n < 4294967296) (hm : m < 256) (ht : t < 256) :
    Calls Try.prog 5 #[.int .u32 (n : Int), .int .u8 (m : Int), .int .u8 (t : Int)] w fun e w' => Says w e w' := by
  obtain ⟨r, hr⟩ : ∃ r, t % 16 = r := ⟨_, rfl⟩
  have hr' : (t : Int) % 16 = (r : Int) := by omega
  have hr16 : r < 16 := by omega
  have p5 := pick_ge5 (n : Int) ((m : Int) + 1) (5 + (r : Int))
  have p40 := pick_le40 (n := (n : Int)) (m := (m : Int) + 1) (most := 5 + (r : Int)) (by omega) (by omega)
  obtain ⟨k, hk⟩ : ∃ k : Nat, pickI (n : Int) ((m : Int) + 1) (5 + (r : Int)) = (k : Int) := ⟨(pickI (n : Int) ((m : Int) + 1) (5 + (r : Int))).toNat, by omega⟩
  obtain ⟨r1, r2, r3⟩ := pick_room (n := (n : Int)) (m := (m : Int) + 1) (t := 5 + (r : Int)) (by omega) (by omega) k hk
  rw [hk] at p5 p40
  obtain ⟨k', rfl⟩ : ∃ k', k = k' + 1 := ⟨k - 1, by omega⟩
  rw [Nat.add_sub_cancel] at r2 r3
  obtain ⟨F, hF⟩ : ∃ F, floorI (n : Int) = F := ⟨_, rfl⟩
  rw [hF] at r3
  have pA := pow40 (k := k' + 1) (by omega)
  obtain ⟨A, hA⟩ : ∃ A, 2 ^ (k' + 1) = A := ⟨_, rfl⟩
  obtain ⟨B, hB⟩ : ∃ B, 2 ^ k' = B := ⟨_, rfl⟩
  rw [hA] at r1 pA
  rw [hB] at r2 r3
  have eA : (2 : Int) ^ (k' + 1) = (A : Int) := by rw [← hA]; simp
  have eB : (2 : Int) ^ k' = (B : Int) := by rw [← hB]; simp
  have pB : (B : Int) ≤ (A : Int) := by rw [two_pow_succ k'] at hA; omega
  have fl := floor_le40 (n := (n : Int)) (by omega)
  rw [hF] at fl
  have HK := Lib.hid hk; have HF := Lib.hid hF
  have hkI : (k' : Int) + 1 ≤ 40 := by omega
  have hk5 : 5 ≤ (k' : Int) + 1 := by omega
  have hFI : (F : Int) ≤ 40 := by omega
  clear hk hF hA hB p5 p40 hr fl
  have R2 := Lib.hid r2; have R3 := Lib.hid r3
  clear r2 r3
  go_enter Try.func5, Try.ntmps5
  go_wp2_with fail
  refine (awake7_any w).mono ?_
  rintro e w1 ⟨rfl, q1⟩
  go_wp2_with fail
  refine (lpick_any (n : Int) ((m : Int) + 1) (5 + (r : Int)) w1 (by omega) (by omega) (by omega) (by omega) (by omega) (by omega)).mono ?_
  rintro e w2 ⟨rfl, hc⟩
  rw [HK.out]
  have q2 := q1.trans hc (fun _ _ h => h)
  clear q1 hc
  have r2 := R2.out
  have r3 := R3.out
  by_cases c1 : (k' : Int) + 1 ≤ 5 + (r : Int)
  · by_cases c2 : k' = 4
    · subst c2
      go_wp2
      go_ret
      exact ⟨rfl, q2⟩
    · have e5 : ((k' : Int) + 1 == 5) = false := by simp; omega
      by_cases c3 : (k' : Int) + 1 ≤ (F : Int)
      · go_wp2_with fail
        refine (lfloor_any (n : Int) w2 (by omega) (by omega)).mono ?_
        rintro e w3 ⟨rfl, hc⟩
        rw [HF.out]
        have q3 := q2.trans hc (fun _ _ h => h)
        clear q2 hc
        go_wp2
        go_ret
        exact ⟨rfl, q3⟩
      · have hb : (B : Int) < (m : Int) + 1 := by omega
        go_wp2_with fail
        refine (lfloor_any (n : Int) w2 (by omega) (by omega)).mono ?_
        rintro e w3 ⟨rfl, hc⟩
        rw [HF.out]
        have q3 := q2.trans hc (fun _ _ h => h)
        clear q2 hc
        go_wp2
        go_ret
        exact ⟨rfl, q3⟩
  · have hb : (B : Int) < (m : Int) + 1 := by omega
    by_cases c2 : k' = 4
    · subst c2
      exfalso; omega
    · have e5 : ((k' : Int) + 1 == 5) = false := by simp; omega
      by_cases c3 : (k' : Int) + 1 ≤ (F : Int)
      · go_wp2_with fail
        refine (lfloor_any (n : Int) w2 (by omega) (by omega)).mono ?_
        rintro e w3 ⟨rfl, hc⟩
        rw [HF.out]
        have q3 := q2.trans hc (fun _ _ h => h)
        clear q2 hc
        go_wp2
        go_ret
        exact ⟨rfl, q3⟩
      · go_wp2_with fail
        refine (lfloor_any (n : Int) w2 (by omega) (by omega)).mono ?_
        rintro e w3 ⟨rfl, hc⟩
        rw [HF.out]
        have q3 := q2.trans hc (fun _ _ h => h)
        clear q2 hc
        go_wp2
        go_ret
        exact ⟨rfl, q3⟩

end Go.Proofs.Ytkdgfnaelekjoaa
