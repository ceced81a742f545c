/- What the document's own logs (puncheonref07) tell. -/
import Derived.Test.YtkdgfnaelekjoaaBwBase
import Derived.Test.YtkdgfnaelekjoaaLgMath
namespace Go.Proofs.Ytkdgfnaelekjoaa
open Go.RowKit

set_option maxHeartbeats 1000000 in
theorem r7floor_any (n : Int) (w : World) (hn : n ≤ 1099511627776) (hlo : -9223372036854775808 ≤ n) :
    Calls Try.prog 10 #[.int .i64 n] w fun e w' => e = .returned (.int .i64 ((floorI n : Nat) : Int)) ∧ w' = w := by
  have HN := Lib.hid (show n ≤ 1099511627776 from hn)
  clear hn
  go_enter Try.func10, Try.ntmps10
  go_wp2
  go_loopw [3, 4] (fun o3 o4 wr => ∃ k P : Nat, o3 = .int .i64 (k : Int) ∧ o4 = .int .i64 (P : Int) ∧ P = 2 ^ (k + 1) ∧ (k = 0 ∨ ((2 ^ k : Nat) : Int) ≤ n) ∧ wr = w) (fun o3 _ _ => 41 - (intOf o3).toNat)
  case atStart => exact ⟨0, 2, rfl, rfl, rfl, .inl rfl, rfl⟩
  case round =>
    obtain ⟨k, P, rfl, rfl, hP, hk, rfl⟩ := hrel
    have hn := HN.out
    have hk40 : k ≤ 40 := by
      rcases hk with hk | hk
      · omega
      · have := floor_mono hk
        rw [floor_at] at this
        have := floor_le40 hn
        omega
    have hP2 : P ≤ 2 ^ 41 := by rw [hP]; exact pow_le (by omega)
    have hP3 : (P : Int) ≤ 2199023255552 := by
      have : (2 : Nat) ^ 41 = 2199023255552 := by decide
      omega
    have hsu : 2 * P = 2 ^ (k + 1 + 1) := by rw [hP, two_pow_succ (k + 1)]
    by_cases hlt : (P : Int) ≤ n
    · have hk' : ((2 ^ (k + 1) : Nat) : Int) ≤ n := by rw [← hP]; exact hlt
      have hk2 : k + 1 ≤ 40 := by
        have := floor_mono hk'
        rw [floor_at] at this
        have := floor_le40 hn
        omega
      have d1 : decide ((k : Int) < 60) = true := by simp; omega
      have hkI : (k : Int) ≤ 40 := by omega
      have HS := Lib.hid hsu; have HK := Lib.hid hk'; have HK2 := Lib.hid hk2
      clear hsu hk' hP hP2 hk hk40 hk2 hn
      go_wp2
      go_roundw
      case rel => exact ⟨k + 1, 2 * P, by go_num, by go_num, HS.out, .inr HK.out, trivial⟩
      case measure => simp [intOf]; have := HK2.out; omega
    · have hfl : floorI n = k := by
        rcases hk with hk | hk
        · subst hk
          exact floor_small (by rw [hP] at hlt; simp at hlt; omega)
        · exact floor_unique hk (by rw [← hP]; omega)
      have HF := Lib.hid hfl
      have hlt' : ¬ (P : Int) ≤ n := hlt
      clear hsu hP hP2 hk hk40 hn hfl
      go_wp2
      go_ret
      rw [HF.out]
      exact ⟨rfl, rfl⟩

set_option maxHeartbeats 1000000 in
theorem r7ceil_any (n : Int) (w : World) (hn : n ≤ 1099511627776) (hlo : -9223372036854775808 ≤ n) :
    Calls Try.prog 12 #[.int .i64 n] w fun e w' => e = .returned (.int .i64 ((ceilI n : Nat) : Int)) ∧ w' = w := by
  have HN := Lib.hid (show n ≤ 1099511627776 from hn)
  clear hn
  go_enter Try.func12, Try.ntmps12
  go_wp2
  go_loopw [3, 4] (fun o3 o4 wr => ∃ k P : Nat, o3 = .int .i64 (k : Int) ∧ o4 = .int .i64 (P : Int) ∧ P = 2 ^ k ∧ (k = 0 ∨ ((2 ^ (k - 1) : Nat) : Int) < n) ∧ wr = w) (fun o3 _ _ => 41 - (intOf o3).toNat)
  case atStart => exact ⟨0, 1, rfl, rfl, rfl, .inl rfl, rfl⟩
  case round =>
    obtain ⟨k, P, rfl, rfl, hP, hk, rfl⟩ := hrel
    have hn := HN.out
    have hk41 : k ≤ 40 := by
      rcases hk with hk | hk
      · omega
      · have h40 : (1099511627776 : Int) = ((2 ^ 40 : Nat) : Int) := by decide
        rw [h40] at hn
        have := lt_of_pow (a := k - 1) (b := 40) (by omega)
        omega
    have hP2 : P ≤ 2 ^ 40 := by rw [hP]; exact pow_le hk41
    have hP3 : (P : Int) ≤ 1099511627776 := by
      have : (2 : Nat) ^ 40 = 1099511627776 := by decide
      omega
    have hsu : 2 * P = 2 ^ (k + 1) := by rw [hP, two_pow_succ k]
    by_cases hlt : (P : Int) < n
    · have hk' : ((2 ^ (k + 1 - 1) : Nat) : Int) < n := by rw [Nat.add_sub_cancel, ← hP]; exact hlt
      have d1 : decide ((k : Int) < 60) = true := by simp; omega
      have hkI : (k : Int) ≤ 40 := by omega
      have HS := Lib.hid hsu; have HK := Lib.hid hk'; have HK2 := Lib.hid hk41
      clear hsu hk' hP hP2 hk hk41 hn
      go_wp2
      go_roundw
      case rel => exact ⟨k + 1, 2 * P, by go_num, by go_num, HS.out, .inr HK.out, trivial⟩
      case measure => simp [intOf]; have := HK2.out; omega
    · have hfl : ceilI n = k := by
        by_cases h1 : 1 ≤ n
        · exact ceil_unique h1 (by rw [← hP]; omega) hk
        · rw [ceil_small (by omega)]
          rcases hk with hk | hk
          · exact hk.symm
          · have := Nat.two_pow_pos (k - 1); omega
      have HF := Lib.hid hfl
      clear hsu hP hP2 hk hk41 hn hfl
      go_wp2
      go_ret
      rw [HF.out]
      exact ⟨rfl, rfl⟩

set_option maxHeartbeats 1000000 in
theorem r7width_any (n : Int) (w : World) (hn : n ≤ 1099511627776) (hlo : -9223372036854775808 ≤ n) :
    Calls Try.prog 14 #[.int .i64 n] w fun e w' => e = .returned (.int .i64 ((widthI n : Nat) : Int)) ∧ w' = w := by
  have hwl := width_le41 hn
  obtain ⟨W, hW⟩ : ∃ W, widthI n = W := ⟨_, rfl⟩
  rw [hW] at hwl ⊢
  have HW := Lib.hid hW; have HWL := Lib.hid hwl; have HN := Lib.hid (And.intro hn hlo)
  clear hW hwl hn hlo
  go_enter Try.func14, Try.ntmps14
  go_wp2
  go_loopw [0, 3] (fun o0 o3 wr => ∃ (x : Int) (k : Nat), o0 = .int .i64 x ∧ o3 = .int .i64 (k : Int) ∧ -9223372036854775808 ≤ x ∧ x ≤ 1099511627776 ∧ widthI x + k = W ∧ wr = w) (fun o0 _ _ => (intOf o0).toNat)
  case atStart => exact ⟨n, 0, rfl, rfl, HN.out.2, HN.out.1, HW.out, rfl⟩
  case round =>
    obtain ⟨x, k, rfl, rfl, hx0, hx1, hs, rfl⟩ := hrel
    by_cases hlt : 0 < x
    · have hh := width_half (n := x) (by omega)
      have hs2 : widthI (x / 2) + (k + 1) = W := by omega
      have hk : (k : Int) ≤ 41 := by have := HWL.out; omega
      have hd : x.tdiv 2 = x / 2 := Int.tdiv_eq_ediv_of_nonneg (by omega)
      have HS := Lib.hid hs2
      clear hs hh hs2
      go_wp2
      go_roundw
      case rel => exact ⟨x / 2, k + 1, by go_num, by go_num, by omega, by omega, HS.out, trivial⟩
      case measure => simp [intOf]; omega
    · rw [width_small (by omega)] at hs
      have hk : k = W := by omega
      subst hk
      clear hs
      go_wp2
      go_ret
      exact ⟨rfl, rfl⟩

set_option maxHeartbeats 1000000 in
theorem r7pick_any (n m t : Int) (w : World) (hn : n ≤ 1099511627776) (hlo : -9223372036854775808 ≤ n) (hm : m ≤ 1099511627776) (hmo : -9223372036854775808 ≤ m) (ht : t ≤ 1099511627776) (hto : -9223372036854775808 ≤ t) :
    Calls Try.prog 16 #[.int .i64 n, .int .i64 m, .int .i64 t] w fun e w' => e = .returned (.int .i64 (pickI n m t)) ∧ w' = w := by
  have HF := Lib.hid (r7floor_any n w hn hlo); have HC := Lib.hid (r7ceil_any m w hm hmo)
  have h1 := floor_le40 hn
  have h2 := ceil_le40 hm
  have hpk : pickI n m t = max (max (min ((floorI n : Int) - 2) t) 5) ((ceilI m : Nat) : Int) := rfl
  obtain ⟨f, hf⟩ : ∃ f, floorI n = f := ⟨_, rfl⟩
  obtain ⟨c, hc⟩ : ∃ c, ceilI m = c := ⟨_, rfl⟩
  rw [hf] at h1 hpk HF
  rw [hc] at h2 hpk HC
  have HP := Lib.hid hpk
  have f1 : (f : Int) ≤ 40 := by omega
  have c1 : (c : Int) ≤ 40 := by omega
  clear hf hc hpk h1 h2 hn hlo hm hmo
  go_enter Try.func16, Try.ntmps16
  go_wp2_with fail
  refine HF.out.mono ?_
  rintro e w' ⟨rfl, rfl⟩
  clear HF
  by_cases k1 : (f : Int) - 2 ≤ t
  · by_cases k2 : (f : Int) - 2 ≤ 5
    · by_cases k3 : (c : Int) ≤ 5
      · go_wp2_with fail
        all_goals first
          | (exfalso; omega)
          | (refine HC.out.mono ?_
             rintro e w' ⟨rfl, rfl⟩
             go_wp2
             all_goals first
               | (exfalso; omega)
               | (go_ret; rw [HP.out]; exact ⟨congrArg (fun z => Ending.returned (Value.int .i64 z)) (by omega), rfl⟩))
      · go_wp2_with fail
        all_goals first
          | (exfalso; omega)
          | (refine HC.out.mono ?_
             rintro e w' ⟨rfl, rfl⟩
             go_wp2
             all_goals first
               | (exfalso; omega)
               | (go_ret; rw [HP.out]; exact ⟨congrArg (fun z => Ending.returned (Value.int .i64 z)) (by omega), rfl⟩))
    · go_wp2_with fail
      all_goals first
        | (exfalso; omega)
        | (refine HC.out.mono ?_
           rintro e w' ⟨rfl, rfl⟩
           go_wp2
           all_goals first
             | (exfalso; omega)
             | (go_ret; rw [HP.out]; exact ⟨congrArg (fun z => Ending.returned (Value.int .i64 z)) (by omega), rfl⟩))
  · go_wp2_with fail
    all_goals first
      | (exfalso; omega)
      | (refine HC.out.mono ?_
         rintro e w' ⟨rfl, rfl⟩
         go_wp2
         all_goals first
           | (exfalso; omega)
           | (go_ret; rw [HP.out]; exact ⟨congrArg (fun z => Ending.returned (Value.int .i64 z)) (by omega), rfl⟩))

end Go.Proofs.Ytkdgfnaelekjoaa
