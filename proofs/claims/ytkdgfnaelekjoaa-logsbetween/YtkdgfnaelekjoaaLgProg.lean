/- What logs' Floor, Ceil, Width and Pick tell. THIS ALONE SPEAKS OF THE PROGRAM'S OWN TEXT. -/
import Derived.Test.YtkdgfnaelekjoaaHsBase
import Derived.Test.YtkdgfnaelekjoaaLgMath
import Derived.Test.YtkdgfnaelekjoaaLgLen
namespace Go.Proofs.Ytkdgfnaelekjoaa
open Go.RowKit

theorem bitLen_width {n : Int} (h : 1 ≤ n) : bitLen n.toNat = widthI n := by
  unfold bitLen widthI
  rw [if_neg (by omega), if_neg (by omega)]

theorem lwidth_w (n : Int) (w : World) (hn : n ≤ 1099511627776) (hlo : -9223372036854775808 ≤ n) :
    Calls Try.prog 13 #[.int .i64 n] w fun e w' => e = .returned (.int .i64 ((widthI n : Nat) : Int)) ∧ w' = w := by
  by_cases h1 : n < 1
  · have hw := width_small h1
    go_enter Try.func13, Try.ntmps13
    go_wp2
    go_ret
    rw [hw]
    exact ⟨rfl, rfl⟩
  · have hw := bitLen_width (n := n) (by omega)
    have H := fun w => len_any n (by omega) (by omega) w
    have hm : n % 18446744073709551616 = n := by omega
    go_enter Try.func13, Try.ntmps13
    go_wp2_with fail
    refine (H _).mono ?_
    rintro e w' ⟨rfl, rfl⟩
    go_wp2
    go_ret
    exact ⟨rfl, rfl⟩

theorem lfloor_w (n : Int) (w : World) (hn : n ≤ 1099511627776) (hlo : -9223372036854775808 ≤ n) :
    Calls Try.prog 9 #[.int .i64 n] w fun e w' => e = .returned (.int .i64 ((floorI n : Nat) : Int)) ∧ w' = w := by
  by_cases h1 : n < 2
  · have hw := floor_small h1
    go_enter Try.func9, Try.ntmps9
    go_wp2
    go_ret
    rw [hw]
    exact ⟨rfl, rfl⟩
  · have H := fun w => lwidth_w n w hn hlo
    have hw := width_floor (n := n) (by omega)
    have h40 := floor_le40 hn
    rw [hw] at H
    generalize floorI n = f at *
    have hs : ((f + 1 : Nat) : Int) - 1 = (f : Int) := by omega
    have hwr : wrap64 ((f : Int)) = (f : Int) := by unfold wrap64; omega
    obtain ⟨q, hq⟩ : ∃ q : Int, q = ((f + 1 : Nat) : Int) := ⟨_, rfl⟩
    rw [← hq] at H hs
    have hq1 : 0 ≤ q ∧ q ≤ 41 := by omega
    go_enter Try.func9, Try.ntmps9
    go_wp2_with fail
    refine (H _).mono ?_
    rintro e w' ⟨rfl, rfl⟩
    go_wp2
    go_ret
    refine ⟨congrArg (fun z => Ending.returned (Value.int .i64 z)) ?_, rfl⟩
    omega

theorem lceil_w (n : Int) (w : World) (hn : n ≤ 1099511627776) (hlo : -9223372036854775808 ≤ n) :
    Calls Try.prog 11 #[.int .i64 n] w fun e w' => e = .returned (.int .i64 ((ceilI n : Nat) : Int)) ∧ w' = w := by
  by_cases h1 : n < 2
  · have hw := ceil_small h1
    go_enter Try.func11, Try.ntmps11
    go_wp2
    go_ret
    rw [hw]
    exact ⟨rfl, rfl⟩
  · have H := fun w => lwidth_w (n - 1) w (by omega) (by omega)
    have hw : widthI (n - 1) = ceilI n := by
      unfold widthI ceilI
      rw [if_neg (by omega), if_neg h1]
      congr 2
      omega
    rw [hw] at H
    go_enter Try.func11, Try.ntmps11
    go_wp2_with fail
    refine (H _).mono ?_
    rintro e w' ⟨rfl, rfl⟩
    go_wp2
    go_ret
    exact ⟨rfl, rfl⟩

theorem lwidth_any (n : Int) (w : World) (hn : n ≤ 1099511627776) (hlo : -9223372036854775808 ≤ n) :
    Calls Try.prog 13 #[.int .i64 n] w fun e w' => e = .returned (.int .i64 ((widthI n : Nat) : Int)) ∧ Chg (fun _ => False) w w' :=
  (lwidth_w n w hn hlo).mono fun _ _ h => ⟨h.1, h.2 ▸ Chg.refl _ _⟩
theorem lfloor_any (n : Int) (w : World) (hn : n ≤ 1099511627776) (hlo : -9223372036854775808 ≤ n) :
    Calls Try.prog 9 #[.int .i64 n] w fun e w' => e = .returned (.int .i64 ((floorI n : Nat) : Int)) ∧ Chg (fun _ => False) w w' :=
  (lfloor_w n w hn hlo).mono fun _ _ h => ⟨h.1, h.2 ▸ Chg.refl _ _⟩
theorem lceil_any (n : Int) (w : World) (hn : n ≤ 1099511627776) (hlo : -9223372036854775808 ≤ n) :
    Calls Try.prog 11 #[.int .i64 n] w fun e w' => e = .returned (.int .i64 ((ceilI n : Nat) : Int)) ∧ Chg (fun _ => False) w w' :=
  (lceil_w n w hn hlo).mono fun _ _ h => ⟨h.1, h.2 ▸ Chg.refl _ _⟩

theorem foldl_take_succ (a : Int) (zs : List Int) (k : Nat) (hk : k < zs.length) : (zs.take (k + 1)).foldl max a = max ((zs.take k).foldl max a) (zs.getD k 0) := by
  rw [List.take_add_one, List.foldl_append]
  simp [List.getElem?_eq_getElem hk]

theorem lgreatest_w (a : Int) (g cap : Nat) (zs : List Int) (w : World) (hl : zs.length < 100000000000)
    (hc : ∀ j, j < zs.length → w.cell? ⟨g, j, none⟩ = some (.int .i64 (zs.getD j 0))) :
    Calls Try.prog 18 #[.int .i64 a, .slice (some ⟨g, 0, none⟩) zs.length cap] w fun e w' => e = .returned (.int .i64 (zs.foldl max a)) ∧ w' = w := by
  have HC := Lib.hid hc
  clear hc
  obtain ⟨n, hn⟩ : ∃ n, zs.length = n := ⟨_, rfl⟩
  rw [hn] at hl ⊢
  have HN := Lib.hid hn
  clear hn
  go_enter Try.func18, Try.ntmps18
  go_wp2
  go_loopw [5, 11] (fun o5 o11 wr => ∃ k : Nat, k ≤ n ∧ o11 = .int .i64 (k : Int) ∧ o5 = .int .i64 ((zs.take k).foldl max a) ∧ wr = w) (fun _ o11 _ => n - (intOf o11).toNat)
  case atStart => exact ⟨0, Nat.zero_le _, rfl, rfl, rfl⟩
  case round =>
    obtain ⟨k, hk, rfl, rfl, rfl⟩ := hrel
    by_cases hlt : k < n
    · have hcell := HC.out k (by rw [HN.out]; exact hlt)
      have hsu := foldl_take_succ a zs k (by rw [HN.out]; exact hlt)
      generalize zs.getD k 0 = x at *
      generalize (zs.take k).foldl max a = m at *
      have HSU := Lib.hid hsu
      clear hsu
      by_cases hgt : m < x
      · have d1 : decide (m < x) = true := decide_eq_true hgt
        go_wp2
        go_roundw
        case rel => exact ⟨k + 1, by omega, by go_num, by rw [HSU.out, show max m x = x by omega], trivial⟩
        case measure => simp [intOf]; omega
      · have d1 : decide (m < x) = false := decide_eq_false hgt
        go_wp2
        go_roundw
        case rel => exact ⟨k + 1, by omega, by go_num, by rw [HSU.out, show max m x = m by omega], trivial⟩
        case measure => simp [intOf]; omega
    · obtain rfl : k = n := by omega
      have hal : (zs.take k).foldl max a = zs.foldl max a := by rw [← HN.out, List.take_length]
      rw [hal]
      go_wp2
      go_ret
      exact ⟨rfl, rfl⟩

set_option maxRecDepth 100000 in
theorem lpick_any (n m t : Int) (w : World) (hn : n ≤ 1099511627776) (hlo : -9223372036854775808 ≤ n) (hm : m ≤ 1099511627776) (hmo : -9223372036854775808 ≤ m) (ht : t ≤ 1099511627776) (hto : -9223372036854775808 ≤ t) :
    Calls Try.prog 15 #[.int .i64 n, .int .i64 m, .int .i64 t] w fun e w' => e = .returned (.int .i64 (pickI n m t)) ∧ Chg (fun _ => False) w w' := by
  have F := fun w => lfloor_w n w hn hlo
  have C := fun w => lceil_w m w hm hmo
  have h40 := floor_le40 hn
  have hdef : pickI n m t = [5, ((ceilI m : Nat) : Int)].foldl max (min ((floorI n : Int) - 2) t) := rfl
  rw [hdef]
  clear hdef
  obtain ⟨c, hc⟩ : ∃ c : Int, ((ceilI m : Nat) : Int) = c := ⟨_, rfl⟩
  obtain ⟨f, hf⟩ : ∃ f : Int, ((floorI n : Nat) : Int) = f := ⟨_, rfl⟩
  rw [hc] at C ⊢
  rw [hf] at F ⊢
  have hf2 : 0 ≤ f ∧ f ≤ 40 := by omega
  have hf3 : wrap64 (f - 2) = f - 2 := by unfold wrap64; omega
  clear hc hf h40
  by_cases hmin : t < f - 2
  · have hmn : min (f - 2) t = t := by omega
    rw [hmn]
    clear hmn
    go_enter Try.func15, Try.ntmps15
    go_wp2_with fail
    refine (F _).mono ?_
    rintro e w' ⟨rfl, rfl⟩
    go_wp2_with fail
    refine (C _).mono ?_
    rintro e w' ⟨rfl, rfl⟩
    go_wp2_with fail
    refine (lgreatest_w t _ _ [5, c] _ (by simp) ?_).mono ?_
    · intro j hj
      match j, hj with
      | 0, _ => simp
      | 1, _ => simp
    rintro e w' ⟨rfl, rfl⟩
    go_wp2
    go_ret
    refine ⟨congrArg (fun z => Ending.returned (Value.int .i64 z)) ?_, Chg.alloc _ _ _⟩
    simp [Int.max_assoc]
  · have hmn : min (f - 2) t = f - 2 := by omega
    rw [hmn]
    clear hmn
    obtain ⟨q, hq⟩ : ∃ q : Int, f - 2 = q := ⟨_, rfl⟩
    rw [hq] at hmin ⊢
    have hwq : wrap64 q = q := by rw [← hq]; exact hf3
    clear hf3
    go_enter Try.func15, Try.ntmps15
    go_wp2_with fail
    refine (F _).mono ?_
    rintro e w' ⟨rfl, rfl⟩
    go_wp2_with fail
    refine (C _).mono ?_
    rintro e w' ⟨rfl, rfl⟩
    go_wp2_with fail
    refine (lgreatest_w q _ _ [5, c] _ (by simp) ?_).mono ?_
    · intro j hj
      match j, hj with
      | 0, _ => simp
      | 1, _ => simp
    rintro e w' ⟨rfl, rfl⟩
    go_wp2
    go_ret
    refine ⟨congrArg (fun z => Ending.returned (Value.int .i64 z)) ?_, Chg.alloc _ _ _⟩
    simp [Int.max_assoc]

end Go.Proofs.Ytkdgfnaelekjoaa
