/- The walks of LogsTells, LogsRise and LogsDouble. -/
import Derived.Test.YtkdgfnaelekjoaaLgAwake
import Derived.Test.YtkdgfnaelekjoaaLgRef
namespace Go.Proofs.Ytkdgfnaelekjoaa
open Go.RowKit

set_option maxHeartbeats 1000000 in
theorem ltells_any (n m t : Int) (w : World) (hn : -9223372036854775808 ≤ n ∧ n ≤ 9223372036854775807) (hm : -9223372036854775808 ≤ m ∧ m ≤ 9223372036854775807) (ht : -9223372036854775808 ≤ t ∧ t ≤ 9223372036854775807) :
    Calls Try.prog 3 #[.int .i64 n, .int .i64 m, .int .i64 t] w fun e w' => Says w e w' := by
  by_cases b : 1099511627776 < n ∨ 1099511627776 < m ∨ 1099511627776 < t
  · go_enter Try.func3, Try.ntmps3
    go_wp2_with fail
    refine (awake7_any w).mono ?_
    rintro e w1 ⟨rfl, q1⟩
    by_cases b1 : 1099511627776 < n
    · go_wp2
      go_ret
      exact ⟨rfl, q1⟩
    · by_cases b2 : 1099511627776 < m
      · go_wp2
        go_ret
        exact ⟨rfl, q1⟩
      · have b3 : 1099511627776 < t := by omega
        go_wp2
        go_ret
        exact ⟨rfl, q1⟩
  · have b1 : ¬ 1099511627776 < n := by omega
    have b2 : ¬ 1099511627776 < m := by omega
    have b3 : ¬ 1099511627776 < t := by omega
    obtain ⟨F, hF⟩ : ∃ F, floorI n = F := ⟨_, rfl⟩
    obtain ⟨C, hC⟩ : ∃ C, ceilI n = C := ⟨_, rfl⟩
    obtain ⟨D, hD⟩ : ∃ D, widthI n = D := ⟨_, rfl⟩
    obtain ⟨P, hP⟩ : ∃ P, pickI n m t = P := ⟨_, rfl⟩
    have HF := Lib.hid hF; have HC := Lib.hid hC; have HD := Lib.hid hD; have HP := Lib.hid hP
    clear hF hC hD hP b
    go_enter Try.func3, Try.ntmps3
    go_wp2_with fail
    refine (awake7_any w).mono ?_
    rintro e w1 ⟨rfl, q1⟩
    go_wp2_with fail
    refine (lfloor_any n w1 (by omega) hn.1).mono ?_
    rintro e w2 ⟨rfl, hc2⟩
    rw [HF.out]
    have q2 := q1.trans hc2 (fun _ _ h => h)
    clear q1 hc2
    go_wp2_with fail
    refine (r7floor_any n w2 (by omega) hn.1).mono ?_
    rintro e w3 ⟨rfl, rfl⟩
    rw [HF.out]
    go_wp2_with fail
    refine (lceil_any n w3 (by omega) hn.1).mono ?_
    rintro e w4 ⟨rfl, hc4⟩
    rw [HC.out]
    have q4 := q2.trans hc4 (fun _ _ h => h)
    clear q2 hc4
    go_wp2_with fail
    refine (r7ceil_any n w4 (by omega) hn.1).mono ?_
    rintro e w5 ⟨rfl, rfl⟩
    rw [HC.out]
    go_wp2_with fail
    refine (lwidth_any n w5 (by omega) hn.1).mono ?_
    rintro e w6 ⟨rfl, hc6⟩
    rw [HD.out]
    have q6 := q4.trans hc6 (fun _ _ h => h)
    clear q4 hc6
    go_wp2_with fail
    refine (r7width_any n w6 (by omega) hn.1).mono ?_
    rintro e w7 ⟨rfl, rfl⟩
    rw [HD.out]
    go_wp2_with fail
    refine (lpick_any n m t w7 (by omega) hn.1 (by omega) hm.1 (by omega) ht.1).mono ?_
    rintro e w8 ⟨rfl, hc8⟩
    rw [HP.out]
    have q8 := q6.trans hc8 (fun _ _ h => h)
    clear q6 hc8
    go_wp2_with fail
    refine (r7pick_any n m t w8 (by omega) hn.1 (by omega) hm.1 (by omega) ht.1).mono ?_
    rintro e w9 ⟨rfl, rfl⟩
    rw [HP.out]
    go_wp2
    go_ret
    exact ⟨rfl, q8⟩

set_option maxHeartbeats 2000000 in
theorem ldouble_any (n : Int) (w : World) (hn : -9223372036854775808 ≤ n ∧ n ≤ 9223372036854775807) :
    Calls Try.prog 7 #[.int .i64 n] w fun e w' => Says w e w' := by
  by_cases b1 : n < 1
  · go_enter Try.func7, Try.ntmps7
    go_wp2_with fail
    refine (awake7_any w).mono ?_
    rintro e w1 ⟨rfl, q1⟩
    go_wp2
    go_ret
    exact ⟨rfl, q1⟩
  · by_cases b2 : 549755813888 ≤ n
    · go_enter Try.func7, Try.ntmps7
      go_wp2_with fail
      refine (awake7_any w).mono ?_
      rintro e w1 ⟨rfl, q1⟩
      go_wp2
      go_ret
      exact ⟨rfl, q1⟩
    · obtain ⟨f2, f3⟩ := floor_double (n := n) (by omega)
      have c2 := ceil_double (n := n) (by omega)
      obtain ⟨d2, d3⟩ := width_double (n := n) (by omega)
      have lf := floor_le40 (n := n) (by omega)
      have lc := ceil_le40 (n := n) (by omega)
      have lw := width_le41 (n := n) (by omega)
      obtain ⟨F, hF⟩ : ∃ F, floorI n = F := ⟨_, rfl⟩
      obtain ⟨C, hC⟩ : ∃ C, ceilI n = C := ⟨_, rfl⟩
      obtain ⟨D, hD⟩ : ∃ D, widthI n = D := ⟨_, rfl⟩
      rw [hF] at f2 f3 lf
      rw [hC] at c2 lc
      rw [hD] at d2 d3 lw
      have lf' : (F : Int) ≤ 40 := by omega
      have lc' : (C : Int) ≤ 40 := by omega
      have lw' : (D : Int) ≤ 41 := by omega
      have HF := Lib.hid hF; have HC := Lib.hid hC; have HD := Lib.hid hD
      have F2 := Lib.hid f2; have F3 := Lib.hid f3; have C2 := Lib.hid c2; have D2 := Lib.hid d2; have D3 := Lib.hid d3
      clear hF hC hD f2 f3 c2 d2 d3 lf lc lw
      go_enter Try.func7, Try.ntmps7
      go_wp2_with fail
      refine (awake7_any w).mono ?_
      rintro e w1 ⟨rfl, q1⟩
      go_wp2_with fail
      refine (lfloor_any (2 * n) w1 (by omega) (by omega)).mono ?_
      rintro e w2 ⟨rfl, hc⟩
      rw [F2.out]
      have q2 := q1.trans hc (fun _ _ h => h)
      clear q1 hc
      go_wp2_with fail
      refine (lfloor_any n w2 (by omega) (by omega)).mono ?_
      rintro e w3 ⟨rfl, hc⟩
      rw [HF.out]
      have q3 := q2.trans hc (fun _ _ h => h)
      clear q2 hc
      go_wp2_with fail
      refine (lceil_any (2 * n) w3 (by omega) (by omega)).mono ?_
      rintro e w4 ⟨rfl, hc⟩
      rw [C2.out]
      have q4 := q3.trans hc (fun _ _ h => h)
      clear q3 hc
      go_wp2_with fail
      refine (lceil_any n w4 (by omega) (by omega)).mono ?_
      rintro e w5 ⟨rfl, hc⟩
      rw [HC.out]
      have q5 := q4.trans hc (fun _ _ h => h)
      clear q4 hc
      go_wp2_with fail
      refine (lwidth_any (2 * n) w5 (by omega) (by omega)).mono ?_
      rintro e w6 ⟨rfl, hc⟩
      rw [D2.out]
      have q6 := q5.trans hc (fun _ _ h => h)
      clear q5 hc
      go_wp2_with fail
      refine (lwidth_any n w6 (by omega) (by omega)).mono ?_
      rintro e w7 ⟨rfl, hc⟩
      rw [HD.out]
      have q7 := q6.trans hc (fun _ _ h => h)
      clear q6 hc
      go_wp2_with fail
      refine (lwidth_any (2 * n + 1) w7 (by omega) (by omega)).mono ?_
      rintro e w8 ⟨rfl, hc⟩
      rw [D3.out]
      have q8 := q7.trans hc (fun _ _ h => h)
      clear q7 hc
      go_wp2_with fail
      refine (lwidth_any n w8 (by omega) (by omega)).mono ?_
      rintro e w9 ⟨rfl, hc⟩
      rw [HD.out]
      have q9 := q8.trans hc (fun _ _ h => h)
      clear q8 hc
      go_wp2_with fail
      refine (lfloor_any (2 * n + 1) w9 (by omega) (by omega)).mono ?_
      rintro e w10 ⟨rfl, hc⟩
      rw [F3.out]
      have q10 := q9.trans hc (fun _ _ h => h)
      clear q9 hc
      go_wp2_with fail
      refine (lfloor_any n w10 (by omega) (by omega)).mono ?_
      rintro e w11 ⟨rfl, hc⟩
      rw [HF.out]
      have q11 := q10.trans hc (fun _ _ h => h)
      clear q10 hc
      go_wp2
      go_ret
      exact ⟨rfl, q11⟩

set_option maxHeartbeats 2000000 in
theorem lrise_any (n m t : Int) (a : Nat) (w : World) (hn : -9223372036854775808 ≤ n ∧ n ≤ 9223372036854775807) (hm : -9223372036854775808 ≤ m ∧ m ≤ 9223372036854775807) (ht : -9223372036854775808 ≤ t ∧ t ≤ 9223372036854775807) (ha : a < 4294967296) :
    Calls Try.prog 6 #[.int .i64 n, .int .i64 m, .int .i64 t, .int .u32 (a : Int)] w fun e w' => Says w e w' := by
  by_cases b : 549755813888 < n ∨ 549755813888 < m ∨ 549755813888 < t ∨ n < 0 ∨ m < 0 ∨ t < 0
  · go_enter Try.func6, Try.ntmps6
    go_wp2_with fail
    refine (awake7_any w).mono ?_
    rintro e w1 ⟨rfl, q1⟩
    by_cases b1 : 549755813888 < n
    · go_wp2
      go_ret
      exact ⟨rfl, q1⟩
    by_cases b2 : 549755813888 < m
    · go_wp2
      go_ret
      exact ⟨rfl, q1⟩
    by_cases b3 : 549755813888 < t
    · go_wp2
      go_ret
      exact ⟨rfl, q1⟩
    by_cases b4 : n < 0
    · go_wp2
      go_ret
      exact ⟨rfl, q1⟩
    by_cases b5 : m < 0
    · go_wp2
      go_ret
      exact ⟨rfl, q1⟩
    · have b6 : t < 0 := by omega
      go_wp2
      go_ret
      exact ⟨rfl, q1⟩
  · have b1 : ¬ 549755813888 < n := by omega
    have b2 : ¬ 549755813888 < m := by omega
    have b3 : ¬ 549755813888 < t := by omega
    have b4 : ¬ n < 0 := by omega
    have b5 : ¬ m < 0 := by omega
    have b6 : ¬ t < 0 := by omega
    have p1 := pick_mono (n := n) (n' := n + a) (m := m) (m' := m) (most := t) (most' := t) (by omega) (by omega) (by omega)
    have p2 := pick_mono (n := n) (n' := n) (m := m) (m' := m + a) (most := t) (most' := t) (by omega) (by omega) (by omega)
    have p3 := pick_mono (n := n) (n' := n) (m := m) (m' := m) (most := t) (most' := t + a) (by omega) (by omega) (by omega)
    have f1 := floor_mono (n := n) (m := n + a) (by omega)
    have c1 := ceil_mono (n := n) (m := n + a) (by omega)
    obtain ⟨K, hK⟩ : ∃ K, pickI n m t = K := ⟨_, rfl⟩
    obtain ⟨P1, hP1⟩ : ∃ P1, pickI (n + a) m t = P1 := ⟨_, rfl⟩
    obtain ⟨P2, hP2⟩ : ∃ P2, pickI n (m + a) t = P2 := ⟨_, rfl⟩
    obtain ⟨P3, hP3⟩ : ∃ P3, pickI n m (t + a) = P3 := ⟨_, rfl⟩
    obtain ⟨F, hF⟩ : ∃ F, floorI n = F := ⟨_, rfl⟩
    obtain ⟨F1, hF1⟩ : ∃ F1, floorI (n + a) = F1 := ⟨_, rfl⟩
    obtain ⟨C, hC⟩ : ∃ C, ceilI n = C := ⟨_, rfl⟩
    obtain ⟨C1, hC1⟩ : ∃ C1, ceilI (n + a) = C1 := ⟨_, rfl⟩
    rw [hK, hP1] at p1
    rw [hK, hP2] at p2
    rw [hK, hP3] at p3
    rw [hF, hF1] at f1
    rw [hC, hC1] at c1
    have HK := Lib.hid hK; have HP1 := Lib.hid hP1; have HP2 := Lib.hid hP2; have HP3 := Lib.hid hP3; have HF := Lib.hid hF; have HF1 := Lib.hid hF1; have HC := Lib.hid hC; have HC1 := Lib.hid hC1
    clear b hK hP1 hP2 hP3 hF hF1 hC hC1
    go_enter Try.func6, Try.ntmps6
    go_wp2_with fail
    refine (awake7_any w).mono ?_
    rintro e w1 ⟨rfl, q1⟩
    go_wp2_with fail
    refine (lpick_any n m t w1 (by omega) (by omega) (by omega) (by omega) (by omega) (by omega)).mono ?_
    rintro e w2 ⟨rfl, hc⟩
    rw [HK.out]
    have q2 := q1.trans hc (fun _ _ h => h)
    clear q1 hc
    go_wp2_with fail
    refine (lpick_any (n + a) m t w2 (by omega) (by omega) (by omega) (by omega) (by omega) (by omega)).mono ?_
    rintro e w3 ⟨rfl, hc⟩
    rw [HP1.out]
    have q3 := q2.trans hc (fun _ _ h => h)
    clear q2 hc
    go_wp2_with fail
    refine (lpick_any n (m + a) t w3 (by omega) (by omega) (by omega) (by omega) (by omega) (by omega)).mono ?_
    rintro e w4 ⟨rfl, hc⟩
    rw [HP2.out]
    have q4 := q3.trans hc (fun _ _ h => h)
    clear q3 hc
    go_wp2_with fail
    refine (lpick_any n m (t + a) w4 (by omega) (by omega) (by omega) (by omega) (by omega) (by omega)).mono ?_
    rintro e w5 ⟨rfl, hc⟩
    rw [HP3.out]
    have q5 := q4.trans hc (fun _ _ h => h)
    clear q4 hc
    go_wp2_with fail
    refine (lfloor_any (n + a) w5 (by omega) (by omega)).mono ?_
    rintro e w6 ⟨rfl, hc⟩
    rw [HF1.out]
    have q6 := q5.trans hc (fun _ _ h => h)
    clear q5 hc
    go_wp2_with fail
    refine (lfloor_any n w6 (by omega) (by omega)).mono ?_
    rintro e w7 ⟨rfl, hc⟩
    rw [HF.out]
    have q7 := q6.trans hc (fun _ _ h => h)
    clear q6 hc
    go_wp2_with fail
    refine (lceil_any (n + a) w7 (by omega) (by omega)).mono ?_
    rintro e w8 ⟨rfl, hc⟩
    rw [HC1.out]
    have q8 := q7.trans hc (fun _ _ h => h)
    clear q7 hc
    go_wp2_with fail
    refine (lceil_any n w8 (by omega) (by omega)).mono ?_
    rintro e w9 ⟨rfl, hc⟩
    rw [HC.out]
    have q9 := q8.trans hc (fun _ _ h => h)
    clear q8 hc
    go_wp2
    go_ret
    exact ⟨rfl, q9⟩

end Go.Proofs.Ytkdgfnaelekjoaa
