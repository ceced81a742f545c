/- The walks of NormTells and NormLogs. -/
import Derived.Test.YtnijfkbnggdbnaaNmAwake
import Derived.Test.YtnijfkbnggdbnaaNmRefC
namespace Go.Proofs.Ytnijfkbnggdbnaa
open Go.RowKit

set_option maxHeartbeats 2000000 in
theorem ntells_any (v : Value) (c : List Int) (r : Int) (w : World) (h : RdI w v c) (hb : ∀ z ∈ c, -9223372036854775808 ≤ z ∧ z ≤ 9223372036854775807) (hr : -9223372036854775808 ≤ r ∧ r ≤ 9223372036854775807) :
    Calls Try.prog 3 #[v, .int .i64 r] w fun e w' => Says w e w' := by
  obtain ⟨ao, cap, rfl⟩ := h.form
  have H := Lib.hid h; have HB := Lib.hid hb; have HR := Lib.hid hr
  clear h hb hr
  by_cases hbig : 300 < c.length
  · have hb' : decide (300 < (c.length : Int)) = true := by simp; omega
    go_enter Try.func3, Try.ntmps3
    go_wp2_with fail
    refine (awake8_any w).mono ?_
    rintro e w1 ⟨rfl, q1⟩
    go_wp2
    go_ret
    exact ⟨rfl, q1⟩
  have hb' : decide (300 < (c.length : Int)) = false := by simp; omega
  go_enter Try.func3, Try.ntmps3
  go_wp2_with fail
  refine (awake8_any w).mono ?_
  rintro e w1 ⟨rfl, q1⟩
  go_wp2_with fail
  refine (ncounts_any _ c r w1 (H.out.kept q1 (by simp)) HB.out (by omega) HR.out).mono ?_
  rintro e w2 ⟨v2, rfl, y2, n2, hc2⟩
  have q2 := q1.trans hc2 (fun _ _ h => h)
  clear q1 hc2
  obtain ⟨E, hE⟩ : ∃ E : Int, (if normOk c r then (0 : Int) else 1) = E := ⟨_, rfl⟩
  rw [hE]
  go_wp2_with fail
  refine (r8counts_any _ c r w2 (H.out.kept q2 (by simp)) HB.out (by omega) HR.out).mono ?_
  rintro e w3 ⟨v3, rfl, y3, n3, hc3⟩
  rw [hE]
  have q3 := q2.trans hc3 (fun _ _ h => h)
  by_cases hok : normOk c r
  · have o2 := (y2 hok).kept hc3 (by simp)
    have o3 := y3 hok
    have hlen : (normR c r).length < 100000000000 := by rw [show (normR c r).length = 256 from norm_len hok.fit]; omega
    have O2 := Lib.hid o2; have O3 := Lib.hid o3; have HLEN := Lib.hid hlen
    clear y2 n2 y3 n3 hc3 q2 hE o2 o3 hlen hok
    go_wp2_with fail
    refine (ints_c _ _ (normR c r) (normR c r) w3 O2.out.rd O3.out.rd HLEN.out HLEN.out).mono ?_
    rintro e w4 ⟨rfl, hc4⟩
    rw [decide_eq_true rfl]
    have q4 := q3.trans hc4 (fun _ _ h => h)
    clear q3 hc4
    go_wp2
    go_ret
    exact ⟨rfl, q4⟩
  · have o2 := (n2 hok).kept hc3 (by simp)
    have o3 := n3 hok
    have O2 := Lib.hid o2; have O3 := Lib.hid o3
    clear y2 n2 y3 n3 hc3 q2 hE o2 o3 hok
    go_wp2_with fail
    refine (ints_c _ _ [] [] w3 O2.out O3.out (by simp) (by simp)).mono ?_
    rintro e w4 ⟨rfl, hc4⟩
    rw [decide_eq_true rfl]
    have q4 := q3.trans hc4 (fun _ _ h => h)
    clear q3 hc4
    go_wp2
    go_ret
    exact ⟨rfl, q4⟩

set_option maxHeartbeats 2000000 in
theorem nlogs_any (v : Value) (q : List Int) (r : Int) (w : World) (h : RdI w v q) (hb : ∀ z ∈ q, -9223372036854775808 ≤ z ∧ z ≤ 9223372036854775807) (hr : -9223372036854775808 ≤ r ∧ r ≤ 9223372036854775807) :
    Calls Try.prog 4 #[v, .int .i64 r] w fun e w' => Says w e w' := by
  obtain ⟨ao, cap, rfl⟩ := h.form
  have H := Lib.hid h; have HB := Lib.hid hb; have HR := Lib.hid hr
  clear h hb hr
  by_cases hbig : 300 < q.length
  · have hb' : decide (300 < (q.length : Int)) = true := by simp; omega
    go_enter Try.func4, Try.ntmps4
    go_wp2_with fail
    refine (awake8_any w).mono ?_
    rintro e w1 ⟨rfl, q1⟩
    go_wp2
    go_ret
    exact ⟨rfl, q1⟩
  have hb' : decide (300 < (q.length : Int)) = false := by simp; omega
  have hll := logI_le (totalI q)
  obtain ⟨L, hL⟩ : ∃ L, logI (totalI q) = L := ⟨_, rfl⟩
  rw [hL] at hll
  have HL := Lib.hid hL; have HLL := Lib.hid hll
  clear hL hll
  go_enter Try.func4, Try.ntmps4
  go_wp2_with fail
  refine (awake8_any w).mono ?_
  rintro e w1 ⟨rfl, q1⟩
  go_wp2_with fail
  refine (nlog_any _ q w1 (H.out.kept q1 (by simp)) HB.out (by omega)).mono ?_
  rintro e w2 ⟨rfl, hc2⟩
  rw [HL.out]
  have q2 := q1.trans hc2 (fun _ _ h => h)
  clear q1 hc2
  go_wp2_with fail
  refine (r8log_any _ q w2 (H.out.kept q2 (by simp)) HB.out (by omega)).mono ?_
  rintro e w3 ⟨rfl, rfl⟩
  rw [HL.out]
  by_cases hL0 : L = 0
  · subst hL0
    rw [decide_eq_false (show ¬ 0 < 0 by omega)]
    go_wp2_with fail
    refine (nright_any _ q r w3 (H.out.kept q2 (by simp)) HB.out (by omega) HR.out).mono ?_
    rintro e w4 ⟨rfl, hc4⟩
    rw [HL.out, decide_eq_false (show ¬ (0 < 0 ∧ ((0 : Nat) : Int) = r) by omega)]
    have q4 := q2.trans hc4 (fun _ _ h => h)
    clear q2 hc4
    go_wp2
    go_ret
    exact ⟨rfl, q4⟩
  · have hLp : 0 < L := by omega
    rw [decide_eq_true hLp]
    go_wp2_with fail
    refine (nright_any _ q r w3 (H.out.kept q2 (by simp)) HB.out (by omega) HR.out).mono ?_
    rintro e w4 ⟨rfl, hc4⟩
    rw [HL.out]
    have q4 := q2.trans hc4 (fun _ _ h => h)
    clear q2 hc4
    by_cases hLr : (L : Int) = r
    · subst hLr
      rw [decide_eq_true (show 0 < L ∧ (L : Int) = (L : Int) from ⟨hLp, rfl⟩)]
      go_wp2
      go_ret
      exact ⟨rfl, q4⟩
    · rw [decide_eq_false (show ¬ (0 < L ∧ (L : Int) = r) from fun h => hLr h.2)]
      have hne : ((L : Int) == r) = false := by simp [hLr]
      go_wp2
      go_ret
      exact ⟨rfl, q4⟩

end Go.Proofs.Ytnijfkbnggdbnaa
