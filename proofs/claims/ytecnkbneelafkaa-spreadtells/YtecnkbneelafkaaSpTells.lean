/- SpreadTells' walk. -/
import Derived.Test.YtecnkbneelafkaaBase3
namespace Go.Proofs.Ytecnkbneelafkaa
open Go.RowKit

theorem SpreadSays.list {w w' : World} {q : List Int} {e : Ending} (h : SpreadSays w q e w') : ∃ v' l, e = .returned (.tuple #[v', .int .i64 (if logI (totalI q) = 0 then 1 else 0)]) ∧ RdB w' v' l ∧ (∀ x ∈ l, x < 256) ∧ (logI (totalI q) = 0 → l = []) ∧ (logI (totalI q) ≠ 0 → IsSpread (fq q) 256 l) ∧ Chg (fun _ => False) w w' := by
  obtain ⟨v', he, h1, h2, hc⟩ := h
  by_cases hk : logI (totalI q) = 0
  · exact ⟨v', [], he, h2 hk, by simp, fun _ => rfl, fun h => absurd hk h, hc⟩
  · obtain ⟨l, ho, hs⟩ := h1 hk
    refine ⟨v', l, he, ho.rd, fun x hx => ?_, fun h => absurd h hk, fun _ => hs, hc⟩
    obtain ⟨p, hp, rfl⟩ := List.mem_iff_getElem.1 hx
    have := (hs.is hp rfl).1
    rw [List.getD_eq_getElem?_getD, List.getElem?_eq_getElem hp] at this
    exact this

set_option maxHeartbeats 2000000 in
theorem spreadTells_walk (v : Value) (q : List Int) (w : World) (h : RdI w v q) (hb : ∀ z ∈ q, -9223372036854775808 ≤ z ∧ z ≤ 9223372036854775807) (hl : q.length ≤ 9223372036854775807) :
    Calls Try.prog 3 #[v] w fun e w' => e = .returned (.bool true) ∧ Chg (fun _ => False) w w' := by
  obtain ⟨ao, cap, rfl⟩ := h.form
  have H := Lib.hid h; have HB := Lib.hid hb
  clear h hb
  go_enter Try.func3, Try.ntmps3
  go_wp2_with fail
  refine (awake10_any _).mono ?_
  rintro e w1 ⟨rfl, hc⟩
  have HC := Lib.hid hc
  clear hc
  go_wp2_with fail
  refine (r10few_any _ q w1 (H.out.kept HC.out (by simp)) HB.out hl).mono ?_
  rintro e w1' ⟨rfl, rfl⟩
  by_cases hfew : pos q ≤ 60 ∧ logI (totalI q) ≤ 9
  · rw [decide_eq_true hfew]
    clear hfew
    by_cases h300 : 300 < q.length
    · have d3 : decide (300 < (q.length : Int)) = true := decide_eq_true (by omega)
      go_wp2
      go_ret
      exact ⟨rfl, HC.out⟩
    · have d3 : decide (300 < (q.length : Int)) = false := decide_eq_false (by omega)
      have hl2 : q.length < 100000000000 := by omega
      go_wp2_with fail
      refine (sof_any _ q _ (H.out.kept HC.out (by simp)) HB.out hl2).mono ?_
      rintro e w2 hs
      obtain ⟨v2, l2, rfl, hr2, hx2, hn2, hy2, hc2⟩ := hs.list
      replace HC := Lib.hid (HC.out.trans hc2 fun _ _ h => h)
      have HR2 := Lib.hid hr2; have HX2 := Lib.hid hx2; have HN2 := Lib.hid hn2; have HY2 := Lib.hid hy2
      obtain ⟨ec, hec⟩ : ∃ ec : Int, (if logI (totalI q) = 0 then (1 : Int) else 0) = ec := ⟨_, rfl⟩
      rw [hec]
      have HEC := Lib.hid hec
      clear hs hc2 hr2 hx2 hn2 hy2 hec
      go_wp2_with fail
      refine (r10of_any _ q _ (H.out.kept HC.out (by simp)) HB.out hl2).mono ?_
      rintro e w3 hs
      obtain ⟨v3, l3, rfl, hr3, hx3, hn3, hy3, hc3⟩ := hs.list
      have he : l2 = l3 := by
        by_cases hk : logI (totalI q) = 0
        · rw [HN2.out hk, hn3 hk]
        · exact (HY2.out hk).one (hy3 hk)
      replace HC := Lib.hid (HC.out.trans hc3 fun _ _ h => h)
      replace HR2 := Lib.hid (HR2.out.kept hc3 (by simp))
      have HR3 := Lib.hid hr3; have HX3 := Lib.hid hx3; have HE := Lib.hid he
      clear hs hc3 hr3 hx3 hn3 hy3 he HN2 HY2
      rw [HEC.out]
      go_wp2_with fail
      refine (r10same_any _ _ l2 l3 _ HR2.out HR3.out HX2.out HX3.out).mono ?_
      rintro e w3' ⟨rfl, rfl⟩
      rw [decide_eq_true HE.out]
      go_wp2_with fail
      refine (slog_any _ q _ (H.out.kept HC.out (by simp)) HB.out hl2).mono ?_
      rintro e w4 ⟨rfl, hc4⟩
      replace HC := Lib.hid (HC.out.trans hc4 fun _ _ h => h)
      clear hc4
      go_wp2_with fail
      refine (r8log_any _ q _ (H.out.kept HC.out (by simp)) HB.out hl2).mono ?_
      rintro e w4' ⟨rfl, rfl⟩
      go_wp2
      go_ret
      exact ⟨rfl, HC.out⟩
  · rw [decide_eq_false hfew]
    clear hfew
    by_cases h300 : 300 < q.length
    · have d3 : decide (300 < (q.length : Int)) = true := decide_eq_true (by omega)
      go_wp2
      go_ret
      exact ⟨rfl, HC.out⟩
    · have d3 : decide (300 < (q.length : Int)) = false := decide_eq_false (by omega)
      go_wp2
      go_ret
      exact ⟨rfl, HC.out⟩

end Go.Proofs.Ytecnkbneelafkaa
