/- DtabTells' walk. -/
import Derived.Test.YtbopamcnlocdbaaBase3
namespace Go.Proofs.Ytbopamcnlocdbaa
open Go.RowKit

theorem DtabSays.list {w w' : World} {q : List Int} {e : Ending} (h : DtabSays w q e w') : ∃ v' l, e = .returned (.tuple #[v', .int .i64 (if logI (totalI q) = 0 then 1 else 0)]) ∧ RdC w' v' l ∧ l.length < 100000 ∧ (logI (totalI q) = 0 → l = []) ∧ (logI (totalI q) ≠ 0 → IsDtab (fq q) (logI (totalI q)) l) ∧ Chg (fun _ => False) w w' := by
  obtain ⟨v', he, h1, h2, hc⟩ := h
  by_cases hk : logI (totalI q) = 0
  · exact ⟨v', [], he, h2 hk, by simp, fun _ => rfl, fun h => absurd hk h, hc⟩
  · obtain ⟨l, ho, hs⟩ := h1 hk
    refine ⟨v', l, he, ho, ?_, fun h => absurd h hk, fun _ => hs, hc⟩
    have := pow12 (logI_le (totalI q))
    rw [hs.len]; omega

set_option maxHeartbeats 2000000 in
theorem dtabTells_walk (v : Value) (q : List Int) (w : World) (h : RdI w v q) (hb : ∀ z ∈ q, -9223372036854775808 ≤ z ∧ z ≤ 9223372036854775807) (hl : q.length ≤ 9223372036854775807) :
    Calls Try.prog 3 #[v] w fun e w' => e = .returned (.bool true) ∧ Chg (fun _ => False) w w' := by
  obtain ⟨ao, cap, rfl⟩ := h.form
  have H := Lib.hid h; have HB := Lib.hid hb
  clear h hb
  go_enter Try.func3, Try.ntmps3
  go_wp2_with fail
  refine (awake11_any _).mono ?_
  rintro e w1 ⟨rfl, hc⟩
  have HC := Lib.hid hc
  clear hc
  go_wp2_with fail
  refine (r10few_any _ q w1 (H.out.kept HC.out (by simp)) HB.out hl).mono ?_
  rintro e w1' ⟨rfl, rfl⟩
  by_cases hfew : pos q ≤ 60 ∧ logI (totalI q) ≤ 9
  · rw [decide_eq_true hfew]
    clear hfew
    by_cases h300 : 300 < q.length
    · have d3 : decide (300 < (q.length : Int)) = true := decide_eq_true (by omega)
      go_wp2
      go_ret
      exact ⟨rfl, HC.out⟩
    · have d3 : decide (300 < (q.length : Int)) = false := decide_eq_false (by omega)
      have hl2 : q.length < 100000000000 := by omega
      go_wp2_with fail
      refine (dof_any _ q _ (H.out.kept HC.out (by simp)) HB.out hl2).mono ?_
      rintro e w2 hs
      obtain ⟨v2, l2, rfl, hr2, hx2, hn2, hy2, hc2⟩ := hs.list
      replace HC := Lib.hid (HC.out.trans hc2 fun _ _ h => h)
      have HR2 := Lib.hid hr2; have HX2 := Lib.hid hx2; have HN2 := Lib.hid hn2; have HY2 := Lib.hid hy2
      obtain ⟨ec, hec⟩ : ∃ ec : Int, (if logI (totalI q) = 0 then (1 : Int) else 0) = ec := ⟨_, rfl⟩
      rw [hec]
      have HEC := Lib.hid hec
      clear hs hc2 hr2 hx2 hn2 hy2 hec
      go_wp2_with fail
      refine (r11of_any _ q _ (H.out.kept HC.out (by simp)) HB.out hl2).mono ?_
      rintro e w3 hs
      obtain ⟨v3, l3, rfl, hr3, hx3, hn3, hy3, hc3⟩ := hs.list
      have he : l2 = l3 := by
        by_cases hk : logI (totalI q) = 0
        · rw [HN2.out hk, hn3 hk]
        · exact (HY2.out hk).one (normQ_of hk).sum (hy3 hk)
      replace HC := Lib.hid (HC.out.trans hc3 fun _ _ h => h)
      replace HR2 := Lib.hid (HR2.out.kept hc3 (by simp))
      have HR3 := Lib.hid hr3; have HX3 := Lib.hid hx3; have HE := Lib.hid he
      clear hs hc3 hr3 hx3 hn3 hy3 he HN2 HY2
      rw [HEC.out]
      go_wp2_with fail
      refine (r11same_any _ _ l2 l3 _ HR2.out HR3.out (by have := HX2.out; omega) (by have := HX3.out; omega)).mono ?_
      rintro e w3' ⟨rfl, m, rfl⟩
      rw [decide_eq_true HE.out]
      go_wp2
      go_ret
      exact ⟨rfl, HC.out.drewN m⟩
  · rw [decide_eq_false hfew]
    clear hfew
    by_cases h300 : 300 < q.length
    · have d3 : decide (300 < (q.length : Int)) = true := decide_eq_true (by omega)
      go_wp2
      go_ret
      exact ⟨rfl, HC.out⟩
    · have d3 : decide (300 < (q.length : Int)) = false := decide_eq_false (by omega)
      go_wp2
      go_ret
      exact ⟨rfl, HC.out⟩

end Go.Proofs.Ytbopamcnlocdbaa
