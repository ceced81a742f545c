/- EtabTells' and EtabSteps' walks. -/
import Derived.Test.YtkdfifkmgpogfaaBase3
import Derived.Deep.RegionHeld3
namespace Go.Proofs.Ytkdfifkmgpogfaa
open Go.RowKit

set_option maxHeartbeats 2000000 in
theorem etabTells_walk (v : Value) (q : List Int) (s : Nat) (w : World) (h : RdI w v q) (hb : ∀ z ∈ q, -9223372036854775808 ≤ z ∧ z ≤ 9223372036854775807) (hl : q.length ≤ 9223372036854775807) (hs : s < 256) :
    Calls Try.prog 3 #[v, .int .u8 (s : Int)] w fun e w' => e = .returned (.bool true) ∧ Chg (fun _ => False) w w' := by
  obtain ⟨ao, cap, rfl⟩ := h.form
  have H := Lib.hid h; have HB := Lib.hid hb
  clear h hb
  go_enter Try.func3, Try.ntmps3
  go_wp2_with fail
  refine (awake12_any _).mono ?_
  rintro e w1 ⟨rfl, hc⟩
  have HC := Lib.hid hc
  clear hc
  go_wp2_with fail
  refine (r10few_any _ q w1 (H.out.kept HC.out (by simp)) HB.out hl).mono ?_
  rintro e w1' ⟨rfl, rfl⟩
  by_cases hfew : pos q ≤ 60 ∧ logI (totalI q) ≤ 9
  · rw [decide_eq_true hfew]
    clear hfew
    by_cases h300 : 300 < q.length
    · have d3 : decide (300 < (q.length : Int)) = true := decide_eq_true (by omega)
      go_wp2
      go_ret
      exact ⟨rfl, HC.out⟩
    · have d3 : decide (300 < (q.length : Int)) = false := decide_eq_false (by omega)
      have hl2 : q.length < 100000000000 := by omega
      go_wp2_with fail
      refine (enew_any _ q _ (H.out.kept HC.out (by simp)) HB.out hl2).mono ?_
      rintro e w2 ⟨hno, hyes, hc2⟩
      replace HC := Lib.hid (HC.out.trans hc2 fun _ _ h => h)
      clear hc2
      have HLG := Lib.hid (r8log_any _ q w2 (H.out.kept HC.out (by simp)) HB.out hl2)
      by_cases hk : logI (totalI q) = 0
      · obtain rfl := hno hk
        rw [hk] at HLG
        clear hno hyes hk
        go_wp2_with fail
        refine (HLG.out).mono ?_
        rintro e w3 ⟨rfl, rfl⟩
        go_wp2
        go_ret
        exact ⟨rfl, HC.out⟩
      · obtain ⟨a, rfl, hok⟩ := hyes hk
        have hq := normQ_of hk
        obtain ⟨k, hke⟩ : ∃ k, logI (totalI q) = k := ⟨_, rfl⟩
        rw [hke] at HLG hk hq
        have hkk : ((k : Int) == 0) = false := by simp; omega
        have HOK := Lib.hid hok; have HQ := Lib.hid hq
        clear hno hyes hk hok hq hke
        go_wp2_with fail
        refine (HLG.out).mono ?_
        rintro e w3 ⟨rfl, rfl⟩
        have hr3 := H.out.kept HC.out (by simp)
        obtain ⟨g, off, rfl, -⟩ := hr3.at s (by rw [HQ.out.1]; exact hs)
        have HCELL := Lib.hid fun W (hW : Chg (fun _ => False) w W) => HQ.out.cell (H.out.kept hW (by simp)) s hs
        have HEL := Lib.hid fun W (hW : EtOk W a q) => elog_any a q k W hW HQ.out
        have HEC := Lib.hid fun W (hW : EtOk W a q) => ecount_any a q k s W hW HQ.out hs
        have hsn : (s : Int) < (q.length : Int) := by rw [HQ.out.1]; omega
        obtain ⟨F, hF⟩ : ∃ F, fq q s = F := ⟨_, rfl⟩
        rw [hF] at HCELL HEC
        have HOKD := Lib.hid (HOK.out.kept ((Chg.refl (fun _ => False) w3).drew))
        have HCD := Lib.hid HC.out.drew
        have hcell0 := HCELL.out _ HCD.out
        clear hr3 hF HLG HOK HC
        go_wp2
        go_region_held3 (fun W => W.cell? ⟨g, off + s, none⟩ = some (.int .i64 (F : Int))) (assumption) (first
          | (go_at_call 12; refine (HEL.out _ HOKD.out).mono ?_; rintro e w4 ⟨rfl, hc4⟩; have HC4 := Lib.hid (HCD.out.trans hc4 fun _ _ h => h); have HOK4 := Lib.hid (HOKD.out.kept hc4); have hcell4 := HCELL.out _ HC4.out; clear hc4)
          | (go_at_call 13; refine (HEC.out _ HOK4.out).mono ?_; rintro e w5 ⟨rfl, hc5⟩; have HC5 := Lib.hid (HC4.out.trans hc5 fun _ _ h => h); have hcell5 := HCELL.out _ HC5.out; clear hc5))
        go_wp2
        go_ret
        exact ⟨rfl, HC5.out⟩
  · rw [decide_eq_false hfew]
    clear hfew
    by_cases h300 : 300 < q.length
    · have d3 : decide (300 < (q.length : Int)) = true := decide_eq_true (by omega)
      go_wp2
      go_ret
      exact ⟨rfl, HC.out⟩
    · have d3 : decide (300 < (q.length : Int)) = false := decide_eq_false (by omega)
      go_wp2
      go_ret
      exact ⟨rfl, HC.out⟩

/-- four results: an answer or none -/
theorem EncSays.four {q : List Int} {k : Nat} {x : Int} {s : Nat} {e : Ending} (h : EncSays q k x s e) : ∃ a n l : Int, ∃ b : Bool, e = .returned (.tuple #[.int .i64 a, .int .i64 n, .int .u32 l, .bool b]) := by
  by_cases hc : eCan q k x s
  · obtain ⟨n, -, h2⟩ := h.2 hc
    exact ⟨_, _, _, _, h2⟩
  · exact ⟨_, _, _, _, h.1 hc⟩

set_option maxHeartbeats 2000000 in
theorem etabSteps_walk (v : Value) (xs : List Nat) (r : Nat) (x : Int) (s : Nat) (w : World) (h : RdH w v xs) (hx : ∀ x ∈ xs, x < 65536) (hr : r < 256) (hx2 : -9223372036854775808 ≤ x ∧ x ≤ 9223372036854775807) (hs : s < 256) :
    Calls Try.prog 4 #[v, .int .u8 (r : Int), .int .i64 x, .int .u8 (s : Int)] w fun e w' => e = .returned (.bool true) ∧ Chg (fun _ => False) w w' := by
  obtain ⟨ao, cap, rfl⟩ := h.form
  have H := Lib.hid h; have HX := Lib.hid hx
  clear h hx
  go_enter Try.func4, Try.ntmps4
  go_wp2_with fail
  refine (awake12_any _).mono ?_
  rintro e w1 ⟨rfl, hc⟩
  have HC := Lib.hid hc
  clear hc
  by_cases h80 : 80 < xs.length
  · have d3 : decide (80 < (xs.length : Int)) = true := decide_eq_true (by omega)
    go_wp2
    go_ret
    exact ⟨rfl, HC.out⟩
  · have d3 : decide (80 < (xs.length : Int)) = false := decide_eq_false (by omega)
    go_wp2_with fail
    refine (r8some_any _ xs r _ (H.out.kept HC.out (by simp)) HX.out (by omega) hr).mono ?_
    rintro e w2 ⟨v2, q, k, rfl, ho, hq, hk5, hk9, hc2⟩
    replace HC := Lib.hid (HC.out.trans hc2 fun _ _ h => h)
    have HQ := Lib.hid hq
    have HNW := Lib.hid (enew_any _ q w2 ho.rd hq.bnd (by rw [hq.1]; omega))
    have HRQ := Lib.hid ho.rd
    have hk0 : logI (totalI q) ≠ 0 := by rw [hq.log]; omega
    have HK0 := Lib.hid hk0
    clear hq hc2 hk5 hk9 hk0 ho
    go_wp2_with fail
    refine (HNW.out).mono ?_
    rintro e w3 ⟨-, hyes, hc3⟩
    obtain ⟨a, rfl, hok⟩ := hyes HK0.out
    have HOK := Lib.hid hok
    replace HC := Lib.hid (HC.out.trans hc3 fun _ _ h => h)
    replace HRQ := Lib.hid (HRQ.out.kept hc3 (by simp))
    clear hyes hok hc3 HNW
    go_wp2_with fail
    refine (estep_any a q k x s _ HOK.out HQ.out hs hx2).mono ?_
    rintro e w4 ⟨he, hc4⟩
    replace HC := Lib.hid (HC.out.trans hc4 fun _ _ h => h)
    replace HRQ := Lib.hid (HRQ.out.kept hc4 (by simp))
    have HE := Lib.hid he
    obtain ⟨b1, b2, b3, b4, rfl⟩ := he.four
    clear he hc4
    go_wp2_with fail
    refine (r12step_any _ q k x s _ HRQ.out HQ.out hs hx2).mono ?_
    rintro e w5 ⟨he2, m, rfl⟩
    obtain rfl := HE.out.one he2
    clear he2
    go_wp2
    go_ret
    exact ⟨rfl, HC.out.drewN m⟩

end Go.Proofs.Ytkdfifkmgpogfaa
