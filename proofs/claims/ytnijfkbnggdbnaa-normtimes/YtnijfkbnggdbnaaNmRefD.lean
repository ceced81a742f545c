/- Logs of normalized counts; what the document's own Log (puncheonref08) tells. -/
import Derived.Test.YtnijfkbnggdbnaaNmRefB
namespace Go.Proofs.Ytnijfkbnggdbnaa
open Go.RowKit

/-- the log of which the sum t is; 0, if of none -/
def logI (t : Int) : Nat := if 1 ≤ floorI t ∧ floorI t ≤ 12 ∧ t = ((2 ^ floorI t : Nat) : Int) then floorI t else 0
theorem logI_pow {r : Nat} (h1 : 1 ≤ r) (h2 : r ≤ 12) : logI ((2 ^ r : Nat) : Int) = r := by
  unfold logI
  rw [floor_at, if_pos ⟨h1, h2, rfl⟩]
theorem logI_none {t : Int} (h : ∀ r : Nat, 1 ≤ r → r ≤ 12 → ¬ t = ((2 ^ r : Nat) : Int)) : logI t = 0 := by
  unfold logI
  rw [if_neg (fun hh => h _ hh.1 hh.2.1 hh.2.2)]
theorem logI_le (t : Int) : logI t ≤ 12 := by
  unfold logI
  split
  · next h => exact h.2.1
  · omega
theorem logI_spec (t : Int) : logI t = 0 ∨ (1 ≤ logI t ∧ t = ((2 ^ logI t : Nat) : Int)) := by
  by_cases h : 1 ≤ floorI t ∧ floorI t ≤ 12 ∧ t = ((2 ^ floorI t : Nat) : Int)
  · right
    have : logI t = floorI t := by unfold logI; rw [if_pos h]
    rw [this]; exact ⟨h.1, h.2.2⟩
  · left; unfold logI; rw [if_neg h]

set_option maxHeartbeats 1000000 in
theorem r8log_of (v : Value) (q : List Int) (w : World) (h : RdI w v q) (hTT : Calls Try.prog 24 #[v] w fun e w' => e = .returned (.int .i64 (totalI q)) ∧ w' = w) :
    Calls Try.prog 14 #[v] w fun e w' => e = .returned (.int .i64 ((logI (totalI q) : Nat) : Int)) ∧ w' = w := by
  have HT := Lib.hid hTT
  obtain ⟨ao, cap, rfl⟩ := h.form
  clear h hTT
  have htl := totalI_le q
  obtain ⟨t, ht⟩ : ∃ t, totalI q = t := ⟨_, rfl⟩
  rw [ht] at HT htl ⊢
  obtain ⟨ht0, ht1⟩ := htl
  obtain ⟨L, hL⟩ : ∃ L, logI t = L := ⟨_, rfl⟩
  rw [hL]
  have HL := Lib.hid hL
  clear ht hL
  go_enter Try.func14, Try.ntmps14
  go_wp2_with fail
  refine HT.out.mono ?_
  rintro e w' ⟨rfl, rfl⟩
  clear HT
  go_wp2
  go_loopw [4] (fun o4 wr => ∃ r : Nat, 1 ≤ r ∧ r ≤ 13 ∧ o4 = .int .i64 (r : Int) ∧ (∀ j, 1 ≤ j → j < r → ¬ t = ((2 ^ j : Nat) : Int)) ∧ wr = w') (fun o4 _ => 13 - (intOf o4).toNat)
  case atStart => exact ⟨1, Nat.le_refl _, by omega, rfl, fun j h1 h2 => by omega, rfl⟩
  case round =>
    obtain ⟨r, hr1, hr2, rfl, hno, rfl⟩ := hrel
    have HNO := Lib.hid hno
    clear hno
    by_cases hlt : r ≤ 12
    · have d1 : decide ((r : Int) ≤ 12) = true := by simp; omega
      have hlI : (r : Int) ≤ 12 := by omega
      have HP := Lib.hid (r8power_any r wr (by omega))
      have hpw := pow12 hlt
      obtain ⟨P, hP⟩ : ∃ P, 2 ^ r = P := ⟨_, rfl⟩
      rw [hP] at HP hpw
      have HPP := Lib.hid hP
      clear hP
      by_cases heq : t = (P : Int)
      · have hLr : L = r := by
          rw [← HL.out, heq, ← HPP.out]
          exact logI_pow hr1 hlt
        subst hLr
        subst heq
        go_wp2_with fail
        refine HP.out.mono ?_
        rintro e w2 ⟨rfl, rfl⟩
        go_wp2
        go_ret
        exact ⟨rfl, rfl⟩
      · have hne : (t == (P : Int)) = false := by simp [heq]
        go_wp2_with fail
        refine HP.out.mono ?_
        rintro e w2 ⟨rfl, rfl⟩
        go_wp2
        go_roundw
        case rel =>
          refine ⟨r + 1, by omega, by omega, by go_num, fun j h1 h2 => ?_, trivial⟩
          by_cases hjr : j = r
          · subst hjr; rw [HPP.out]; exact heq
          · exact HNO.out j h1 (by omega)
        case measure => simp [intOf]; omega
    · have hr13 : r = 13 := by omega
      have hrI : (r : Int) = 13 := by omega
      rw [hrI]
      have hL0 : L = 0 := by
        rw [← HL.out]
        exact logI_none fun j h1 h2 => HNO.out j h1 (by omega)
      subst hL0
      clear hr13 hrI hlt hr1 hr2
      go_wp2
      go_ret
      exact ⟨rfl, rfl⟩

theorem r8log_any (v : Value) (q : List Int) (w : World) (h : RdI w v q) (hb : ∀ z ∈ q, -9223372036854775808 ≤ z ∧ z ≤ 9223372036854775807) (hl : q.length < 100000000000) :
    Calls Try.prog 14 #[v] w fun e w' => e = .returned (.int .i64 ((logI (totalI q) : Nat) : Int)) ∧ w' = w := r8log_of v q w h (r5total_any v q w h hb hl)

/-- numbers of any length: none but 256 are right -/
theorem r5right_all (v : Value) (cs : List Int) (w : World) (h : RdI w v cs) (hb : ∀ z ∈ cs, -9223372036854775808 ≤ z ∧ z ≤ 9223372036854775807) :
    Calls Try.prog 35 #[v] w fun e w' => e = .returned (.bool (decide (isRight cs))) ∧ w' = w := by
  by_cases hlen : cs.length = 256
  · exact r5right_any v cs w h hb (by omega)
  · obtain ⟨ao, cap, rfl⟩ := h.form
    have hq : ((cs.length : Int) != 256) = true := by simp; omega
    clear h hb
    go_enter Try.func35, Try.ntmps35
    go_wp2
    go_ret
    have hd : decide (isRight cs) = false := decide_eq_false fun h => hlen h.1
    rw [hd]
    exact ⟨rfl, rfl⟩
theorem r5total_all (v : Value) (cs : List Int) (w : World) (h : RdI w v cs) (hb : ∀ z ∈ cs, -9223372036854775808 ≤ z ∧ z ≤ 9223372036854775807) :
    Calls Try.prog 24 #[v] w fun e w' => e = .returned (.int .i64 (totalI cs)) ∧ w' = w := by
  by_cases hlen : cs.length = 256
  · exact r5total_any v cs w h hb (by omega)
  · have HR := Lib.hid (r5right_all v cs w h hb)
    obtain ⟨ao, cap, rfl⟩ := h.form
    have hr : ¬ isRight cs := fun h => hlen h.1
    have hm : totalI cs = 0 := by unfold totalI; rw [if_neg hr]
    have HM := Lib.hid hm
    clear h hb hm
    go_enter Try.func24, Try.ntmps24
    go_wp2_with fail
    refine HR.out.mono ?_
    rintro e w' ⟨rfl, rfl⟩
    rw [decide_eq_false hr]
    clear HR hr hlen
    go_wp2
    go_loopw [3, 5] (fun o3 o5 wr => o5 = .int .i64 0 ∧ o3 = .int .i64 0 ∧ wr = w') (fun _ _ _ => 0)
    case atStart => exact ⟨rfl, rfl, rfl⟩
    case round =>
      obtain ⟨rfl, rfl, rfl⟩ := hrel
      by_cases hlt : 0 < cs.length
      · go_wp2
        go_ret
        rw [HM.out]
        exact ⟨rfl, rfl⟩
      · have h0 : cs.length = 0 := by omega
        rw [h0]
        go_wp2
        go_ret
        rw [HM.out]
        exact ⟨rfl, rfl⟩
theorem r8log_all (v : Value) (q : List Int) (w : World) (h : RdI w v q) (hb : ∀ z ∈ q, -9223372036854775808 ≤ z ∧ z ≤ 9223372036854775807) :
    Calls Try.prog 14 #[v] w fun e w' => e = .returned (.int .i64 ((logI (totalI q) : Nat) : Int)) ∧ w' = w := r8log_of v q w h (r5total_all v q w h hb)

end Go.Proofs.Ytnijfkbnggdbnaa
