/- What hist's Right, Many, Total, Of and Add tell. THIS ALONE SPEAKS OF THE PROGRAM'S OWN TEXT. -/
import Derived.Test.YtnijfkbnggdbnaaHsBase
namespace Go.Proofs.Ytnijfkbnggdbnaa
open Go.RowKit

set_option maxHeartbeats 1000000 in
set_option maxRecDepth 100000 in
theorem hright_any (v : Value) (cs : List Int) (w : World) (h : RdI w v cs) (hb : ∀ z ∈ cs, -9223372036854775808 ≤ z ∧ z ≤ 9223372036854775807) (hl : cs.length < 100000000000) :
    Calls Try.prog 30 #[v] w fun e w' => e = .returned (.bool (decide (isRight cs))) ∧ ∃ m, w' = w.drewN m := by
  obtain ⟨ao, cap, rfl⟩ := h.form
  have H := Lib.hid h; have HB := Lib.hid hb
  clear h hb
  by_cases hlen : cs.length = 256
  · have hq : ((cs.length : Int) != 256) = false := by rw [hlen]; rfl
    have HLEN := Lib.hid hlen
    have hle256 : cs.length ≤ 256 := by omega
    clear hlen
    go_enter Try.func30, Try.ntmps30
    go_wp2
    go_loopw [3, 11] (fun o3 o11 wr => ∃ k : Nat, k ≤ cs.length ∧ o11 = .int .i64 (k : Int) ∧ o3 = .int .i64 (1073741824 - tot (cs.take k)) ∧ upTo cs k ∧ tot (cs.take k) ≤ 1073741824 ∧ wr = w) (fun _ o11 _ => cs.length - (intOf o11).toNat)
    case atStart => exact ⟨0, Nat.zero_le _, rfl, by simp [tot], upTo_zero _, by simp [tot], rfl⟩
    case round =>
      obtain ⟨k, hk, rfl, rfl, hup, hle, rfl⟩ := hrel
      have h0 := upTo_take hup
      have HUP := Lib.hid hup
      clear hup
      by_cases hlt : k < cs.length
      · obtain ⟨g, off, rfl, hc⟩ := H.out.at k hlt
        have hsu := tot_take_succ cs k hlt
        have hat : isRight cs → _ := fun h => h.at k hlt
        have hbk := HB.out _ (getD_mem hlt)
        obtain ⟨x, hx⟩ : ∃ x, cs.getD k 0 = x := ⟨_, rfl⟩
        obtain ⟨t, ht⟩ : ∃ t, tot (cs.take k) = t := ⟨_, rfl⟩
        rw [hx] at hc hsu hat hbk
        rw [ht] at hsu hle h0 hat ⊢
        have HXX := Lib.hid hx; have HSU := Lib.hid hsu; have HAT := Lib.hid hat
        clear hx ht hsu hat
        by_cases hneg : x < 0
        · have d1 : decide (x < 0) = true := decide_eq_true hneg
          go_wp2
          go_ret
          have hd : decide (isRight cs) = false := decide_eq_false fun h => by have := HAT.out h; omega
          rw [hd]
          exact ⟨rfl, 0, rfl⟩
        · have d1 : decide (x < 0) = false := decide_eq_false hneg
          by_cases hbig : 1073741824 - t < x
          · have d2 : decide (1073741824 - t < x) = true := decide_eq_true hbig
            go_wp2
            go_ret
            have hd : decide (isRight cs) = false := decide_eq_false fun h => by have := HAT.out h; omega
            rw [hd]
            exact ⟨rfl, 0, rfl⟩
          · have d2 : decide (1073741824 - t < x) = false := decide_eq_false hbig
            go_wp2
            go_roundw
            case rel => exact ⟨k + 1, by omega, by go_num, by rw [HSU.out]; go_num, upTo_succ HUP.out (by rw [HXX.out]; omega), by rw [HSU.out]; omega, trivial⟩
            case measure => simp [intOf]; omega
      · obtain rfl : k = cs.length := by omega
        rw [List.take_length] at h0 hle ⊢
        have hd : decide (isRight cs) = true := decide_eq_true ⟨HLEN.out, upTo_all rfl HUP.out, hle⟩
        have HD := Lib.hid hd
        clear hd
        go_wp2
        go_ret
        rw [HD.out]
        exact ⟨rfl, 0, rfl⟩
  · have hq : ((cs.length : Int) != 256) = true := by simp; omega
    go_enter Try.func30, Try.ntmps30
    go_wp2
    go_ret
    have hd : decide (isRight cs) = false := decide_eq_false fun h => hlen h.1
    rw [hd]
    exact ⟨rfl, 0, rfl⟩

set_option maxHeartbeats 1000000 in
theorem hmany_any (v : Value) (cs : List Int) (w : World) (h : RdI w v cs) (hb : ∀ z ∈ cs, -9223372036854775808 ≤ z ∧ z ≤ 9223372036854775807) (hl : cs.length < 100000000000) :
    Calls Try.prog 18 #[v] w fun e w' => e = .returned (.int .i64 ((manyI cs : Nat) : Int)) ∧ ∃ m, w' = w.drewN m := by
  have HR := Lib.hid (hright_any v cs w h hb hl)
  obtain ⟨ao, cap, rfl⟩ := h.form
  have H := Lib.hid h; have HB := Lib.hid hb
  clear h hb
  go_enter Try.func18, Try.ntmps18
  go_wp2_with fail
  refine HR.out.mono ?_
  rintro e w' ⟨rfl, m0, rfl⟩
  clear HR
  by_cases hr : isRight cs
  · rw [decide_eq_true hr]
    have hlen : cs.length ≤ 256 := by rw [hr.1]; exact Nat.le_refl _
    have HRR := Lib.hid hr
    clear hr
    go_wp2
    go_loopw [3, 11] (fun o3 o11 wr => ∃ k : Nat, k ≤ cs.length ∧ o11 = .int .i64 (k : Int) ∧ o3 = .int .i64 ((pos (cs.take k) : Nat) : Int) ∧ wr = w.drewN m0) (fun _ o11 _ => cs.length - (intOf o11).toNat)
    case atStart => exact ⟨0, Nat.zero_le _, rfl, rfl, rfl⟩
    case round =>
      obtain ⟨k, hk, rfl, rfl, rfl⟩ := hrel
      have hp : pos (cs.take k) ≤ 256 := by have := pos_le (cs.take k); rw [List.length_take] at this; omega
      by_cases hlt : k < cs.length
      · obtain ⟨g, off, rfl, hc⟩ := H.out.at k hlt
        have hsu := pos_take_succ cs k hlt
        obtain ⟨x, hx⟩ : ∃ x, cs.getD k 0 = x := ⟨_, rfl⟩
        obtain ⟨t, ht⟩ : ∃ t, pos (cs.take k) = t := ⟨_, rfl⟩
        rw [hx] at hc hsu
        rw [ht] at hsu hp ⊢
        clear hx ht
        by_cases hx0 : 0 < x
        · have d1 : decide (0 < x) = true := decide_eq_true hx0
          rw [if_pos hx0] at hsu
          have HSU := Lib.hid hsu
          clear hsu
          go_wp2
          go_roundw
          case rel => exact ⟨k + 1, by omega, by go_num, by rw [HSU.out]; go_num, trivial⟩
          case measure => simp [intOf]; omega
        · have d1 : decide (0 < x) = false := decide_eq_false hx0
          rw [if_neg hx0] at hsu
          have HSU := Lib.hid hsu
          clear hsu
          go_wp2
          go_roundw
          case rel => exact ⟨k + 1, by omega, by go_num, by rw [HSU.out]; go_num, trivial⟩
          case measure => simp [intOf]; omega
      · obtain rfl : k = cs.length := by omega
        rw [List.take_length] at hp ⊢
        have hm : manyI cs = pos cs := by unfold manyI; rw [if_pos HRR.out]
        have HM := Lib.hid hm
        clear hm
        go_wp2
        go_ret
        rw [HM.out]
        exact ⟨rfl, m0, rfl⟩
  · rw [decide_eq_false hr]
    have hm : manyI cs = 0 := by unfold manyI; rw [if_neg hr]
    have HM := Lib.hid hm
    clear hm hr
    go_wp2
    go_ret
    rw [HM.out]
    exact ⟨rfl, m0, rfl⟩

set_option maxHeartbeats 1000000 in
theorem htotal_any (v : Value) (cs : List Int) (w : World) (h : RdI w v cs) (hb : ∀ z ∈ cs, -9223372036854775808 ≤ z ∧ z ≤ 9223372036854775807) (hl : cs.length < 100000000000) :
    Calls Try.prog 17 #[v] w fun e w' => e = .returned (.int .i64 (totalI cs)) ∧ ∃ m, w' = w.drewN m := by
  have HR := Lib.hid (hright_any v cs w h hb hl)
  obtain ⟨ao, cap, rfl⟩ := h.form
  have H := Lib.hid h; have HB := Lib.hid hb
  clear h hb
  go_enter Try.func17, Try.ntmps17
  go_wp2_with fail
  refine HR.out.mono ?_
  rintro e w' ⟨rfl, m0, rfl⟩
  clear HR
  by_cases hr : isRight cs
  · rw [decide_eq_true hr]
    have hlen : cs.length ≤ 256 := by rw [hr.1]; exact Nat.le_refl _
    have HRR := Lib.hid hr
    clear hr
    go_wp2
    go_loopw [3, 11] (fun o3 o11 wr => ∃ k : Nat, k ≤ cs.length ∧ o11 = .int .i64 (k : Int) ∧ o3 = .int .i64 (tot (cs.take k)) ∧ wr = w.drewN m0) (fun _ o11 _ => cs.length - (intOf o11).toNat)
    case atStart => exact ⟨0, Nat.zero_le _, rfl, rfl, rfl⟩
    case round =>
      obtain ⟨k, hk, rfl, rfl, rfl⟩ := hrel
      by_cases hlt : k < cs.length
      · obtain ⟨g, off, rfl, hc⟩ := H.out.at k hlt
        have hsu := tot_take_succ cs k hlt
        have hat := HRR.out.at k hlt
        have h0 : 0 ≤ tot (cs.take k) := tot_nonneg _ fun c hc => HRR.out.2.1 c (List.mem_of_mem_take hc)
        obtain ⟨x, hx⟩ : ∃ x, cs.getD k 0 = x := ⟨_, rfl⟩
        obtain ⟨t, ht⟩ : ∃ t, tot (cs.take k) = t := ⟨_, rfl⟩
        rw [hx] at hc hsu hat
        rw [ht] at hsu hat h0 ⊢
        have HSU := Lib.hid hsu
        clear hx ht hsu
        go_wp2
        go_roundw
        case rel => exact ⟨k + 1, by omega, by go_num, by rw [HSU.out], trivial⟩
        case measure => simp [intOf]; omega
      · obtain rfl : k = cs.length := by omega
        rw [List.take_length]
        have hm : totalI cs = tot cs := by unfold totalI; rw [if_pos HRR.out]
        have HM := Lib.hid hm
        clear hm
        go_wp2
        go_ret
        rw [HM.out]
        exact ⟨rfl, m0, rfl⟩
  · rw [decide_eq_false hr]
    have hm : totalI cs = 0 := by unfold totalI; rw [if_neg hr]
    have HM := Lib.hid hm
    clear hm hr
    go_wp2
    go_ret
    rw [HM.out]
    exact ⟨rfl, m0, rfl⟩

theorem cnt_take_succ (xs : List Nat) (k : Nat) (hk : k < xs.length) (hx : xs.getD k 0 < 256) : cnt (xs.take (k + 1)) = (cnt (xs.take k)).set (xs.getD k 0) ((cnt (xs.take k)).getD (xs.getD k 0) 0 + 1) := by
  rw [← cnt_snoc _ _ hx]
  congr 1
  rw [List.take_succ_eq_append_getElem hk, List.getD_eq_getElem?_getD, List.getElem?_eq_getElem hk]; rfl

theorem cnt_bound (xs : List Nat) (u : Nat) (hu : u < 256) : 0 ≤ (cnt xs).getD u 0 ∧ (cnt xs).getD u 0 ≤ xs.length := by
  rw [cnt_getD _ _ hu]
  have h1 := List.count_le_length (l := xs) (a := u)
  omega

end Go.Proofs.Ytnijfkbnggdbnaa
