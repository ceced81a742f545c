/- What the document's own hist (puncheonref05) tells. -/
import Derived.Test.YtnijfkbnggdbnaaHsBase
namespace Go.Proofs.Ytnijfkbnggdbnaa
open Go.RowKit

set_option maxHeartbeats 1000000 in
set_option maxRecDepth 100000 in
theorem r5right_any (v : Value) (cs : List Int) (w : World) (h : RdI w v cs) (hb : ∀ z ∈ cs, -9223372036854775808 ≤ z ∧ z ≤ 9223372036854775807) (hl : cs.length < 100000000000) :
    Calls Try.prog 35 #[v] w fun e w' => e = .returned (.bool (decide (isRight cs))) ∧ w' = w := by
  obtain ⟨ao, cap, rfl⟩ := h.form
  have H := Lib.hid h; have HB := Lib.hid hb
  clear h hb
  by_cases hlen : cs.length = 256
  · have hq : ((cs.length : Int) != 256) = false := by rw [hlen]; rfl
    have HLEN := Lib.hid hlen
    clear hlen
    go_enter Try.func35, Try.ntmps35
    go_wp2
    go_loopw [3, 4] (fun o3 o4 wr => ∃ k : Nat, k ≤ 256 ∧ o4 = .int .i64 (k : Int) ∧ o3 = .int .i64 (tot (cs.take k)) ∧ upTo cs k ∧ tot (cs.take k) ≤ 1073741824 * (k : Int) ∧ wr = w) (fun _ o4 _ => 256 - (intOf o4).toNat)
    case atStart => exact ⟨0, Nat.zero_le _, rfl, rfl, upTo_zero _, by simp [tot], rfl⟩
    case round =>
      obtain ⟨k, hk, rfl, rfl, hup, hle, rfl⟩ := hrel
      have h0 := upTo_take hup
      have HUP := Lib.hid hup
      clear hup
      by_cases hlt : k < 256
      · have hkl : k < cs.length := by rw [HLEN.out]; exact hlt
        obtain ⟨g, off, rfl, hc⟩ := H.out.at k hkl
        have hsu := tot_take_succ cs k hkl
        have hat : isRight cs → _ := fun h => h.one k hkl
        have hbk := HB.out _ (getD_mem hkl)
        obtain ⟨x, hx⟩ : ∃ x, cs.getD k 0 = x := ⟨_, rfl⟩
        obtain ⟨t, ht⟩ : ∃ t, tot (cs.take k) = t := ⟨_, rfl⟩
        rw [hx] at hc hsu hat hbk
        rw [ht] at hsu hle h0 ⊢
        have hle2 : t ≤ 274877906944 := by omega
        have HXX := Lib.hid hx; have HSU := Lib.hid hsu; have HAT := Lib.hid hat; have HLE := Lib.hid hle
        clear hx ht hsu hat hle
        by_cases hneg : x < 0
        · have d1 : decide (x < 0) = true := decide_eq_true hneg
          go_wp2
          go_ret
          have hd : decide (isRight cs) = false := decide_eq_false fun h => by have := HAT.out h; omega
          rw [hd]
          exact ⟨rfl, rfl⟩
        · have d1 : decide (x < 0) = false := decide_eq_false hneg
          by_cases hbig : 1073741824 < x
          · have d2 : decide (1073741824 < x) = true := decide_eq_true hbig
            go_wp2
            go_ret
            have hd : decide (isRight cs) = false := decide_eq_false fun h => by have := HAT.out h; omega
            rw [hd]
            exact ⟨rfl, rfl⟩
          · have d2 : decide (1073741824 < x) = false := decide_eq_false hbig
            go_wp2
            go_roundw
            case rel => exact ⟨k + 1, by omega, by go_num, by rw [HSU.out], upTo_succ HUP.out (by rw [HXX.out]; omega), by rw [HSU.out]; have := HLE.out; omega, trivial⟩
            case measure => simp [intOf]; omega
      · obtain rfl : k = 256 := by omega
        have hall : cs.take 256 = cs := by rw [← HLEN.out, List.take_length]
        rw [hall] at h0 hle ⊢
        have hd : decide (isRight cs) = decide (tot cs ≤ 1073741824) := by
          rw [Bool.eq_iff_iff, decide_eq_true_iff, decide_eq_true_iff]
          exact ⟨fun h => h.2.2, fun h => ⟨HLEN.out, upTo_all HLEN.out HUP.out, h⟩⟩
        have HD := Lib.hid hd
        clear hd hall
        go_wp2
        go_ret
        rw [HD.out]
        exact ⟨rfl, rfl⟩
  · have hq : ((cs.length : Int) != 256) = true := by simp; omega
    go_enter Try.func35, Try.ntmps35
    go_wp2
    go_ret
    have hd : decide (isRight cs) = false := decide_eq_false fun h => hlen h.1
    rw [hd]
    exact ⟨rfl, rfl⟩

set_option maxHeartbeats 1000000 in
theorem r5many_any (v : Value) (cs : List Int) (w : World) (h : RdI w v cs) (hb : ∀ z ∈ cs, -9223372036854775808 ≤ z ∧ z ≤ 9223372036854775807) (hl : cs.length < 100000000000) :
    Calls Try.prog 26 #[v] w fun e w' => e = .returned (.int .i64 ((manyI cs : Nat) : Int)) ∧ w' = w := by
  have HR := Lib.hid (r5right_any v cs w h hb hl)
  obtain ⟨ao, cap, rfl⟩ := h.form
  have H := Lib.hid h; have HB := Lib.hid hb
  clear h hb
  go_enter Try.func26, Try.ntmps26
  go_wp2_with fail
  refine HR.out.mono ?_
  rintro e w' ⟨rfl, rfl⟩
  clear HR
  by_cases hr : isRight cs
  · rw [decide_eq_true hr]
    have hlen : cs.length ≤ 256 := by rw [hr.1]; exact Nat.le_refl _
    have HRR := Lib.hid hr
    clear hr
    go_wp2
    go_loopw [3, 5] (fun o3 o5 wr => ∃ k : Nat, k ≤ cs.length ∧ o5 = .int .i64 (k : Int) ∧ o3 = .int .i64 ((pos (cs.take k) : Nat) : Int) ∧ wr = w') (fun _ o5 _ => cs.length - (intOf o5).toNat)
    case atStart => exact ⟨0, Nat.zero_le _, rfl, rfl, rfl⟩
    case round =>
      obtain ⟨k, hk, rfl, rfl, rfl⟩ := hrel
      have hp : pos (cs.take k) ≤ 256 := by have := pos_le (cs.take k); rw [List.length_take] at this; omega
      by_cases hlt : k < cs.length
      · obtain ⟨g, off, rfl, hc⟩ := H.out.at k hlt
        have hsu := pos_take_succ cs k hlt
        obtain ⟨x, hx⟩ : ∃ x, cs.getD k 0 = x := ⟨_, rfl⟩
        obtain ⟨t, ht⟩ : ∃ t, pos (cs.take k) = t := ⟨_, rfl⟩
        rw [hx] at hc hsu
        rw [ht] at hsu hp ⊢
        clear hx ht
        by_cases hx0 : 0 < x
        · have d1 : decide (0 < x) = true := decide_eq_true hx0
          rw [if_pos hx0] at hsu
          have HSU := Lib.hid hsu
          clear hsu
          go_wp2
          go_roundw
          case rel => exact ⟨k + 1, by omega, by go_num, by rw [HSU.out]; go_num, trivial⟩
          case measure => simp [intOf]; omega
        · have d1 : decide (0 < x) = false := decide_eq_false hx0
          rw [if_neg hx0] at hsu
          have HSU := Lib.hid hsu
          clear hsu
          go_wp2
          go_roundw
          case rel => exact ⟨k + 1, by omega, by go_num, by rw [HSU.out]; go_num, trivial⟩
          case measure => simp [intOf]; omega
      · obtain rfl : k = cs.length := by omega
        rw [List.take_length] at hp ⊢
        have hm : manyI cs = pos cs := by unfold manyI; rw [if_pos HRR.out]
        have HM := Lib.hid hm
        clear hm
        go_wp2
        go_ret
        rw [HM.out]
        exact ⟨rfl, rfl⟩
  · rw [decide_eq_false hr]
    have hm : manyI cs = 0 := by unfold manyI; rw [if_neg hr]
    have HM := Lib.hid hm
    clear hm hr
    go_wp2
    go_loopw [3, 5] (fun o3 o5 wr => o5 = .int .i64 0 ∧ o3 = .int .i64 0 ∧ wr = w') (fun _ _ _ => 0)
    case atStart => exact ⟨rfl, rfl, rfl⟩
    case round =>
      obtain ⟨rfl, rfl, rfl⟩ := hrel
      by_cases hlt : 0 < cs.length
      · go_wp2
        go_ret
        rw [HM.out]
        exact ⟨rfl, rfl⟩
      · have h0 : cs.length = 0 := by omega
        rw [h0]
        go_wp2
        go_ret
        rw [HM.out]
        exact ⟨rfl, rfl⟩

set_option maxHeartbeats 1000000 in
theorem r5total_any (v : Value) (cs : List Int) (w : World) (h : RdI w v cs) (hb : ∀ z ∈ cs, -9223372036854775808 ≤ z ∧ z ≤ 9223372036854775807) (hl : cs.length < 100000000000) :
    Calls Try.prog 24 #[v] w fun e w' => e = .returned (.int .i64 (totalI cs)) ∧ w' = w := by
  have HR := Lib.hid (r5right_any v cs w h hb hl)
  obtain ⟨ao, cap, rfl⟩ := h.form
  have H := Lib.hid h; have HB := Lib.hid hb
  clear h hb
  go_enter Try.func24, Try.ntmps24
  go_wp2_with fail
  refine HR.out.mono ?_
  rintro e w' ⟨rfl, rfl⟩
  clear HR
  by_cases hr : isRight cs
  · rw [decide_eq_true hr]
    have hlen : cs.length ≤ 256 := by rw [hr.1]; exact Nat.le_refl _
    have HRR := Lib.hid hr
    clear hr
    go_wp2
    go_loopw [3, 5] (fun o3 o5 wr => ∃ k : Nat, k ≤ cs.length ∧ o5 = .int .i64 (k : Int) ∧ o3 = .int .i64 (tot (cs.take k)) ∧ wr = w') (fun _ o5 _ => cs.length - (intOf o5).toNat)
    case atStart => exact ⟨0, Nat.zero_le _, rfl, rfl, rfl⟩
    case round =>
      obtain ⟨k, hk, rfl, rfl, rfl⟩ := hrel
      by_cases hlt : k < cs.length
      · obtain ⟨g, off, rfl, hc⟩ := H.out.at k hlt
        have hsu := tot_take_succ cs k hlt
        have hat := HRR.out.at k hlt
        have h0 : 0 ≤ tot (cs.take k) := tot_nonneg _ fun c hc => HRR.out.2.1 c (List.mem_of_mem_take hc)
        obtain ⟨x, hx⟩ : ∃ x, cs.getD k 0 = x := ⟨_, rfl⟩
        obtain ⟨t, ht⟩ : ∃ t, tot (cs.take k) = t := ⟨_, rfl⟩
        rw [hx] at hc hsu hat
        rw [ht] at hsu hat h0 ⊢
        have HSU := Lib.hid hsu
        clear hx ht hsu
        go_wp2
        go_roundw
        case rel => exact ⟨k + 1, by omega, by go_num, by rw [HSU.out], trivial⟩
        case measure => simp [intOf]; omega
      · obtain rfl : k = cs.length := by omega
        rw [List.take_length]
        have hm : totalI cs = tot cs := by unfold totalI; rw [if_pos HRR.out]
        have HM := Lib.hid hm
        clear hm
        go_wp2
        go_ret
        rw [HM.out]
        exact ⟨rfl, rfl⟩
  · rw [decide_eq_false hr]
    have hm : totalI cs = 0 := by unfold totalI; rw [if_neg hr]
    have HM := Lib.hid hm
    clear hm hr
    go_wp2
    go_loopw [3, 5] (fun o3 o5 wr => o5 = .int .i64 0 ∧ o3 = .int .i64 0 ∧ wr = w') (fun _ _ _ => 0)
    case atStart => exact ⟨rfl, rfl, rfl⟩
    case round =>
      obtain ⟨rfl, rfl, rfl⟩ := hrel
      by_cases hlt : 0 < cs.length
      · go_wp2
        go_ret
        rw [HM.out]
        exact ⟨rfl, rfl⟩
      · have h0 : cs.length = 0 := by omega
        rw [h0]
        go_wp2
        go_ret
        rw [HM.out]
        exact ⟨rfl, rfl⟩

/-- counts of values below v whole, of v itself by the first k bytes -/
def cntTo (xs : List Nat) (v k : Nat) : List Int := (List.range 256).map fun u => if u < v then ((xs.count u : Nat) : Int) else if u = v then (((xs.take k).count u : Nat) : Int) else 0
theorem cntTo_length (xs : List Nat) (v k : Nat) : (cntTo xs v k).length = 256 := by simp [cntTo]
theorem cntTo_getD (xs : List Nat) (v k u : Nat) (h : u < 256) : (cntTo xs v k).getD u 0 = if u < v then ((xs.count u : Nat) : Int) else if u = v then (((xs.take k).count u : Nat) : Int) else 0 := by
  simp [cntTo, List.getD_eq_getElem?_getD, h]
theorem cntTo_zero (xs : List Nat) : cntTo xs 0 0 = List.replicate 256 0 := by
  apply ext_getD (by rw [cntTo_length, List.length_replicate])
  intro k hk
  rw [cntTo_length] at hk
  rw [cntTo_getD _ _ _ _ hk, List.getD_eq_getElem?_getD, List.getElem?_replicate, if_pos hk]
  simp
theorem cntTo_eq (xs : List Nat) (v k : Nat) (hv : v < 256) (hk : k < xs.length) (h : xs.getD k 0 = v) : (cntTo xs v k).set v ((cntTo xs v k).getD v 0 + 1) = cntTo xs v (k + 1) := by
  apply ext_getD (by rw [List.length_set, cntTo_length, cntTo_length])
  intro u hu
  rw [List.length_set, cntTo_length] at hu
  rw [cntTo_getD _ _ _ _ hu]
  have ht : xs.take (k + 1) = xs.take k ++ [v] := by
    rw [List.take_succ_eq_append_getElem hk, ← h, List.getD_eq_getElem?_getD, List.getElem?_eq_getElem hk]; rfl
  by_cases huv : v = u
  · subst huv
    rw [List.getD_eq_getElem?_getD, List.getElem?_set_self (by rw [cntTo_length]; exact hv), cntTo_getD _ _ _ _ hv, ht, List.count_append]
    simp
  · rw [List.getD_eq_getElem?_getD, List.getElem?_set_ne huv, ← List.getD_eq_getElem?_getD, cntTo_getD _ _ _ _ hu]
    rw [if_neg (show ¬ u = v by omega), if_neg (show ¬ u = v by omega)]
theorem cntTo_ne (xs : List Nat) (v k : Nat) (hk : k < xs.length) (h : ¬ xs.getD k 0 = v) : cntTo xs v (k + 1) = cntTo xs v k := by
  apply ext_getD (by rw [cntTo_length, cntTo_length])
  intro u hu
  rw [cntTo_length] at hu
  rw [cntTo_getD _ _ _ _ hu, cntTo_getD _ _ _ _ hu]
  by_cases huv : u = v
  · subst huv
    rw [List.take_succ_eq_append_getElem hk, List.count_append]
    rw [List.getD_eq_getElem?_getD, List.getElem?_eq_getElem hk] at h
    have : List.count u [xs[k]] = 0 := by rw [List.count_eq_zero]; simp; exact fun he => h he.symm
    rw [this]; rfl
  · rw [if_neg huv, if_neg huv]
theorem cntTo_next (xs : List Nat) (v : Nat) : cntTo xs v xs.length = cntTo xs (v + 1) 0 := by
  apply ext_getD (by rw [cntTo_length, cntTo_length])
  intro u hu
  rw [cntTo_length] at hu
  rw [cntTo_getD _ _ _ _ hu, cntTo_getD _ _ _ _ hu, List.take_length]
  by_cases h1 : u < v
  · rw [if_pos h1, if_pos (by omega)]
  · rw [if_neg h1]
    by_cases h2 : u = v
    · rw [if_pos h2, if_pos (by omega)]
    · rw [if_neg h2, if_neg (by omega)]; simp
theorem cntTo_all (xs : List Nat) : cntTo xs 256 0 = cnt xs := by
  apply ext_getD (by rw [cntTo_length, cnt_length])
  intro u hu
  rw [cntTo_length] at hu
  rw [cntTo_getD _ _ _ _ hu, cnt_getD _ _ hu, if_pos hu]
theorem cntTo_bound (xs : List Nat) (v k u : Nat) (hu : u < 256) : 0 ≤ (cntTo xs v k).getD u 0 ∧ (cntTo xs v k).getD u 0 ≤ xs.length := by
  rw [cntTo_getD _ _ _ _ hu]
  have h1 := List.count_le_length (l := xs) (a := u)
  have h2 := List.count_le_length (l := xs.take k) (a := u)
  rw [List.length_take] at h2
  split
  · omega
  · split <;> omega

end Go.Proofs.Ytnijfkbnggdbnaa
