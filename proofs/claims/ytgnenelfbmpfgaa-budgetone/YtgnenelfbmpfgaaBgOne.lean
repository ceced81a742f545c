/- BudgetOne's walk. -/
import Derived.Test.YtgnenelfbmpfgaaBgBack
import Derived.Test.YtgnenelfbmpfgaaBase2
import Derived.Test.YtgnenelfbmpfgaaNmSome
import Derived.Test.YtgnenelfbmpfgaaSliceHead
namespace Go.Proofs.Ytgnenelfbmpfgaa
open Go.RowKit

theorem getD_memN {ps : List Nat} {k : Nat} (h : k < ps.length) : ps.getD k 0 ∈ ps := by
  rw [List.getD_eq_getElem?_getD, List.getElem?_eq_getElem h]; exact List.getElem_mem h
theorem take_more (xs : List Nat) (p m : Nat) (h : p + m ≤ 8 * xs.length) : (bitsB xs).take p ++ bitsOf (fv xs p m) m = (bitsB xs).take (p + m) := by
  have hl : (((bitsB xs).drop p).take m).length = m := by rw [List.length_take, List.length_drop, bitsB_length]; omega
  have hv := bitsOf_val (((bitsB xs).drop p).take m)
  rw [hl] at hv
  unfold fv
  rw [hv, List.take_add]

set_option maxRecDepth 20000 in
set_option maxHeartbeats 4000000 in
theorem budgetOne_walk (v u : Value) (xs zs : List Nat) (w : World) (h : RdB w v xs) (hxs : ∀ y ∈ xs, y < 256) (hu : RdH w u zs) (hzs : ∀ z ∈ zs, z < 65536) :
    Calls Try.prog 7 #[v, u] w fun e w' => e = .returned (.bool true) ∧ Chg (fun _ => False) w w' := by
  obtain ⟨ao, cap, rfl⟩ := h.form
  obtain ⟨au, capu, rfl⟩ := hu.form
  have H := Lib.hid h; have HXS := Lib.hid hxs; have HU := Lib.hid hu; have HZS := Lib.hid hzs
  clear h hxs hu hzs
  by_cases hbig : 200 < xs.length
  · have hb' : decide (200 < (xs.length : Int)) = true := decide_eq_true (by omega)
    go_enter Try.func7, Try.ntmps7
    go_wp2_with fail
    refine (awake13_any w).mono ?_
    rintro e w1 ⟨rfl, hc1⟩
    go_wp2
    go_ret
    exact ⟨rfl, hc1⟩
  have hb' : decide (200 < (xs.length : Int)) = false := decide_eq_false (by omega)
  by_cases hbig2 : 40 < zs.length
  · have hb2' : decide (40 < (zs.length : Int)) = true := decide_eq_true (by omega)
    go_enter Try.func7, Try.ntmps7
    go_wp2_with fail
    refine (awake13_any w).mono ?_
    rintro e w1 ⟨rfl, hc1⟩
    go_wp2
    go_ret
    exact ⟨rfl, hc1⟩
  have hb2' : decide (40 < (zs.length : Int)) = false := decide_eq_false (by omega)
  go_enter Try.func7, Try.ntmps7
  go_wp2_with fail
  refine (awake13_any w).mono ?_
  rintro e w1 ⟨rfl, hc1⟩
  have C1 := Lib.hid hc1
  clear hc1
  go_wp2_with fail
  refine (fnew_any _ xs w1 (H.out.kept C1.out (by simp)) (by omega) HXS.out).mono ?_
  rintro e w2 ⟨b, o, rfl, r2, ab, hc2⟩
  have C2 := Lib.hid (C1.out.next hc2); have R2 := Lib.hid r2; have HL2 := Lib.hid r2.lt
  have HB := Lib.hid (show w.heap.size ≤ b by have := ab.1; have := C1.out.size; omega)
  clear hc2 r2 ab C1
  go_wp2_with fail
  refine (new_wr w2).mono ?_
  rintro e w3 ⟨rfl, hw3, hc3⟩
  obtain ⟨bw, hbw⟩ : ∃ bw, w2.heap.size = bw := ⟨_, rfl⟩
  rw [hbw] at hw3 ⊢
  have C3 := Lib.hid (C2.out.next hc3); have R3 := Lib.hid (R2.out.kept hc3 (by simp) (by simp)); have W3 := Lib.hid hw3
  have HBW := Lib.hid (show w.heap.size ≤ bw ∧ b < bw ∧ (∀ q, o = some q → q < bw) from ⟨by have := C2.out.size; omega, by have := HL2.out.1; omega, fun q hq => by have := (HL2.out.2 q hq).1; omega⟩)
  clear hw3 hc3 C2 R2 hbw HL2
  go_wp2
  go_loopw [8, 9, 10, 11, 12, 13, 14] (fun o8 o9 _ _ _ _ _ wr => ∃ (k p : Nat) (ow : Option Nat), k ≤ zs.length ∧ o9 = .int .i64 (k : Int) ∧ o8 = .int .i64 (p : Int) ∧ p ≤ 8 * xs.length ∧ Rf wr b o xs p ∧ Wr wr bw ow ((bitsB xs).take p) ∧ Above bw bw ow ∧ Chg (fun _ => False) w wr) (fun _ o9 _ _ _ _ _ _ => zs.length - (intOf o9).toNat)
  case atStart => exact ⟨0, 0, none, Nat.zero_le _, rfl, rfl, Nat.zero_le _, R3.out, W3.out, ⟨Nat.le_refl _, by simp⟩, C3.out⟩
  case round =>
    obtain ⟨k, p, ow, hk, rfl, rfl, hp8, hr, hw, hab, hc⟩ := hrel
    clear R3 W3 C3
    by_cases hlt : k < zs.length
    · obtain ⟨gu, offu, rfl, hcell⟩ := (HU.out.kept hc (by simp)).at k hlt
      have hz := HZS.out _ (getD_memN hlt)
      obtain ⟨z, hze⟩ : ∃ z, zs.getD k 0 = z := ⟨_, rfl⟩
      rw [hze] at hcell hz
      clear hze
      obtain ⟨z0, hz0⟩ : ∃ z0, z % 4096 = z0 := ⟨_, rfl⟩
      have hzI : (z : Int) % 4096 = (z0 : Int) := by omega
      have hzT : (z : Int).tmod 4096 = (z0 : Int) := by rw [Int.tmod_eq_emod_of_nonneg (by omega)]; exact hzI
      obtain ⟨l, hl⟩ : ∃ l, 1 + z0 = l := ⟨_, rfl⟩
      have hlI : 1 + (z0 : Int) = (l : Int) := by omega
      have hl1 : 1 ≤ (l : Int) := by omega
      have hl2 : (l : Int) ≤ 4096 := by omega
      have hwd := width_13 hl1 hl2
      have hzb : (z : Int) < 65536 := by omega
      have hz0b : (z0 : Int) < 4096 := by omega
      have TK := Lib.hid (bgtake_any b o xs p (l : Int) wr hr (by omega))
      have LW := Lib.hid fun W => lwidth_any (l : Int) W (by omega) (by omega)
      have hdef : bgTk xs p (l : Int) = if p + widthI (l : Int) ≤ 8 * xs.length then (if ((fv xs p (widthI (l : Int)) : Nat) : Int) ≤ (l : Int) then (((fv xs p (widthI (l : Int)) : Nat) : Int), 0, p + widthI (l : Int)) else (0, 13, p + widthI (l : Int))) else (0, 3, p) := by
        unfold bgTk; rw [if_pos ⟨hl1, hl2⟩]
      have hmore := take_more xs p (widthI (l : Int))
      obtain ⟨m, hm⟩ : ∃ m, widthI (l : Int) = m := ⟨_, rfl⟩
      have hput : ∀ (bs : List Bool) (f : Nat), (f : Int) ≤ (l : Int) → bCan (f : Int) (l : Int) ∧ bgPutB bs (f : Int) (l : Int) = bs ++ bitsOf f m := fun bs f hf => by
        have hc : bCan (f : Int) (l : Int) := ⟨hl1, hl2, by omega, hf⟩
        exact ⟨hc, by unfold bgPutB; rw [if_pos hc, Int.toNat_natCast, hm]⟩
      rw [hm] at hdef hwd LW hmore
      have C := Lib.hid hc; have AB := Lib.hid hab; have WR := Lib.hid hw; have HLT := Lib.hid hlt; have PUT := Lib.hid hput; have MORE := Lib.hid hmore
      have hm13 : (m : Int) ≤ 13 := by omega
      have hp16 : (p : Int) ≤ 1600 := by omega
      clear hr hw hab hc hm hput hmore hz0 hl hz hwd
      by_cases h1 : p + m ≤ 8 * xs.length
      · rw [if_pos h1] at hdef
        obtain ⟨f, hf⟩ : ∃ f, fv xs p m = f := ⟨_, rfl⟩
        rw [hf] at hdef
        by_cases h2 : (f : Int) ≤ (l : Int)
        · rw [if_pos h2] at hdef
          rw [hdef] at TK
          have hcan := (PUT.out ((bitsB xs).take p) f h2).1
          have hbs := (PUT.out ((bitsB xs).take p) f h2).2
          rw [← hf, MORE.out h1, hf] at hbs
          obtain ⟨q, hq⟩ : ∃ q, p + m = q := ⟨_, rfl⟩
          have hqI : (p : Int) + (m : Int) = (q : Int) := by omega
          rw [hq] at hbs TK h1
          have hq16 : (q : Int) ≤ 1600 := by omega
          have hlq : ((bitsB xs).take q).length = q := by rw [List.length_take, bitsB_length]; omega
          have HQ8 := Lib.hid h1; have HLQ := Lib.hid hlq; have HBS := Lib.hid hbs; have HCAN := Lib.hid hcan
          clear hdef hf hq hlq hbs hcan MORE PUT h1
          go_wp2_with fail
          refine (TK.out).mono ?_
          rintro e w5 ⟨rfl, r5, hc5⟩
          have W5 := Lib.hid (WR.out.kept hc5 (by have := HBW.out.2.1; omega) (fun k hk (hh : k = b) => by have := AB.out.2 k hk; have := HBW.out.2.1; omega))
          have C5 := Lib.hid (C.out.trans hc5 (S := fun _ => False) (fun k hk (hh : k = b) => by have := HB.out; omega))
          have R5 := Lib.hid r5
          have PT := Lib.hid (bgput_any bw ow ((bitsB xs).take p) (f : Int) (l : Int) w5 W5.out (by rw [List.length_take]; omega) (by omega) (by omega))
          rw [decide_eq_true HCAN.out, HBS.out] at PT
          clear r5 hc5 TK WR C hcell
          go_wp2_with fail
          refine (PT.out).mono ?_
          rintro e w6 ⟨rfl, ow6, hw6, hc6, ho6⟩
          have AB6 := Lib.hid (AB.out.step (w := w5) (by have := W5.out.lt.1; omega) ho6)
          have hAw : Above w.heap.size bw ow := ⟨HBW.out.1, fun k hk => by have := AB.out.2 k hk; have := HBW.out.1; omega⟩
          have C6 := Lib.hid (C5.out.up hc6 hAw)
          have R6 := Lib.hid (R5.out.kept hc6 (fun hh => by
            rcases hh with hh | hh
            · have := HBW.out.2.1; omega
            · have := AB.out.2 b hh.symm; have := HBW.out.2.1; omega) (fun k hk hh => by
            have h3 := HBW.out.2.2 k hk
            rcases hh with hh | hh
            · omega
            · have := AB.out.2 k hh.symm; omega))
          have W6 := Lib.hid hw6
          clear hw6 hc6 ho6 hAw C5 R5 PT W5
          go_wp2_with fail
          refine (LW.out _).mono ?_
          rintro e w7 ⟨rfl, hc7⟩
          have C7 := Lib.hid (C6.out.next hc7); have R7 := Lib.hid (R6.out.kept hc7 (by simp) (by simp)); have W7 := Lib.hid (W6.out.kept hc7 (by simp) (by simp))
          clear hc7 C6 R6 W6 LW
          go_wp2_with fail
          refine (bits_any bw ow6 _ w7 W7.out).mono ?_
          rintro e w8 ⟨rfl, rfl⟩
          rw [HLQ.out]
          have hqq : ((q : Int) != (q : Int)) = false := by simp
          have XB := Lib.hid (rbits_any _ xs w7 (H.out.kept C7.out (by simp)) HXS.out (by omega))
          go_wp2_with fail
          refine (XB.out).mono ?_
          rintro e w8 ⟨v8, rfl, ho8, hc8⟩
          have C8 := Lib.hid (C7.out.next hc8); have R8 := Lib.hid (R7.out.kept hc8 (by simp) (by simp)); have W8 := Lib.hid (W7.out.kept hc8 (by simp) (by simp))
          obtain ⟨a2, c2, hsl, hrq⟩ := slice_head (ownsRow_mono ho8 (Nat.zero_le _)) q (by rw [bitsB_length]; exact HQ8.out)
          have RQ := Lib.hid hrq
          have BY := Lib.hid (bytes_any bw ow6 _ w8.drew W8.out.drew (by rw [HLQ.out]; omega))
          have HLQ2 := Lib.hid (show ((bitsB xs).take q).length < 1000000 by rw [HLQ.out]; omega)
          clear ho8 hc8 hrq C7 R7 W7 XB
          go_wp2
          go_region_held3 (fun _ => True) (trivial) (first
            | (go_at_call 16; refine (BY.out).mono ?_; rintro e w9 ⟨g9, cap9, rfl, r9, hc9⟩; have C9 := Lib.hid (C8.out.drew.next hc9); have R9 := Lib.hid (Rf.kept (w := w8.drew) R8.out hc9 (by simp) (by simp)); have W9 := Lib.hid (W8.out.drew.kept hc9 (by simp) (by simp)); have RB9 := Lib.hid (RdB.of_own r9); have RQ9 := Lib.hid (RdQ.kept (w := w8.drew) RQ.out hc9 (by simp)); clear r9 hc9)
            | (go_at_call 17; refine (rbytes_q _ _ _ RQ9.out HLQ2.out).mono ?_; rintro e w10 ⟨g10, cap10, rfl, r10, hc10⟩; have C10 := Lib.hid (C9.out.next hc10); have R10 := Lib.hid (R9.out.kept hc10 (by simp) (by simp)); have W10 := Lib.hid (W9.out.kept hc10 (by simp) (by simp)); have RB10 := Lib.hid (RB9.out.kept hc10 (by simp)); have RC10 := Lib.hid (RdB.of_own r10); clear r10 hc10)
            | (go_at_call 15; refine (same_any _ _ _ _ _ RB10.out RC10.out (pack_lt _) (pack_lt _)).mono ?_; rintro e w11 ⟨rfl, rfl⟩; rw [decide_eq_true rfl]))
          go_wp2
          go_roundw
          case rel => exact ⟨k + 1, q, ow6, by have := HLT.out; omega, by go_num, by go_num, HQ8.out, R10.out, W10.out, AB6.out, C10.out⟩
          case measure => simp [intOf]; have := HLT.out; omega
        · rw [if_neg h2] at hdef
          rw [hdef] at TK
          clear hdef hf MORE PUT
          go_wp2_with fail
          refine (TK.out).mono ?_
          rintro e w5 ⟨rfl, -, hc5⟩
          have C5 := Lib.hid (C.out.trans hc5 (S := fun _ => False) (fun k hk (hh : k = b) => by have := HB.out; omega))
          clear hc5
          go_wp2
          go_ret
          exact ⟨rfl, C5.out⟩
      · rw [if_neg h1] at hdef
        rw [hdef] at TK
        clear hdef MORE PUT
        go_wp2_with fail
        refine (TK.out).mono ?_
        rintro e w5 ⟨rfl, -, hc5⟩
        have C5 := Lib.hid (C.out.trans hc5 (S := fun _ => False) (fun k hk (hh : k = b) => by have := HB.out; omega))
        clear hc5
        go_wp2
        go_ret
        exact ⟨rfl, C5.out⟩
    · obtain rfl : k = zs.length := by omega
      have C := Lib.hid hc
      clear hr hw hab hc
      go_wp2
      go_ret
      exact ⟨rfl, C.out⟩

end Go.Proofs.Ytgnenelfbmpfgaa
