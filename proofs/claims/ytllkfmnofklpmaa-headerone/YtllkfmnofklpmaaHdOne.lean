/- HeaderOne's walk. -/
import Derived.Test.YtllkfmnofklpmaaHdMore
import Derived.Test.YtllkfmnofklpmaaHdTakes
import Derived.Test.YtllkfmnofklpmaaBase3
import Derived.Test.YtllkfmnofklpmaaSliceHead
import Derived.Deep.RegionHeld3
namespace Go.Proofs.Ytllkfmnofklpmaa
open Go.RowKit

set_option maxRecDepth 20000 in
set_option maxHeartbeats 4000000 in
theorem headerOne_walk (v : Value) (xs : List Nat) (top : Nat) (w : World) (h : RdB w v xs) (hxs : ∀ y ∈ xs, y < 256) (htop : top < 256) :
    Calls Try.prog 6 #[v, .int .u8 (top : Int)] w fun e w' => e = .returned (.bool true) ∧ Chg (fun _ => False) w w' := by
  obtain ⟨ao, cap, rfl⟩ := h.form
  have H := Lib.hid h; have HXS := Lib.hid hxs
  clear h hxs
  by_cases hbig : 600 < xs.length
  · have hb' : decide (600 < (xs.length : Int)) = true := decide_eq_true (by omega)
    go_enter Try.func6, Try.ntmps6
    go_wp2_with fail
    refine (awake15_any w).mono ?_
    rintro e w1 ⟨rfl, hc1⟩
    go_wp2
    go_ret
    exact ⟨rfl, hc1⟩
  have hb' : decide (600 < (xs.length : Int)) = false := decide_eq_false (by omega)
  go_enter Try.func6, Try.ntmps6
  go_wp2_with fail
  refine (awake15_any w).mono ?_
  rintro e w1 ⟨rfl, hc1⟩
  have C1 := Lib.hid hc1
  clear hc1
  go_wp2_with fail
  refine (fnew_any _ xs w1 (H.out.kept C1.out (by simp)) (by omega) HXS.out).mono ?_
  rintro e w2 ⟨b, o, rfl, r2, ab, hc2⟩
  have C2 := Lib.hid (C1.out.next hc2); have R2 := Lib.hid r2; have HL2 := Lib.hid r2.lt
  have HB := Lib.hid (show w.heap.size ≤ b by have := ab.1; have := C1.out.size; omega)
  clear hc2 r2 ab C1
  go_wp2_with fail
  refine (new_wr w2).mono ?_
  rintro e w3 ⟨rfl, hw3, hc3⟩
  obtain ⟨bw, hbw⟩ : ∃ bw, w2.heap.size = bw := ⟨_, rfl⟩
  rw [hbw] at hw3 ⊢
  have C3 := Lib.hid (C2.out.next hc3); have R3 := Lib.hid (R2.out.kept hc3 (by simp) (by simp)); have W3 := Lib.hid hw3
  have HBW := Lib.hid (show w.heap.size ≤ bw ∧ b < bw ∧ (∀ q, o = some q → q < bw) from ⟨by have := C2.out.size; omega, by have := HL2.out.1; omega, fun q hq => by have := (HL2.out.2 q hq).1; omega⟩)
  clear hw3 hc3 C2 R2 hbw HL2
  have htI : (top : Int) < 256 := by omega
  obtain ⟨k, hk⟩ : ∃ k, 1 + top % 12 = k := ⟨_, rfl⟩
  have hkI : 1 + (top : Int) % 12 = (k : Int) := by omega
  have hk1 : 1 ≤ k := by omega
  have hk2 : k ≤ 12 := by omega
  have TK := Lib.hid (hdtake_any b o xs 0 (k : Int) w3 R3.out (by omega))
  have herr := fun h => hd_err (xs := xs) (p := 0) hk1 hk2 h
  have hag := fun h => hd_one (xs := xs) hk1 hk2 h
  obtain ⟨G, hG⟩ : ∃ G, hdRes xs 0 (k : Int) = G := ⟨_, rfl⟩
  rw [hG] at TK herr hag
  obtain ⟨Q, f2, q⟩ := G
  simp only [] at TK herr hag
  have HW3 := Lib.hid W3.out.lt.1
  clear hG hk
  by_cases h0 : f2 = 0
  · obtain ⟨hn, e3, e4⟩ := hag h0
    subst h0
    have hlq2 : ((bitsB xs).take q).length = q := by rw [List.length_take, bitsB_length]; omega
    have hok : logI (totalI Q) ≠ 0 := by rw [hn.log]; omega
    have HPB := Lib.hid e4; have HOK := Lib.hid hok; have HQ8 := Lib.hid e3; have HLQ := Lib.hid hlq2; have HN := Lib.hid hn; have HQB := Lib.hid hn.bnd
    have HQL := Lib.hid (show Q.length < 100000000000 by rw [hn.1]; omega)
    have hq16 : (q : Int) ≤ 4800 := by omega
    obtain ⟨N8, hN8⟩ : ∃ N8, 8 * xs.length = N8 := ⟨_, rfl⟩
    have hN8I : 8 * (xs.length : Int) = (N8 : Int) := by omega
    obtain ⟨L, hL⟩ : ∃ L, 8 * xs.length - q = L := ⟨_, rfl⟩
    have hLI : (N8 : Int) - (L : Int) = (q : Int) := by omega
    have hN8b : (N8 : Int) ≤ 4800 := by omega
    have hLb : (L : Int) ≤ 4800 := by omega
    have HL := Lib.hid hL
    have hkb : (k : Int) ≤ 12 := by omega
    clear herr hag e3 e4 hok hlq2 hN8 hL hn
    go_wp2_with fail
    refine (TK.out).mono ?_
    rintro e w4 ⟨v4, rfl, q4, f4, hrm, r4, hc4⟩
    have HRM := Lib.hid hrm
    clear hrm
    have R4 := Lib.hid r4; have Q4 := Lib.hid q4; have F4 := Lib.hid f4
    have W4 := Lib.hid (W3.out.kept hc4 (fun (hh : bw = b) => by have := HBW.out.2.1; omega) (by simp))
    have C4 := Lib.hid (C3.out.trans hc4 (S := fun _ => False) (fun k hk (hh : k = b) => by have := HB.out; omega))
    clear r4 hc4 q4 f4 C3 R3 W3 TK
    have NE := Lib.hid (show ∀ k, v4.ownBlock = some k → ¬ (k = bw ∨ some k = (none : Option Nat)) from fun k hk => by have := F4.out k hk; have := HW3.out; simp; omega)
    have PT := Lib.hid (hdput_any bw none [] v4 Q w4 W4.out (by simp) Q4.out HRM.out (fun _ => NE.out) HQB.out HQL.out)
    rw [decide_eq_true HOK.out, List.nil_append, HPB.out] at PT
    go_wp2_with fail
    refine (PT.out).mono ?_
    rintro e w6 ⟨rfl, ow6, hw6, hc6, ho6⟩
    have C6 := Lib.hid (C4.out.up hc6 ⟨HBW.out.1, by simp⟩)
    have R6 := Lib.hid (R4.out.kept hc6 (fun hh => by
      rcases hh with hh | hh
      · have := HBW.out.2.1; omega
      · simp at hh) (fun k hk hh => by
      have h3 := HBW.out.2.2 k hk
      rcases hh with hh | hh
      · omega
      · simp at hh))
    have W6 := Lib.hid hw6
    have Q6 := Lib.hid (Q4.out.kept hc6 NE.out)
    clear hw6 hc6 ho6 C4 R4 PT W4 Q4
    go_wp2_with fail
    refine (fleft_any b o xs q w6 R6.out).mono ?_
    rintro e w7 ⟨rfl, hc7⟩
    rw [HL.out]
    have C7 := Lib.hid (C6.out.next hc7); have W7 := Lib.hid (W6.out.kept hc7 (by simp) (by simp)); have Q7 := Lib.hid (Q6.out.kept hc7 (by simp))
    clear hc7 C6 R6 W6 Q6
    have d0 : decide ((q : Int) < 0) = false := decide_eq_false (by omega)
    go_wp2_with fail
    refine (bits_any bw ow6 _ w7 W7.out).mono ?_
    rintro e w8 ⟨rfl, rfl⟩
    rw [HLQ.out]
    have hqq : ((q : Int) != (q : Int)) = false := by simp
    have NR := Lib.hid (nright_any v4 Q (k : Int) w7 Q7.out HQB.out HQL.out (by omega))
    rw [decide_eq_true (show 0 < logI (totalI Q) ∧ ((logI (totalI Q) : Nat) : Int) = (k : Int) by rw [HN.out.log]; omega)] at NR
    go_wp2_with fail
    refine (NR.out).mono ?_
    rintro e wn ⟨rfl, hcn⟩
    have CN := Lib.hid (C7.out.next hcn); have WN := Lib.hid (W7.out.kept hcn (by simp) (by simp))
    clear hcn C7 W7 NR Q7
    have XB := Lib.hid (rbits_any _ xs wn (H.out.kept CN.out (by simp)) HXS.out (by omega))
    go_wp2_with fail
    refine (XB.out).mono ?_
    rintro e w8 ⟨v8, rfl, ho8, hc8⟩
    have C8 := Lib.hid (CN.out.next hc8); have W8 := Lib.hid (WN.out.kept hc8 (by simp) (by simp))
    obtain ⟨a2, c2, hsl, hrq⟩ := slice_head (ownsRow_mono ho8 (Nat.zero_le _)) q (by rw [bitsB_length]; exact HQ8.out)
    have RQ := Lib.hid hrq
    have BY := Lib.hid (bytes_any bw ow6 _ w8.drew W8.out.drew (by rw [HLQ.out]; omega))
    have HLQ2 := Lib.hid (show ((bitsB xs).take q).length < 1000000 by rw [HLQ.out]; omega)
    clear ho8 hc8 hrq CN WN XB
    go_wp2
    go_region_held3 (fun _ => True) (trivial) (first
      | (go_at_call 14; refine (BY.out).mono ?_; rintro e w9 ⟨g9, cap9, rfl, r9, hc9⟩; have C9 := Lib.hid (C8.out.drew.next hc9); have RB9 := Lib.hid (RdB.of_own r9); have RQ9 := Lib.hid (RdQ.kept (w := w8.drew) RQ.out hc9 (by simp)); clear r9 hc9)
      | (go_at_call 15; refine (rbytes_q _ _ _ RQ9.out HLQ2.out).mono ?_; rintro e w10 ⟨g10, cap10, rfl, r10, hc10⟩; have C10 := Lib.hid (C9.out.next hc10); have RB10 := Lib.hid (RB9.out.kept hc10 (by simp)); have RC10 := Lib.hid (RdB.of_own r10); clear r10 hc10)
      | (go_at_call 13; refine (same_any _ _ _ _ _ RB10.out RC10.out (pack_lt _) (pack_lt _)).mono ?_; rintro e w11 ⟨rfl, rfl⟩; rw [decide_eq_true rfl]))
    go_wp2
    go_ret
    exact ⟨rfl, C10.out⟩
  · obtain ⟨e1, e2⟩ := herr h0
    subst e1
    clear hag h0 herr
    rcases e2 with rfl | rfl
    all_goals
      go_wp2_with fail
      refine (TK.out).mono ?_
      rintro e w4 ⟨v4, rfl, q4, -, -, -, hc4⟩
      obtain ⟨a4, cp4, rfl⟩ := q4.form
      have C4 := Lib.hid (C3.out.trans hc4 (S := fun _ => False) (fun k hk (hh : k = b) => by have := HB.out; omega))
      clear hc4 q4
      go_wp2
      go_ret
      exact ⟨rfl, C4.out⟩

end Go.Proofs.Ytllkfmnofklpmaa
