/- RunsOne's walk. -/
import Derived.Test.YthenjooffkbkpaaRnTakes
import Derived.Test.YthenjooffkbkpaaBrRef
import Derived.Test.YthenjooffkbkpaaSliceHead
import Derived.Deep.RegionHeld3
namespace Go.Proofs.Ythenjooffkbkpaa
open Go.RowKit

set_option maxRecDepth 20000 in
set_option maxHeartbeats 4000000 in
theorem runsOne_walk (v : Value) (xs : List Nat) (top : Nat) (w : World) (h : RdB w v xs) (hxs : ∀ y ∈ xs, y < 256) (htop : top < 256) :
    Calls Try.prog 7 #[v, .int .u8 (top : Int)] w fun e w' => e = .returned (.bool true) ∧ Chg (fun _ => False) w w' := by
  obtain ⟨ao, cap, rfl⟩ := h.form
  have H := Lib.hid h; have HXS := Lib.hid hxs
  clear h hxs
  by_cases hbig : 200 < xs.length
  · have hb' : decide (200 < (xs.length : Int)) = true := decide_eq_true (by omega)
    go_enter Try.func7, Try.ntmps7
    go_wp2_with fail
    refine (awake14_any w).mono ?_
    rintro e w1 ⟨rfl, hc1⟩
    go_wp2
    go_ret
    exact ⟨rfl, hc1⟩
  have hb' : decide (200 < (xs.length : Int)) = false := decide_eq_false (by omega)
  go_enter Try.func7, Try.ntmps7
  go_wp2_with fail
  refine (awake14_any w).mono ?_
  rintro e w1 ⟨rfl, hc1⟩
  have C1 := Lib.hid hc1
  clear hc1
  go_wp2_with fail
  refine (fnew_any _ xs w1 (H.out.kept C1.out (by simp)) (by omega) HXS.out).mono ?_
  rintro e w2 ⟨b, o, rfl, r2, ab, hc2⟩
  have C2 := Lib.hid (C1.out.next hc2); have R2 := Lib.hid r2; have HL2 := Lib.hid r2.lt
  have HB := Lib.hid (show w.heap.size ≤ b by have := ab.1; have := C1.out.size; omega)
  clear hc2 r2 ab C1
  go_wp2_with fail
  refine (new_wr w2).mono ?_
  rintro e w3 ⟨rfl, hw3, hc3⟩
  obtain ⟨bw, hbw⟩ : ∃ bw, w2.heap.size = bw := ⟨_, rfl⟩
  rw [hbw] at hw3 ⊢
  have C3 := Lib.hid (C2.out.next hc3); have R3 := Lib.hid (R2.out.kept hc3 (by simp) (by simp)); have W3 := Lib.hid hw3
  have HBW := Lib.hid (show w.heap.size ≤ bw ∧ b < bw ∧ (∀ q, o = some q → q < bw) from ⟨by have := C2.out.size; omega, by have := HL2.out.1; omega, fun q hq => by have := (HL2.out.2 q hq).1; omega⟩)
  clear hw3 hc3 C2 R2 hbw HL2
  have TK := Lib.hid (rntake_any b o xs 0 (top : Int) w3 R3.out (by omega))
  have hdef : rnTk xs 0 (top : Int) = rnGo xs top (4 * xs.length + 1) 0 0 := by unfold rnTk; rw [if_pos ⟨by omega, by omega⟩, Int.toNat_natCast]
  have herr := rnGo_err xs top (4 * xs.length + 1) 0 0
  have hag := rnGo_again xs top (4 * xs.length + 1) 0 0 (Nat.zero_le _)
  rw [hdef] at TK
  have htI : (top : Int) < 256 := by omega
  obtain ⟨G, hG⟩ : ∃ G, rnGo xs top (4 * xs.length + 1) 0 0 = G := ⟨_, rfl⟩
  rw [hG] at TK herr hag
  obtain ⟨f1, f2, q⟩ := G
  simp only [] at TK herr hag
  clear hdef hG
  by_cases h0 : f2 = 0
  · obtain ⟨x, e1, e2, e3, e4⟩ := hag h0
    rw [Nat.zero_add] at e1 e2
    rw [List.take_zero, List.nil_append] at e4
    subst h0
    subst e1
    have hlq : (rnB x).length = q := by rw [e4, List.length_take, bitsB_length]; omega
    have hok : rnOk (x : Int) := ⟨by omega, by omega⟩
    have hpb : rnPutB [] (x : Int) = (bitsB xs).take q := by unfold rnPutB; rw [if_pos hok, Int.toNat_natCast, List.nil_append, e4]
    have hlq2 : ((bitsB xs).take q).length = q := by rw [← e4]; exact hlq
    have HPB := Lib.hid hpb; have HOK := Lib.hid hok; have HQ8 := Lib.hid e3; have HLQ := Lib.hid hlq2
    have hq16 : (q : Int) ≤ 1600 := by omega
    have hxI : (x : Int) < 256 := by omega
    have hxt : x ≤ top := e2
    obtain ⟨N8, hN8⟩ : ∃ N8, 8 * xs.length = N8 := ⟨_, rfl⟩
    have hN8I : 8 * (xs.length : Int) = (N8 : Int) := by omega
    obtain ⟨L, hL⟩ : ∃ L, 8 * xs.length - q = L := ⟨_, rfl⟩
    have hLI : (N8 : Int) - (L : Int) = (q : Int) := by omega
    have hN8b : (N8 : Int) ≤ 1600 := by omega
    have hLb : (L : Int) ≤ 1600 := by omega
    have HL := Lib.hid hL
    clear herr hag e2 e3 e4 hlq hok hpb hlq2 hN8 hL
    go_wp2_with fail
    refine (TK.out).mono ?_
    rintro e w4 ⟨rfl, r4, hc4⟩
    have R4 := Lib.hid r4
    have W4 := Lib.hid (W3.out.kept hc4 (fun (hh : bw = b) => by have := HBW.out.2.1; omega) (by simp))
    have C4 := Lib.hid (C3.out.trans hc4 (S := fun _ => False) (fun k hk (hh : k = b) => by have := HB.out; omega))
    clear r4 hc4 C3 R3 W3 TK
    have PT := Lib.hid (rnput_any bw none [] (x : Int) w4 W4.out (by simp) (by omega))
    rw [decide_eq_true HOK.out, HPB.out] at PT
    go_wp2_with fail
    refine (PT.out).mono ?_
    rintro e w6 ⟨rfl, ow6, hw6, hc6, ho6⟩
    have C6 := Lib.hid (C4.out.up hc6 ⟨HBW.out.1, by simp⟩)
    have R6 := Lib.hid (R4.out.kept hc6 (fun hh => by
      rcases hh with hh | hh
      · have := HBW.out.2.1; omega
      · simp at hh) (fun k hk hh => by
      have h3 := HBW.out.2.2 k hk
      rcases hh with hh | hh
      · omega
      · simp at hh))
    have W6 := Lib.hid hw6
    clear hw6 hc6 ho6 C4 R4 PT W4
    go_wp2_with fail
    refine (fleft_any b o xs q w6 R6.out).mono ?_
    rintro e w7 ⟨rfl, hc7⟩
    rw [HL.out]
    have C7 := Lib.hid (C6.out.next hc7); have W7 := Lib.hid (W6.out.kept hc7 (by simp) (by simp))
    clear hc7 C6 R6 W6
    have d0 : decide ((q : Int) < 0) = false := decide_eq_false (by omega)
    go_wp2_with fail
    refine (bits_any bw ow6 _ w7 W7.out).mono ?_
    rintro e w8 ⟨rfl, rfl⟩
    rw [HLQ.out]
    have hqq : ((q : Int) != (q : Int)) = false := by simp
    have XB := Lib.hid (rbits_any _ xs w7 (H.out.kept C7.out (by simp)) HXS.out (by omega))
    go_wp2_with fail
    refine (XB.out).mono ?_
    rintro e w8 ⟨v8, rfl, ho8, hc8⟩
    have C8 := Lib.hid (C7.out.next hc8); have W8 := Lib.hid (W7.out.kept hc8 (by simp) (by simp))
    obtain ⟨a2, c2, hsl, hrq⟩ := slice_head (ownsRow_mono ho8 (Nat.zero_le _)) q (by rw [bitsB_length]; exact HQ8.out)
    have RQ := Lib.hid hrq
    have BY := Lib.hid (bytes_any bw ow6 _ w8.drew W8.out.drew (by rw [HLQ.out]; omega))
    have HLQ2 := Lib.hid (show ((bitsB xs).take q).length < 1000000 by rw [HLQ.out]; omega)
    have d1 : decide ((x : Int) ≤ (top : Int)) = true := decide_eq_true (by omega)
    have hwt : IntKind.i64.wrap (top : Int) = (top : Int) := by rw [IntKind.wrap_i64]; omega
    clear ho8 hc8 hrq C7 W7 XB
    go_wp2
    go_region_held3 (fun _ => True) (trivial) (first
      | (go_at_call 15; refine (BY.out).mono ?_; rintro e w9 ⟨g9, cap9, rfl, r9, hc9⟩; have C9 := Lib.hid (C8.out.drew.next hc9); have RB9 := Lib.hid (RdB.of_own r9); have RQ9 := Lib.hid (RdQ.kept (w := w8.drew) RQ.out hc9 (by simp)); clear r9 hc9)
      | (go_at_call 16; refine (rbytes_q _ _ _ RQ9.out HLQ2.out).mono ?_; rintro e w10 ⟨g10, cap10, rfl, r10, hc10⟩; have C10 := Lib.hid (C9.out.next hc10); have RB10 := Lib.hid (RB9.out.kept hc10 (by simp)); have RC10 := Lib.hid (RdB.of_own r10); clear r10 hc10)
      | (go_at_call 14; refine (same_any _ _ _ _ _ RB10.out RC10.out (pack_lt _) (pack_lt _)).mono ?_; rintro e w11 ⟨rfl, rfl⟩; rw [decide_eq_true rfl]))
    go_wp2
    go_ret
    exact ⟨rfl, C10.out⟩
  · rcases herr with herr | ⟨e1, e2⟩
    · exact absurd herr h0
    · subst e1
      clear hag h0
      rcases e2 with rfl | rfl
      · go_wp2_with fail
        refine (TK.out).mono ?_
        rintro e w4 ⟨rfl, -, hc4⟩
        have C4 := Lib.hid (C3.out.trans hc4 (S := fun _ => False) (fun k hk (hh : k = b) => by have := HB.out; omega))
        clear hc4
        go_wp2
        go_ret
        exact ⟨rfl, C4.out⟩
      · go_wp2_with fail
        refine (TK.out).mono ?_
        rintro e w4 ⟨rfl, -, hc4⟩
        have C4 := Lib.hid (C3.out.trans hc4 (S := fun _ => False) (fun k hk (hh : k = b) => by have := HB.out; omega))
        clear hc4
        go_wp2
        go_ret
        exact ⟨rfl, C4.out⟩

end Go.Proofs.Ythenjooffkbkpaa
