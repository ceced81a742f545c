/- RunsBack's walk. -/
import Derived.Test.YthenjooffkbkpaaRnTakes
namespace Go.Proofs.Ythenjooffkbkpaa
open Go.RowKit

/-- the bits of numbers -/
def allR : List Nat → List Bool
  | [] => []
  | x :: r => rnB x ++ allR r
theorem allR_append (a b : List Nat) : allR (a ++ b) = allR a ++ allR b := by
  induction a with
  | nil => rfl
  | cons p r ih => simp [allR, ih]
theorem allR_succ (xs : List Nat) (k : Nat) (h : k < xs.length) : allR (xs.take (k + 1)) = allR (xs.take k) ++ rnB (xs.getD k 0) := by
  rw [List.take_succ_eq_append_getElem h, allR_append, List.getD_eq_getElem?_getD, List.getElem?_eq_getElem h]
  simp [allR]
theorem allR_length (xs : List Nat) (h : ∀ x ∈ xs, x < 256) : (allR xs).length ≤ 172 * xs.length := by
  induction xs with
  | nil => simp [allR]
  | cons p r ih =>
    have h1 := rnB_length p
    have h2 := h p (List.mem_cons_self ..)
    have h3 := ih fun x hx => h x (List.mem_cons_of_mem _ hx)
    simp only [allR, List.length_append, List.length_cons]; omega
theorem allR_at (xs : List Nat) (k : Nat) (h : k < xs.length) : atBits (pack (allR xs)) (allR (xs.take k)).length (rnB (xs.getD k 0)) := by
  have e := bits_pack_more (allR xs) []
  rw [List.append_nil] at e
  have hall : allR xs = allR (xs.take (k + 1)) ++ allR (xs.drop (k + 1)) := by rw [← allR_append, List.take_append_drop]
  rw [allR_succ xs k h] at hall
  refine ⟨allR (xs.drop (k + 1)) ++ (List.replicate (8 * (((allR xs).length + 7) / 8) - (allR xs).length) false ++ bitsB []), ?_⟩
  rw [e]
  conv => lhs; rw [hall]
  rw [← hall]
  conv => lhs; arg 2; arg 1; rw [hall]
  rw [List.append_assoc, List.append_assoc, List.drop_left]
theorem rnTk_put {xs : List Nat} {p n : Nat} {most : Int} (h : atBits xs p (rnB n)) (h1 : (n : Int) ≤ most) (h2 : most ≤ 255) : rnTk xs p most = ((n : Int), 0, p + (rnB n).length) := by
  obtain ⟨m, rfl⟩ := Int.eq_ofNat_of_zero_le (show 0 ≤ most by omega)
  unfold rnTk
  rw [if_pos ⟨by omega, h2⟩, Int.toNat_natCast, rnGo_put xs m n _ p 0 h (by omega) (by omega), Nat.zero_add]
theorem rnTk_less {xs : List Nat} {p n : Nat} {most : Int} (h : atBits xs p (rnB n)) (h0 : 0 ≤ most) (h1 : most < (n : Int)) (h2 : most ≤ 255) : (rnTk xs p most).1 = 0 ∧ (rnTk xs p most).2.1 = 13 := by
  obtain ⟨m, rfl⟩ := Int.eq_ofNat_of_zero_le h0
  unfold rnTk
  rw [if_pos ⟨by omega, h2⟩, Int.toNat_natCast]
  exact rnGo_less xs m n _ p 0 h (by omega) (by omega) (by omega)
theorem getD_memB {ps : List Nat} {k : Nat} (h : k < ps.length) : ps.getD k 0 ∈ ps := by
  rw [List.getD_eq_getElem?_getD, List.getElem?_eq_getElem h]; exact List.getElem_mem h
theorem RdB.at'' {w : World} {g off n cap : Nat} {xs : List Nat} (h : RdB w (.slice (some ⟨g, off, none⟩) n cap) xs) (k : Nat) (hk : k < xs.length) : w.cell? ⟨g, off + k, none⟩ = some (.int .u8 ((xs.getD k 0 : Nat) : Int)) := by
  obtain ⟨g', off', he, hcc⟩ := h.at k hk
  simp only [Option.some.injEq, Addr.mk.injEq, and_true] at he
  obtain ⟨rfl, rfl⟩ := he
  exact hcc

set_option maxRecDepth 20000 in
set_option maxHeartbeats 4000000 in
theorem runsBack_walk (v : Value) (xs : List Nat) (mo : Nat) (w : World) (h : RdB w v xs) (hxs : ∀ y ∈ xs, y < 256) (hmo : mo < 256) :
    Calls Try.prog 5 #[v, .int .u8 (mo : Int)] w fun e w' => e = .returned (.bool true) ∧ Chg (fun _ => False) w w' := by
  obtain ⟨ao, cap, rfl⟩ := h.form
  have H := Lib.hid h; have HXS := Lib.hid hxs
  clear h hxs
  by_cases hbig : 30 < xs.length
  · have hb' : decide (30 < (xs.length : Int)) = true := decide_eq_true (by omega)
    go_enter Try.func5, Try.ntmps5
    go_wp2_with fail
    refine (awake14_any w).mono ?_
    rintro e w1 ⟨rfl, hc1⟩
    go_wp2
    go_ret
    exact ⟨rfl, hc1⟩
  have hb' : decide (30 < (xs.length : Int)) = false := decide_eq_false (by omega)
  have hlenR : ∀ k, k ≤ xs.length → (allR (xs.take k)).length ≤ 5160 := fun k hk => by
    have h1 := allR_length (xs.take k) (fun x hx => HXS.out x (List.mem_of_mem_take hx))
    have h2 : (xs.take k).length ≤ k := List.length_take_le _ _
    omega
  have HLR := Lib.hid hlenR
  clear hlenR
  go_enter Try.func5, Try.ntmps5
  go_wp2_with fail
  refine (awake14_any w).mono ?_
  rintro e w1 ⟨rfl, hc1⟩
  have C1 := Lib.hid hc1
  clear hc1
  go_wp2_with fail
  refine (new_wr w1).mono ?_
  rintro e w2 ⟨rfl, hw2, hc2⟩
  obtain ⟨b, hb⟩ : ∃ b, w1.heap.size = b := ⟨_, rfl⟩
  rw [hb] at hw2 ⊢
  have HBW := Lib.hid (show w.heap.size ≤ b by have := C1.out.size; omega)
  have W2 := Lib.hid hw2; have C2 := Lib.hid (C1.out.next hc2)
  clear hw2 hc2 C1 hb
  go_wp2
  go_loopw [7, 8] (fun o7 _ wr => ∃ (k : Nat) (o : Option Nat), k ≤ xs.length ∧ o7 = .int .i64 (k : Int) ∧ Wr wr b o (allR (xs.take k)) ∧ Above w.heap.size b o ∧ Chg (fun _ => False) w wr) (fun o7 _ _ => xs.length - (intOf o7).toNat)
  case atStart => exact ⟨0, none, Nat.zero_le _, rfl, W2.out, ⟨HBW.out, by simp⟩, C2.out⟩
  case round =>
    obtain ⟨k, o, hk, rfl, hwr, hab, hcr⟩ := hrel
    clear W2 C2
    by_cases hlt : k < xs.length
    · obtain ⟨g, off, rfl, c0⟩ := (H.out.kept hcr (by simp)).at k hlt
      have hfit := HXS.out _ (getD_memB hlt)
      have hsu := allR_succ xs k hlt
      have hln := HLR.out k hk
      obtain ⟨x, hq⟩ : ∃ x, xs.getD k 0 = x := ⟨_, rfl⟩
      rw [hq] at c0 hfit hsu
      have PUT := Lib.hid (rnput_any b o _ (x : Int) wr hwr (by omega) (by omega))
      have hokx : rnOk (x : Int) := ⟨by omega, by omega⟩
      rw [decide_eq_true hokx, show rnPutB (allR (xs.take k)) (x : Int) = allR (xs.take (k + 1)) by unfold rnPutB; rw [if_pos hokx, Int.toNat_natCast, hsu]] at PUT
      have AB := Lib.hid hab; have CR := Lib.hid hcr; have HLT := Lib.hid hlt
      have hxI : (x : Int) < 256 := by omega
      clear hwr hab hcr hsu hq hln hokx
      go_wp2_with fail
      refine (PUT.out).mono ?_
      rintro e w4 ⟨rfl, o4, hw4, hc4, ho4⟩
      have C4 := Lib.hid (CR.out.up hc4 AB.out); have AB4 := Lib.hid (AB.out.step (w := wr) CR.out.size ho4); have W4 := Lib.hid hw4
      clear hw4 hc4 ho4 c0
      go_wp2
      go_roundw
      case rel => exact ⟨k + 1, o4, by have := HLT.out; omega, by go_num, W4.out, AB4.out, C4.out⟩
      case measure => simp [intOf]; have := HLT.out; omega
    · obtain rfl : k = xs.length := by omega
      have hln := HLR.out xs.length hk
      rw [List.take_length] at hwr hln
      have hat := fun i hi => allR_at xs i hi
      have hsu := fun i hi => allR_succ xs i hi
      have htl : (allR (xs.take xs.length)).length = (allR xs).length := by rw [List.take_length]
      obtain ⟨A, hA⟩ : ∃ A, allR xs = A := ⟨_, rfl⟩
      rw [hA] at hwr hln hat htl
      have WR := Lib.hid hwr; have CR := Lib.hid hcr; have AT := Lib.hid hat; have SU := Lib.hid hsu; have TL := Lib.hid htl; have HLN := Lib.hid hln; have WLT := Lib.hid hwr.lt
      clear hwr hcr hab hat hsu htl hA hln HLR
      obtain ⟨wa, hwa⟩ : ∃ wa, wa = wr := ⟨_, rfl⟩
      subst hwa
      go_wp2_with fail
      refine (bytes_any b o A wa WR.out (by have := HLN.out; omega)).mono ?_
      rintro e w5 ⟨g5, cap5, rfl, r5, hc5⟩
      have NW := Lib.hid (fnew_any _ (pack A) w5 (RdB.of_own r5) (by rw [pack_length]; have := HLN.out; omega) (pack_lt A))
      have C5 := Lib.hid (CR.out.next hc5); have W5 := Lib.hid (WR.out.kept hc5 (by simp) (by simp)); have S5 := Lib.hid hc5.size
      clear r5 hc5 WR CR
      go_wp2_with fail
      refine (NW.out).mono ?_
      rintro e w6 ⟨br, orr, rfl, r6, ab6, hc6⟩
      have C6 := Lib.hid (C5.out.next hc6); have W6 := Lib.hid (W5.out.kept hc6 (by simp) (by simp)); have R6 := Lib.hid r6
      have HBR := Lib.hid (show wa.heap.size ≤ br by have := ab6.1; have := S5.out; omega)
      have HCW := Lib.hid C5.out.size
      have RL := Lib.hid r6.lt
      clear r6 ab6 hc6 C5 W5 NW
      have HDJ := Lib.hid (show b < br ∧ (∀ q, o = some q → q < br) from ⟨by have := WLT.out.1; have := HBR.out; omega, fun q hq => by have := (WLT.out.2 q hq).2; have := HBR.out; omega⟩)
      go_wp2
      go_loopw [10, 11, 12] (fun o10 _ _ wr => ∃ i : Nat, i ≤ xs.length ∧ o10 = .int .i64 (i : Int) ∧ Rf wr br orr (pack A) (allR (xs.take i)).length ∧ Wr wr b o A ∧ w6.heap.size ≤ wr.heap.size ∧ Chg (fun _ => False) w wr) (fun o10 _ _ _ => xs.length - (intOf o10).toNat)
      case atStart => exact ⟨0, Nat.zero_le _, rfl, R6.out, W6.out, Nat.le_refl _, C6.out⟩
      case round =>
        obtain ⟨i, hiF, rfl, hr, hw, hsz, hc⟩ := hrel
        clear R6 W6 C6
        by_cases hlt2 : i < xs.length
        · obtain ⟨g, off, rfl, c0⟩ := (H.out.kept hc (by simp)).at i hlt2
          have hfit := HXS.out _ (getD_memB hlt2)
          have hat := AT.out i hlt2
          have hsu := SU.out i hlt2
          have HCELL := Lib.hid fun W (hW : Chg (fun _ => False) w W) => (H.out.kept hW (by simp)).at'' i hlt2
          obtain ⟨x, hq⟩ : ∃ x, xs.getD i 0 = x := ⟨_, rfl⟩
          rw [hq] at c0 hfit hat hsu HCELL
          have hxI : (x : Int) < 256 := by omega
          have hmoI : (mo : Int) < 256 := by omega
          have hnx : (allR (xs.take (i + 1))).length = (allR (xs.take i)).length + (rnB x).length := by rw [hsu, List.length_append]
          have TK := Lib.hid fun (l : Int) (h1 : (x : Int) ≤ l) (h2 : l ≤ 255) => (show Calls Try.prog 19 #[.pointer (some ⟨br, 0, none⟩), .int .i64 l] wr fun e w' => e = .returned (.tuple #[.int .i64 (x : Int), .int .i64 0]) ∧ Rf w' br orr (pack A) (allR (xs.take (i + 1))).length ∧ Chg (fun k => k = br) wr w' by
            have := rntake_any br orr (pack A) _ l wr hr (by omega)
            rw [rnTk_put hat h1 h2] at this
            rw [hnx]
            exact this)
          have C := Lib.hid hc; have W := Lib.hid hw; have SZ := Lib.hid hsz; have HLT2 := Lib.hid hlt2
          have hxx : ((x : Int) != (x : Int)) = false := by simp
          have fin : Hid (∀ w8, Chg (fun k => k = br) wr w8 → Chg (fun _ => False) w w8 ∧ Wr w8 b o A ∧ w6.heap.size ≤ w8.heap.size) := Lib.hid fun w8 hc8 =>
            ⟨C.out.trans hc8 (S := fun _ => False) (fun k hk (hh : k = br) => by have := HDJ.out.1; have := HBW.out; omega), W.out.kept hc8 (fun (hh : b = br) => by have := HDJ.out.1; omega) (fun k hk (hh : k = br) => by have := HDJ.out.2 k hk; omega), by have := hc8.size; have := SZ.out; omega⟩
          clear hr hw hc hsz hat hsu hq hnx hfit
          by_cases hmin : (x : Int) + (mo : Int) < 255
          · have TK2 := Lib.hid (TK.out ((x : Int) + (mo : Int)) (by omega) (by omega))
            clear TK
            go_wp2_with fail
            refine (TK2.out).mono ?_
            rintro e w8 ⟨rfl, r8, hc8⟩
            obtain ⟨f1, f2, f3⟩ := fin.out w8 hc8
            have R8 := Lib.hid r8; have C8 := Lib.hid f1; have W8 := Lib.hid f2; have S8 := Lib.hid f3
            clear r8 hc8 f1 f2 f3 fin c0 TK2 C W
            have c0 := HCELL.out w8 C8.out
            go_wp2
            go_roundw
            case rel => exact ⟨i + 1, by have := HLT2.out; omega, by go_num, R8.out, W8.out, S8.out, C8.out⟩
            case measure => simp [intOf]; have := HLT2.out; omega
          · have TK2 := Lib.hid (TK.out 255 (by omega) (by omega))
            clear TK
            go_wp2_with fail
            refine (TK2.out).mono ?_
            rintro e w8 ⟨rfl, r8, hc8⟩
            obtain ⟨f1, f2, f3⟩ := fin.out w8 hc8
            have R8 := Lib.hid r8; have C8 := Lib.hid f1; have W8 := Lib.hid f2; have S8 := Lib.hid f3
            clear r8 hc8 f1 f2 f3 fin c0 TK2 C W
            have c0 := HCELL.out w8 C8.out
            go_wp2
            go_roundw
            case rel => exact ⟨i + 1, by have := HLT2.out; omega, by go_num, R8.out, W8.out, S8.out, C8.out⟩
            case measure => simp [intOf]; have := HLT2.out; omega
        · obtain rfl : i = xs.length := by omega
          rw [TL.out] at hr
          have R := Lib.hid hr; have C := Lib.hid hc; have W := Lib.hid hw; have SZ := Lib.hid hsz
          clear hr hc hw hsz
          go_wp2_with fail
          refine (fpad_any br orr (pack A) A.length wr R.out).mono ?_
          rintro e w8 (⟨-, rfl, r8, hc8⟩ | ⟨hno, -, -⟩)
          · have C8 := Lib.hid (C.out.trans hc8 (S := fun _ => False) (fun k hk (hh : k = br) => by have := HDJ.out.1; have := HBW.out; omega))
            have W8 := Lib.hid (W.out.kept hc8 (fun (hh : b = br) => by have := HDJ.out.1; omega) (fun k hk (hh : k = br) => by have := HDJ.out.2 k hk; omega))
            have R8 := Lib.hid r8; have S8 := Lib.hid (show w6.heap.size ≤ w8.heap.size by have := hc8.size; have := SZ.out; omega)
            clear r8 hc8 C R W SZ
            go_wp2_with fail
            refine (bytes_any b o A w8 W8.out (by have := HLN.out; omega)).mono ?_
            rintro e w9 ⟨g9, cap9, rfl, r9, hc9⟩
            have NW := Lib.hid (fnew_any _ (pack A) w9 (RdB.of_own r9) (by rw [pack_length]; have := HLN.out; omega) (pack_lt A))
            have C9 := Lib.hid (C8.out.next hc9); have R9 := Lib.hid (R8.out.kept hc9 (by simp) (by simp)); have S9 := Lib.hid (show w6.heap.size ≤ w9.heap.size by have := hc9.size; have := S8.out; omega)
            clear r9 hc9 C8 R8 W8 S8
            go_wp2_with fail
            refine (NW.out).mono ?_
            rintro e w10 ⟨bx, ox, rfl, r10, ab10, hc10⟩
            have C10 := Lib.hid (C9.out.next hc10); have R10 := Lib.hid (R9.out.kept hc10 (by simp) (by simp)); have X10 := Lib.hid r10
            have HBX := Lib.hid (show br < bx ∧ (∀ q, orr = some q → q < bx) ∧ w.heap.size ≤ bx from ⟨by have := RL.out.1; have := S9.out; have := ab10.1; omega, fun q hq => by have := (RL.out.2 q hq).1; have := S9.out; have := ab10.1; omega, by have := C9.out.size; have := ab10.1; omega⟩)
            clear r10 ab10 hc10 C9 R9 NW S9
            have FIN := Lib.hid fun W (hW : Rf W br orr (pack A) (8 * ((A.length + 7) / 8))) => (show Calls Try.prog 21 #[.pointer (some ⟨br, 0, none⟩)] W fun e w' => e = .returned (.int .i64 0) ∧ Chg (fun _ => False) W w' by
              have := fleft_any br orr (pack A) _ W hW
              rw [show 8 * (pack A).length - 8 * ((A.length + 7) / 8) = 0 by rw [pack_length]; omega] at this
              exact this)
            by_cases h0 : 0 < xs.length
            · obtain ⟨g, off, rfl, c0⟩ := (H.out.kept C10.out (by simp)).at 0 h0
              have hfit := HXS.out _ (getD_memB h0)
              have hat := AT.out 0 h0
              obtain ⟨x, hq⟩ : ∃ x, xs.getD 0 0 = x := ⟨_, rfl⟩
              rw [hq] at c0 hfit hat
              rw [Nat.add_zero] at c0
              rw [show (allR (xs.take 0)).length = 0 from rfl] at hat
              have hxI : (x : Int) < 256 := by omega
              have hl0 : decide (0 < (xs.length : Int)) = true := decide_eq_true (by omega)
              have hn0 : (0 : Int) < (xs.length : Int) := by omega
              by_cases hx0 : 0 < x
              · have hx1 : decide (0 < (x : Int)) = true := decide_eq_true (by omega)
                have hls := rnTk_less hat (most := (x : Int) - 1) (by omega) (by omega) (by omega)
                have TK := Lib.hid (rntake_any bx ox (pack A) 0 ((x : Int) - 1) w10 X10.out (by omega))
                rw [hls.1, hls.2] at TK
                have hxI0 : (0 : Int) < (x : Int) := by omega
                clear hls hat hfit hq X10
                go_wp2_with fail
                refine (TK.out).mono ?_
                rintro e w11 ⟨rfl, -, hc11⟩
                have C11 := Lib.hid (C10.out.trans hc11 (S := fun _ => False) (fun k hk (hh : k = bx) => by have := HBX.out.2.2; omega))
                have R11 := Lib.hid (R10.out.kept hc11 (fun (hh : br = bx) => by have := HBX.out.1; omega) (fun k hk (hh : k = bx) => by have := HBX.out.2.1 k hk; omega))
                clear hc11 C10 R10 c0 TK
                go_wp2_with fail
                refine (FIN.out w11 R11.out).mono ?_
                rintro e w12 ⟨rfl, hc12⟩
                have C12 := Lib.hid (C11.out.next hc12)
                clear hc12
                go_wp2
                go_ret
                exact ⟨rfl, C12.out⟩
              · have hx1 : decide (0 < (x : Int)) = false := decide_eq_false (by omega)
                have hxz : x = 0 := by omega
                subst hxz
                clear hat hfit hq X10
                go_wp2_with fail
                refine (FIN.out w10 R10.out).mono ?_
                rintro e w12 ⟨rfl, hc12⟩
                have C12 := Lib.hid (C10.out.next hc12)
                clear hc12
                go_wp2
                go_ret
                exact ⟨rfl, C12.out⟩
            · have hl0 : decide (0 < (xs.length : Int)) = false := decide_eq_false (by omega)
              clear X10
              go_wp2_with fail
              refine (FIN.out w10 R10.out).mono ?_
              rintro e w12 ⟨rfl, hc12⟩
              have C12 := Lib.hid (C10.out.next hc12)
              clear hc12
              go_wp2
              go_ret
              exact ⟨rfl, C12.out⟩
          · exfalso
            have := clear_pack A []
            rw [List.append_nil] at this
            exact hno this

end Go.Proofs.Ythenjooffkbkpaa
