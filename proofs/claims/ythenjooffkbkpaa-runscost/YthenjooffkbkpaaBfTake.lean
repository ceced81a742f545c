/- What bitf's Take, Pad and Rest do. -/
import Derived.Test.YthenjooffkbkpaaBfRead
namespace Go.Proofs.Ythenjooffkbkpaa
open Go.RowKit

/-- the bit at place i -/
def bt (xs : List Nat) (i : Nat) : Nat := xs.getD (i / 8) 0 / 2 ^ (i % 8) % 2
/-- the number in n bits from place p on -/
def fv (xs : List Nat) (p n : Nat) : Nat := val (((bitsB xs).drop p).take n)
/-- from place p to the byte's end there are bits 0 alone -/
def Clear (xs : List Nat) (p : Nat) : Prop := ∀ j, p ≤ j → j < 8 * ((p + 7) / 8) → bt xs j = 0

theorem bt_lt (xs : List Nat) (i : Nat) : bt xs i < 2 := Nat.mod_lt _ (by omega)

theorem fv_lt (xs : List Nat) (p n : Nat) : fv xs p n < 2 ^ n := val_take_lt _ _

theorem fv_succ (xs : List Nat) (p n : Nat) (h : p + n < 8 * xs.length) : fv xs p (n + 1) = fv xs p n + bt xs (p + n) * 2 ^ n := by
  have hl : n < ((bitsB xs).drop p).length := by rw [List.length_drop, bitsB_length]; omega
  unfold fv
  rw [val_take_succ _ n hl]
  congr 2
  have e1 := bitsB_get xs (p + n) h
  rw [List.getElem?_eq_getElem (by rw [bitsB_length]; exact h)] at e1
  rw [List.getElem_drop]
  exact (toNat_bit _ _ (Option.some.inj e1)).symm

theorem ftake_no (b : Nat) (o : Option Nat) (xs : List Nat) (p : Nat) (n : Int) (w : World) (h : Rf w b o xs p) (hn : n < 0 ∨ 24 < n ∨ ((8 * xs.length - p : Nat) : Int) < n) :
    Calls Try.prog 29 #[.pointer (some ⟨b, 0, none⟩), .int .i64 n] w fun e w' => e = .returned (.tuple #[.int .u32 0, .bool false]) ∧ Chg (fun _ => False) w w' := by
  by_cases h0 : n < 0
  · have h0' : decide (n < 0) = true := by simpa using h0
    clear h
    go_enter Try.func29, Try.ntmps29
    go_wp2
    go_ret2
    exact ⟨rfl, Chg.refl _ _⟩
  · have h0' : decide (n < 0) = false := by simpa using h0
    by_cases h1 : 24 < n
    · have h1' : decide (24 < n) = true := by simpa using h1
      clear h
      go_enter Try.func29, Try.ntmps29
      go_wp2
      go_ret2
      exact ⟨rfl, Chg.refl _ _⟩
    · have h1' : decide (24 < n) = false := by simpa using h1
      have h2' : ((8 * xs.length - p : Nat) : Int) < n := by omega
      have H := Lib.hid h
      clear h hn
      obtain ⟨L, hL⟩ : ∃ L, 8 * xs.length - p = L := ⟨_, rfl⟩
      rw [hL] at h2'
      have HL := Lib.hid hL
      clear hL
      go_enter Try.func29, Try.ntmps29
      go_wp2_with fail
      refine (fleft_any b o xs p w H.out).mono ?_
      rintro e w1 ⟨rfl, hc⟩
      rw [HL.out]
      go_wp2
      go_ret2
      exact ⟨rfl, hc⟩

set_option maxHeartbeats 1000000 in
theorem ftake_yes (b : Nat) (o : Option Nat) (xs : List Nat) (p n : Nat) (w : World) (h : Rf w b o xs p) (hn : n ≤ 24) (hnl : p + n ≤ 8 * xs.length) :
    Calls Try.prog 29 #[.pointer (some ⟨b, 0, none⟩), .int .i64 (n : Int)] w fun e w' => e = .returned (.tuple #[.int .u32 ((fv xs p n : Nat) : Int), .bool true]) ∧ Rf w' b o xs (p + n) ∧ Chg (fun k => k = b) w w' := by
  have h0' : decide ((n : Int) < 0) = false := by simp
  have h1' : decide (24 < (n : Int)) = false := by simp; omega
  have H := Lib.hid h
  obtain ⟨hx, hxl, -, -⟩ := h
  have HX := Lib.hid hx
  clear hx
  obtain ⟨L, hL⟩ : ∃ L, 8 * xs.length - p = L := ⟨_, rfl⟩
  have h2' : ¬ (L : Int) < (n : Int) := by omega
  have HL := Lib.hid hL; have HNL := Lib.hid hnl; have HXL := Lib.hid hxl
  clear hL hnl hxl
  go_enter Try.func29, Try.ntmps29
  go_wp2_with fail
  refine (fleft_any b o xs p w H.out).mono ?_
  rintro e w1 ⟨rfl, hc⟩
  rw [HL.out]
  have h1 := H.out.kept hc (by simp) (by simp)
  have H1 := Lib.hid h1; have HC := Lib.hid hc
  clear h1 hc H HL
  go_wp2
  go_loopw [6, 21] (fun o6 o21 wr => ∃ k : Nat, k ≤ n ∧ o21 = .int .i64 (k : Int) ∧ o6 = .int .u32 ((fv xs p k : Nat) : Int) ∧ Rf wr b o xs p ∧ Chg (fun _ => False) w wr) (fun _ o21 _ => n - (intOf o21).toNat)
  case atStart => exact ⟨0, Nat.zero_le _, rfl, by simp [fv, val], H1.out, HC.out⟩
  case round =>
    obtain ⟨k, hk, rfl, rfl, hr, hcr⟩ := hrel
    clear H1 HC
    by_cases hlt : k < n
    · have hnl := HNL.out; have hxl := HXL.out
      obtain ⟨-, -, -, v, hb, ho, hown⟩ := hr
      obtain ⟨g, cap, rfl, -⟩ := slice_of_own hown (by omega)
      obtain ⟨d0, d1, e0, e1⟩ := cells2 hb
      have hrow := hown.cellAt ((p + k) / 8) (by omega)
      rw [bv_get xs _ (by omega)] at hrow
      have hxx := getD_lt xs HX.out ((p + k) / 8)
      obtain ⟨y, hy⟩ : ∃ y, bt xs (p + k) = y := ⟨_, rfl⟩
      have HOR : Hid (bits BinOp.or IntKind.u32 ((fv xs p k : Nat) : Int) ((y : Int) * 2 ^ k % 4294967296) = ((fv xs p (k + 1) : Nat) : Int)) := by
        refine Lib.hid ?_
        rw [or_shift (fv xs p k) k y (fv_lt _ _ _) (by omega) (by have := bt_lt xs (p + k); omega), fv_succ xs p k (by omega), hy]
      have hr' : Hid (Rf wr b o xs p) := Lib.hid ⟨HX.out, hxl, by omega, _, hb, ho, hown⟩
      clear hb hown ho
      unfold bt at hy
      go_wp2
      go_quiet (first | (go_at_call 33; refine Calls.quiet_of_same (fbitAt_y g 0 (p + k) cap xs.length (xs.getD ((p + k) / 8) 0) y _ ?_ (by omega) (by omega) hxx hy); rw [Nat.zero_add]; exact hrow))
      go_wp2
      rw [HOR.out]
      go_roundw
      case rel => exact ⟨k + 1, by omega, by go_num, rfl, hr'.out.drewN nq, hcr.drewN nq⟩
      case measure => simp [intOf]; omega
    · obtain rfl : k = n := by omega
      have hnl := HNL.out; have hxl := HXL.out
      obtain ⟨-, -, -, v, hb, ho, hown⟩ := hr
      have hne : ∀ q, v.ownBlock = some q → q ≠ b := by
        have hR : Rf wr b o xs p := ⟨HX.out, hxl, by omega, v, hb, ho, hown⟩
        intro q hq
        exact (hR.lt.2 q (ho.symm.trans hq)).2
      obtain ⟨ao, cap, rfl, -⟩ := own_src hown
      obtain ⟨d0, d1, e0, e1⟩ := cells2 hb
      have hb1 := set2_1 (u := .int .i64 ((p : Int) + (k : Int))) hb
      have hc1 := Chg.setCell wr ⟨b, 1, none⟩ (.int .i64 ((p : Int) + (k : Int)))
      have ho1 := hc1.own hown (fun q hq hx => hne q hq hx)
      have HB1 := Lib.hid hb1; have HC1 := Lib.hid hc1; have HO1 := Lib.hid ho1; have HO := Lib.hid ho
      clear hb1 hc1 ho1 hb hown hne ho
      go_wp2
      go_ret2
      refine ⟨rfl, ⟨HX.out, hxl, by omega, _, HB1.out, HO.out, HO1.out⟩, (hcr.mono (fun _ _ h => h.elim)).trans HC1.out (fun _ _ h => h)⟩

/-- what Take answers for every n -/
theorem ftake_any (b : Nat) (o : Option Nat) (xs : List Nat) (p : Nat) (n : Int) (w : World) (h : Rf w b o xs p) :
    Calls Try.prog 29 #[.pointer (some ⟨b, 0, none⟩), .int .i64 n] w fun e w' =>
      (∃ m : Nat, n = (m : Int) ∧ m ≤ 24 ∧ p + m ≤ 8 * xs.length ∧ e = .returned (.tuple #[.int .u32 ((fv xs p m : Nat) : Int), .bool true]) ∧ Rf w' b o xs (p + m) ∧ Chg (fun k => k = b) w w') ∨
      ((n < 0 ∨ 24 < n ∨ ((8 * xs.length - p : Nat) : Int) < n) ∧ e = .returned (.tuple #[.int .u32 0, .bool false]) ∧ Rf w' b o xs p ∧ Chg (fun _ => False) w w') := by
  by_cases hn : n < 0 ∨ 24 < n ∨ ((8 * xs.length - p : Nat) : Int) < n
  · exact (ftake_no b o xs p n w h hn).mono fun e w' ⟨h1, h2⟩ => .inr ⟨hn, h1, h.kept h2 (by simp) (by simp), h2⟩
  · obtain ⟨m, rfl⟩ := Int.eq_ofNat_of_zero_le (show 0 ≤ n by omega)
    have hp := h.2.2.1
    exact (ftake_yes b o xs p m w h (by omega) (by omega)).mono fun e w' ⟨h1, h2, h3⟩ => .inl ⟨m, rfl, by omega, by omega, h1, h2, h3⟩

set_option maxHeartbeats 1000000 in
theorem fpad_any (b : Nat) (o : Option Nat) (xs : List Nat) (p : Nat) (w : World) (h : Rf w b o xs p) :
    Calls Try.prog 23 #[.pointer (some ⟨b, 0, none⟩)] w fun e w' =>
      (Clear xs p ∧ e = .returned (.bool true) ∧ Rf w' b o xs (8 * ((p + 7) / 8)) ∧ Chg (fun k => k = b) w w') ∨ (¬ Clear xs p ∧ e = .returned (.bool false) ∧ w = w') := by
  have hne := h.lt.2
  obtain ⟨hx, hxl, hp, v, hb, ho, hown⟩ := h
  obtain ⟨ao, cap, rfl, -⟩ := own_src hown
  obtain ⟨d0, d1, e0, e1⟩ := cells2 hb
  obtain ⟨E, hE⟩ : ∃ E, (p + 7) / 8 = E := ⟨_, rfl⟩
  have hE1 : p ≤ 8 * E ∧ 8 * E ≤ 8 * xs.length := by omega
  have HX := Lib.hid hx; have HB := Lib.hid hb; have HO := Lib.hid ho; have HOWN := Lib.hid hown; have HE := Lib.hid hE; have HNE := Lib.hid hne
  clear hx hb ho hown hE hne
  go_enter Try.func23, Try.ntmps23
  go_wp2_with fail
  refine (begun_any b p _ w (by omega) HB.out).mono ?_
  rintro e w1 ⟨rfl, hw⟩
  subst hw
  rw [HE.out]
  go_wp2
  go_loopw [4] (fun o4 wr => ∃ k : Nat, p ≤ k ∧ k ≤ 8 * E ∧ o4 = .int .i64 (k : Int) ∧ (∀ j, p ≤ j → j < k → bt xs j = 0) ∧ wr = w1) (fun o4 _ => 8 * E - (intOf o4).toNat)
  case atStart => exact ⟨p, Nat.le_refl _, by omega, rfl, fun j h1 h2 => by omega, rfl⟩
  case round =>
    obtain ⟨k, hk1, hk2, rfl, hz, rfl⟩ := hrel
    by_cases hlt : k < 8 * E
    · have hown := HOWN.out
      obtain ⟨g, cap', hv, -⟩ := slice_of_own hown (by omega)
      simp only [Value.slice.injEq, true_and] at hv
      obtain ⟨rfl, rfl⟩ := hv
      have hrow := hown.cellAt (k / 8) (by omega)
      rw [bv_get xs _ (by omega)] at hrow
      have hxx := getD_lt xs HX.out (k / 8)
      obtain ⟨y, hy⟩ : ∃ y, bt xs k = y := ⟨_, rfl⟩
      have hy2 := bt_lt xs k
      have HZ := Lib.hid hz; have HY := Lib.hid hy
      clear hz
      unfold bt at hy
      clear hown
      go_wp2_with fail
      refine (fbitAt_y g 0 k cap xs.length (xs.getD (k / 8) 0) y _ (by rw [Nat.zero_add]; exact hrow) (by omega) (by omega) hxx hy).mono ?_
      rintro e w2 ⟨rfl, hw⟩
      subst hw
      clear hrow hxx hy
      by_cases hy0 : y = 0
      · subst hy0
        go_wp2
        go_roundw
        case rel =>
          refine ⟨k + 1, by omega, by omega, by go_num, fun j h1 h2 => ?_, trivial⟩
          by_cases hjk : j = k
          · rw [hjk]; exact HY.out
          · exact HZ.out j h1 (by omega)
        case measure => simp [intOf]; omega
      · have hy1 : y = 1 := by have := HY.out; omega
        subst hy1
        go_wp2
        go_ret
        refine .inr ⟨fun hcl => ?_, rfl, rfl⟩
        have h1 := hcl k hk1 (by rw [HE.out]; omega)
        have h2 := HY.out
        omega
    · obtain rfl : k = 8 * E := by omega
      have hb1 := set2_1 (u := .int .i64 ((8 * E : Nat) : Int)) HB.out
      have hc1 := Chg.setCell wr ⟨b, 1, none⟩ (.int .i64 ((8 * E : Nat) : Int))
      have ho1 := hc1.own HOWN.out (fun q hq hx => (HNE.out q (HO.out.symm.trans hq)).2 hx)
      have HB1 := Lib.hid hb1; have HC1 := Lib.hid hc1; have HO1 := Lib.hid ho1
      have HZ := Lib.hid hz
      clear hb1 hc1 ho1 hz
      go_wp2
      go_ret
      rw [show ((E : Int) * 8) = ((8 * E : Nat) : Int) from by omega]
      refine .inl ⟨fun j h1 h2 => HZ.out j h1 (by have := HE.out; omega), rfl, ⟨HX.out, hxl, by have := HE.out; omega, _, ?_, HO.out, ?_⟩, ?_⟩
      · rw [HE.out]; exact HB1.out
      · exact HO1.out
      · exact HC1.out

end Go.Proofs.Ythenjooffkbkpaa
