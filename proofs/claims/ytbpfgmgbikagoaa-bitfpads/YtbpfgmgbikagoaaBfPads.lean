/- The walk of BitfPads. -/
import Derived.Test.YtbpfgmgbikagoaaBfAwake
import Derived.Deep.RegionHeld3
namespace Go.Proofs.Ytbpfgmgbikagoaa
open Go.RowKit

theorem rest_bits : ∀ x, x < 256 → ∀ s, s < 8 → (x / 2 ^ s = 0 ↔ ∀ j, j < 8 → s ≤ j → x / 2 ^ j % 2 = 0) := by decide +kernel

theorem clear_whole (xs : List Nat) (k : Nat) (h : k % 8 = 0) : Clear xs k := fun j h1 h2 => by omega

theorem clear_iff (xs : List Nat) (hx : ∀ x ∈ xs, x < 256) (k : Nat) (h : k % 8 ≠ 0) : Clear xs k ↔ xs.getD (k / 8) 0 / 2 ^ (k % 8) = 0 := by
  rw [rest_bits _ (getD_lt xs hx _) (k % 8) (by omega)]
  constructor
  · intro hc t ht hs
    have := hc (8 * (k / 8) + t) (by omega) (by omega)
    unfold bt at this
    rwa [show (8 * (k / 8) + t) / 8 = k / 8 from by omega, show (8 * (k / 8) + t) % 8 = t from by omega] at this
  · intro hc j h1 h2
    unfold bt
    rw [show j / 8 = k / 8 from by omega]
    exact hc (j % 8) (by omega) (by omega)

theorem RdB.dropIn {w : World} {g off n cap q : Nat} {xs : List Nat} (h : RdB w (.slice (some ⟨g, off, none⟩) n cap) xs) (hq : q ≤ xs.length) (c' : Nat) : RdB w (.slice (some ⟨g, off + q, none⟩) (xs.length - q) c') (xs.drop q) := by
  rcases h with ⟨h0, _⟩ | ⟨g', off', cap', he, hc⟩
  · rw [h0]; exact .inl ⟨by simp, some ⟨g, off + q, none⟩, c', by simp⟩
  · simp only [Value.slice.injEq, Option.some.injEq, Addr.mk.injEq, and_true] at he
    obtain ⟨⟨rfl, rfl⟩, _, _⟩ := he
    refine .inr ⟨g, off + q, c', by simp, fun j hj => ?_⟩
    have hj' : q + j < xs.length := by rw [List.length_drop] at hj; omega
    rw [Nat.add_assoc, hc (q + j) hj']
    simp [List.getD_eq_getElem?_getD]

theorem same_eq (v1 v2 : Value) (xs : List Nat) (w : World) (h1 : RdB w v1 xs) (h2 : RdB w v2 xs) (hx : ∀ x ∈ xs, x < 256) :
    Calls Try.prog 16 #[v1, v2] w fun e w' => e = .returned (.bool true) ∧ w = w' := by
  refine (same_any v1 v2 xs xs w h1 h2 hx hx).mono ?_
  rintro e w' ⟨rfl, rfl⟩
  exact ⟨by simp, rfl⟩

theorem fleft_w (b : Nat) (o : Option Nat) (xs : List Nat) (q : Nat) (w : World) (h : Rf w b o xs (8 * q)) :
    Calls Try.prog 14 #[.pointer (some ⟨b, 0, none⟩)] w fun e w' => e = .returned (.int .i64 (8 * ((xs.length : Int) - (q : Int)))) ∧ Chg (fun _ => False) w w' := by
  have hp := h.2.2.1
  refine (fleft_any b o xs (8 * q) w h).mono ?_
  rintro e w' ⟨rfl, hc⟩
  exact ⟨congrArg (fun z => Ending.returned (Value.int .i64 z)) (by omega), hc⟩

theorem frest_q (b : Nat) (o : Option Nat) (xs : List Nat) (p q : Nat) (w : World) (h : Rf w b o xs p) (hq : (p + 7) / 8 = q) :
    Calls Try.prog 17 #[.pointer (some ⟨b, 0, none⟩)] w fun e w' => ∃ v', e = .returned v' ∧ RdB w' v' (xs.drop q) ∧ Chg (fun _ => False) w w' := by
  subst hq
  refine (frest_any b o xs p w h).mono ?_
  rintro e w' ⟨v', rfl, ho, hc⟩
  exact ⟨v', rfl, RdB.of_own ho, hc⟩

/-- b[q:] -/
theorem slice_from {w : World} {ao : Option Addr} {cap q : Nat} {xs : List Nat} (h : RdB w (.slice ao xs.length cap) xs) (hq : q ≤ xs.length) (hcap : xs.length ≤ cap) :
    ∃ ao2 c2, (∀ W : World, (Instr.slice 22 (.slice ao xs.length cap) (some (.int .i64 (q : Int))) none none).run Try.prog W = .ok (.slice ao2 (xs.length - q) c2) W) ∧ RdB w (.slice ao2 (xs.length - q) c2) (xs.drop q) := by
  refine ⟨if cap = q then ao else ao.map (·.add q), cap - q, fun W => ?_, ?_⟩
  · have hs : (sizeOf (Try.prog.elem 22)).run Try.prog W = .ok 1 W := by kernel_rfl
    rw [run_slice_l W 22 ao xs.length cap (by kernel_rfl) .i64 (q : Int) (by omega) (by omega), hs]
    simp [Result.andThen, sliced]
  · by_cases hz : xs.length = q
    · exact .inl ⟨by rw [← hz]; simp, _, _, by rw [hz, Nat.sub_self]⟩
    · rw [if_neg (by omega)]
      obtain ⟨g, off, hao⟩ : ∃ g off, ao = some ⟨g, off, none⟩ := by
        rcases h with ⟨h0, _⟩ | ⟨g, off, cap', he, _⟩
        · rw [h0] at hq hz; simp at hq hz; omega
        · simp only [Value.slice.injEq] at he
          exact ⟨g, off, he.1⟩
      subst hao
      rw [show Option.map (fun x : Addr => x.add q) (some ⟨g, off, none⟩) = some ⟨g, off + q, none⟩ from by simp [Addr.add]]
      exact h.dropIn hq _

set_option maxHeartbeats 2000000 in
set_option maxRecDepth 100000 in
theorem fpads_any (ao : Option Addr) (len cap : Nat) (xs : List Nat) (n : Nat) (w : World) (h : RdB w (.slice ao len cap) xs) (hx : ∀ x ∈ xs, x < 256) (hn : n < 256) (hcap : len ≤ cap) (hmax : cap ≤ maxLen) :
    Calls Try.prog 6 #[.slice ao len cap, .int .u8 (n : Int)] w fun e w' => Says w e w' := by
  obtain ⟨ao', cap', hv⟩ := h.form
  simp only [Value.slice.injEq] at hv
  obtain ⟨rfl, rfl, rfl⟩ := hv
  have H := Lib.hid h
  clear h
  by_cases hbig : 200 < xs.length
  · go_enter Try.func6, Try.ntmps6
    go_wp2_with fail
    refine (awake3_any w).mono ?_
    rintro e w1 ⟨rfl, hc1⟩
    go_wp2
    go_ret
    exact ⟨rfl, hc1⟩
  obtain ⟨k, hk, hk24⟩ : ∃ k : Nat, (n : Int) % 25 = (k : Int) ∧ k ≤ 24 := ⟨n % 25, by omega, by omega⟩
  have HX := Lib.hid hx
  clear hx
  by_cases hno : 8 * xs.length < k
  · have hno' : ((xs.length : Int) * 8) < (k : Int) := by omega
    go_enter Try.func6, Try.ntmps6
    go_wp2_with fail
    refine (awake3_any w).mono ?_
    rintro e w1 ⟨rfl, hc1⟩
    have h1 := H.out.kept hc1 (by simp)
    go_wp2_with fail
    refine (fnew_any _ xs w1 h1 (by omega) HX.out).mono ?_
    rintro e w2 ⟨b, o, rfl, r2, ab, hc2⟩
    have hc2' := hc1.trans hc2 (fun _ _ h => h)
    clear hc1 hc2 h1 ab
    go_wp2_with fail
    refine (ftake_no b o xs 0 (k : Int) w2 r2 (by omega)).mono ?_
    rintro e w3 ⟨rfl, hc3⟩
    have hc3' := hc2'.trans hc3 (fun _ _ h => h)
    clear hc3 hc2' r2
    go_wp2
    go_ret
    exact ⟨rfl, hc3'⟩
  go_enter Try.func6, Try.ntmps6
  go_wp2_with fail
  refine (awake3_any w).mono ?_
  rintro e w1 ⟨rfl, hc1⟩
  have h1 := H.out.kept hc1 (by simp)
  have z1 := hc1.size
  go_wp2_with fail
  refine (fnew_any _ xs w1 h1 (by omega) HX.out).mono ?_
  rintro e w2 ⟨b, o, rfl, r2, ab, hc2⟩
  have h2 := h1.kept hc2 (by simp)
  have hc2' := hc1.trans hc2 (fun _ _ h => h)
  have HB : Hid (w.heap.size ≤ b) := Lib.hid (by have := ab.1; omega)
  clear hc1 hc2 h1 ab z1
  go_wp2_with fail
  refine (ftake_in b o xs 0 (k : Int) w2 r2 (by omega) (by omega) (by omega)).mono ?_
  rintro e w3 ⟨rfl, r3, hc3⟩
  have hc3' := hc2'.trans hc3 (S := fun _ => False) (fun i hi h => by have := HB.out; omega)
  have h3 := H.out.kept hc3' (by simp)
  rw [Int.toNat_natCast, Nat.zero_add] at r3
  clear hc3 hc2' r2 h2
  generalize fv xs 0 (k : Int).toNat = vv at *
  obtain ⟨q, hq⟩ : ∃ q, (k + 7) / 8 = q := ⟨_, rfl⟩
  have hq' : ((k : Int) + 7) / 8 = (q : Int) := by omega
  have hq4 : q ≤ 4 := by omega
  obtain ⟨ao2, c2, hsl, hrd⟩ := slice_from (q := q) H.out (by omega) hcap
  have HRD := Lib.hid hrd
  have HQ := Lib.hid hq
  have HNO := Lib.hid hno
  clear hrd hq hcap hno
  by_cases hk8 : k % 8 = 0
  · have hk8' : (k : Int) % 8 = 0 := by omega
    go_wp2_with fail
    refine (fleft_any b o xs k w3 r3).mono ?_
    rintro e w4 ⟨rfl, hc4⟩
    have r4 := r3.kept hc4 (by simp) (by simp)
    have hc4' := hc3'.trans hc4 (fun _ _ h => h)
    obtain ⟨L, hL⟩ : ∃ L, 8 * xs.length - k = L := ⟨_, rfl⟩
    rw [hL]
    clear hc4 r3 hc3' h3 hL
    go_wp2_with fail
    refine (fpad_any b o xs k w4 r4).mono ?_
    rintro e w5 (⟨-, rfl, r5, hc5⟩ | ⟨hno, -, -⟩)
    · have hc5' := hc4'.trans hc5 (S := fun _ => False) (fun i hi h => by have := HB.out; omega)
      rw [HQ.out] at r5
      have HR5 := Lib.hid r5; have HC5 := Lib.hid hc5'
      clear r5 hc5' hc5 r4 hc4'
      have hw1 : IntKind.i64.wrap ((xs.length : Int) - (q : Int)) = (xs.length : Int) - (q : Int) := by rw [IntKind.wrap_i64]; omega
      have hw2 : IntKind.i64.wrap (8 * ((xs.length : Int) - (q : Int))) = 8 * ((xs.length : Int) - (q : Int)) := by rw [IntKind.wrap_i64]; omega
      go_wp2_with fail
      go_region_held3 (fun _ => True) (trivial) (first
        | (go_at_call 17; refine (frest_q b o xs (8 * q) q w5.drew HR5.out (by omega)).mono ?_; rintro e w6 ⟨v6, rfl, rd6, hc6⟩; have r6 := Lib.hid (Rf.kept (w := w5.drew) HR5.out hc6 (by simp) (by simp)); have hc6' := Lib.hid (HC5.out.drew.trans hc6 (fun _ _ h => h)); have RD6 := Lib.hid rd6; clear rd6 hc6)
        | (go_at_call 16; refine (same_eq _ _ (xs.drop q) _ RD6.out (HRD.out.kept hc6'.out (by simp)) (drop_bytes HX.out q)).mono ?_; rintro e w7 ⟨rfl, rfl⟩)
        | (go_at_call 14; refine (fleft_w b o xs q _ r6.out).mono ?_; rintro e w8 ⟨rfl, hc8⟩; have hc8' := Lib.hid (hc6'.out.trans hc8 (fun _ _ h => h)); clear hc8))
      go_wp2
      go_ret
      exact ⟨rfl, hc8'.out⟩
    · exact absurd (clear_whole xs k hk8) hno
  · have hk8' : ¬ (k : Int) % 8 = 0 := by omega
    have hkl : k / 8 < xs.length := by have := HNO.out; omega
    obtain ⟨g, off, hao, hcell⟩ : ∃ g off, ao = some ⟨g, off, none⟩ ∧ w3.cell? ⟨g, off + k / 8, none⟩ = some (.int .u8 ((xs.getD (k / 8) 0 : Nat) : Int)) := by
      rcases h3 with ⟨h0, _⟩ | ⟨g, off, cap', he, hc⟩
      · rw [h0] at hkl; simp at hkl
      · simp only [Value.slice.injEq] at he
        exact ⟨g, off, he.1, hc _ hkl⟩
    subst hao
    have HIFF := Lib.hid (clear_iff xs HX.out k hk8)
    have hxx := getD_lt xs HX.out (k / 8)
    generalize xs.getD (k / 8) 0 = x at *
    obtain ⟨R, hR⟩ : ∃ R, x / 2 ^ (k % 8) = R := ⟨_, rfl⟩
    have hR' : ((x : Int) / 2 ^ (k % 8)) = (R : Int) := by rw [← hR]; simp
    have hR256 : R < 256 := by have := Nat.div_le_self x (2 ^ (k % 8)); omega
    rw [hR] at HIFF
    clear hR
    by_cases hR0 : R = 0
    · subst hR0
      go_wp2_with fail
      refine (fleft_any b o xs k w3 r3).mono ?_
      rintro e w4 ⟨rfl, hc4⟩
      have r4 := r3.kept hc4 (by simp) (by simp)
      have hc4' := hc3'.trans hc4 (fun _ _ h => h)
      obtain ⟨L, hL⟩ : ∃ L, 8 * xs.length - k = L := ⟨_, rfl⟩
      rw [hL]
      clear hc4 r3 hc3' h3 hL hcell
      go_wp2_with fail
      refine (fpad_any b o xs k w4 r4).mono ?_
      rintro e w5 (⟨-, rfl, r5, hc5⟩ | ⟨hno, -, -⟩)
      · have hc5' := hc4'.trans hc5 (S := fun _ => False) (fun i hi h => by have := HB.out; omega)
        rw [HQ.out] at r5
        have HR5 := Lib.hid r5; have HC5 := Lib.hid hc5'
        clear r5 hc5' hc5 r4 hc4'
        have hw1 : IntKind.i64.wrap ((xs.length : Int) - (q : Int)) = (xs.length : Int) - (q : Int) := by rw [IntKind.wrap_i64]; omega
        have hw2 : IntKind.i64.wrap (8 * ((xs.length : Int) - (q : Int))) = 8 * ((xs.length : Int) - (q : Int)) := by rw [IntKind.wrap_i64]; omega
        go_wp2_with fail
        go_region_held3 (fun _ => True) (trivial) (first
          | (go_at_call 17; refine (frest_q b o xs (8 * q) q w5.drew HR5.out (by omega)).mono ?_; rintro e w6 ⟨v6, rfl, rd6, hc6⟩; have r6 := Lib.hid (Rf.kept (w := w5.drew) HR5.out hc6 (by simp) (by simp)); have hc6' := Lib.hid (HC5.out.drew.trans hc6 (fun _ _ h => h)); have RD6 := Lib.hid rd6; clear rd6 hc6)
          | (go_at_call 16; refine (same_eq _ _ (xs.drop q) _ RD6.out (HRD.out.kept hc6'.out (by simp)) (drop_bytes HX.out q)).mono ?_; rintro e w7 ⟨rfl, rfl⟩)
          | (go_at_call 14; refine (fleft_w b o xs q _ r6.out).mono ?_; rintro e w8 ⟨rfl, hc8⟩; have hc8' := Lib.hid (hc6'.out.trans hc8 (fun _ _ h => h)); clear hc8))
        go_wp2
        go_ret
        exact ⟨rfl, hc8'.out⟩
      · exact absurd (HIFF.out.2 (by simp)) hno
    · have hRb : ((R : Int) == 0) = false := by rw [beq_eq_false_iff_ne]; omega
      have HRN := Lib.hid hR0
      go_wp2_with fail
      refine (fleft_any b o xs k w3 r3).mono ?_
      rintro e w4 ⟨rfl, hc4⟩
      have r4 := r3.kept hc4 (by simp) (by simp)
      have hc4' := hc3'.trans hc4 (fun _ _ h => h)
      obtain ⟨L, hL⟩ : ∃ L, 8 * xs.length - k = L := ⟨_, rfl⟩
      rw [hL]
      have HL := Lib.hid hL
      clear hc4 r3 hc3' h3 hL hcell
      go_wp2_with fail
      refine (fpad_any b o xs k w4 r4).mono ?_
      rintro e w5 (⟨hcl, -, -, -⟩ | ⟨-, rfl, rfl⟩)
      · exact absurd (HIFF.out.1 hcl) HRN.out
      · go_wp2_with fail
        refine (fleft_any b o xs k w4 r4).mono ?_
        rintro e w5 ⟨rfl, hc5⟩
        rw [HL.out]
        have r5 := r4.kept hc5 (by simp) (by simp)
        have hc5' := hc4'.trans hc5 (fun _ _ h => h)
        have HR5 := Lib.hid r5; have HC5 := Lib.hid hc5'
        clear r5 hc5' hc5 r4 hc4'
        go_wp2_with fail
        refine wp_region_held_drew (S := fun _ => True) (by kernel_rfl) trivial (fun hHeld => ?_)
        refine wpAnyH_take (i := 0) (v := ?v0) rfl (by kernel_rfl) (by kernel_rfl) (by kernel_rfl) (fun _ _ _ h => h) (Or.inl ⟨by kernel_rfl, fun _ _ => ?y0⟩) trivial ?_
        case y0 => (go_simp; try with_reducible rfl)
        try simp only [Act.put, List.getElem_toArray, List.getElem_cons_zero, List.getElem_cons_succ, List.setIfInBounds_toArray, List.set_cons_zero, List.set_cons_succ]
        refine wpAnyH_take (i := 1) (v := ?v1) rfl (by kernel_rfl) (by kernel_rfl) (by kernel_rfl) (fun _ _ _ h => h) (Or.inl ⟨by kernel_rfl, fun _ _ => ?y1⟩) trivial ?_
        case y1 => (go_simp; try with_reducible rfl)
        try simp only [Act.put, List.getElem_toArray, List.getElem_cons_zero, List.getElem_cons_succ, List.setIfInBounds_toArray, List.set_cons_zero, List.set_cons_succ]
        refine wpAnyH_take (i := 2) (v := ?v2) rfl (by kernel_rfl) (by kernel_rfl) (by kernel_rfl) (fun _ _ _ h => h) (Or.inl ⟨by kernel_rfl, fun _ _ => ?y2⟩) trivial ?_
        case y2 => (go_simp; try with_reducible rfl)
        try simp only [Act.put, List.getElem_toArray, List.getElem_cons_zero, List.getElem_cons_succ, List.setIfInBounds_toArray, List.set_cons_zero, List.set_cons_succ]
        refine wpAnyH_take (i := 4) (v := ?v4) rfl (by kernel_rfl) (by kernel_rfl) (by kernel_rfl) (fun _ _ _ h => h) (Or.inl ⟨by kernel_rfl, fun _ _ => ?y4⟩) trivial ?_
        case y4 => (go_simp; try with_reducible rfl)
        try simp only [Act.put, List.getElem_toArray, List.getElem_cons_zero, List.getElem_cons_succ, List.setIfInBounds_toArray, List.set_cons_zero, List.set_cons_succ]
        refine wpAnyH_take (i := 5) (v := ?v5) rfl (by kernel_rfl) (by kernel_rfl) (by kernel_rfl) (fun _ _ _ h => h) (Or.inl ⟨by kernel_rfl, fun _ _ => ?y5⟩) trivial ?_
        case y5 => (go_simp; try with_reducible rfl)
        try simp only [Act.put, List.getElem_toArray, List.getElem_cons_zero, List.getElem_cons_succ, List.setIfInBounds_toArray, List.set_cons_zero, List.set_cons_succ]
        refine wpAnyH_take (i := 6) (v := ?v6) rfl (by kernel_rfl) (by kernel_rfl) (by kernel_rfl) (fun _ _ _ h => h) (Or.inl ⟨by kernel_rfl, fun _ _ => ?y6⟩) trivial ?_
        case y6 => (go_simp; try with_reducible rfl)
        try simp only [Act.put, List.getElem_toArray, List.getElem_cons_zero, List.getElem_cons_succ, List.setIfInBounds_toArray, List.set_cons_zero, List.set_cons_succ]
        refine wpAnyH_ready (rs := [3]) (by kernel_rfl) (by simp) ?_
        refine AllReadyH.cons rfl (fun K hK => ?_) AllReadyH.nil
        go_simp
        (go_at_call 17; refine (frest_q b o xs k q w5.drew HR5.out HQ.out).mono ?_; rintro e w6 ⟨v6, rfl, rd6, hc6⟩; have hc6' := Lib.hid (HC5.out.drew.trans hc6 (fun _ _ h => h)); have RD6 := Lib.hid rd6; clear rd6 hc6)
        refine hK.out _ _ trivial (fun _ => ?_)
        clear hK K
        try simp only [Act.put, List.getElem_toArray, List.getElem_cons_zero, List.getElem_cons_succ, List.setIfInBounds_toArray, List.set_cons_zero, List.set_cons_succ]
        refine wpAnyH_ready (rs := [7]) (by kernel_rfl) (by simp) ?_
        refine AllReadyH.cons rfl (fun K hK => ?_) AllReadyH.nil
        go_simp
        (go_at_call 16; refine (same_eq _ _ (xs.drop q) _ RD6.out (HRD.out.kept hc6'.out (by simp)) (drop_bytes HX.out q)).mono ?_; rintro e w7 ⟨rfl, rfl⟩)
        refine hK.out _ _ trivial (fun _ => ?_)
        clear hK K
        try simp only [Act.put, List.getElem_toArray, List.getElem_cons_zero, List.getElem_cons_succ, List.setIfInBounds_toArray, List.set_cons_zero, List.set_cons_succ]
        refine wpAnyH_take (i := 8) (v := ?v8) rfl (by kernel_rfl) (by kernel_rfl) (by kernel_rfl) (fun _ _ _ h => h) (Or.inl ⟨by kernel_rfl, fun _ _ => ?y8⟩) trivial ?_
        case y8 => (go_simp; try with_reducible rfl)
        try simp only [Act.put, List.getElem_toArray, List.getElem_cons_zero, List.getElem_cons_succ, List.setIfInBounds_toArray, List.set_cons_zero, List.set_cons_succ]
        refine wpAnyH_take (i := 9) (v := ?v9) rfl (by kernel_rfl) (by kernel_rfl) (by kernel_rfl) (fun _ _ _ h => h) (Or.inl ⟨by kernel_rfl, fun _ _ => ?y9⟩) trivial ?_
        case y9 => (go_simp; try with_reducible rfl)
        try simp only [Act.put, List.getElem_toArray, List.getElem_cons_zero, List.getElem_cons_succ, List.setIfInBounds_toArray, List.set_cons_zero, List.set_cons_succ]
        refine wpAnyH_take (i := 10) (v := ?v10) rfl (by kernel_rfl) (by kernel_rfl) (by kernel_rfl) (fun _ _ _ h => h) (Or.inl ⟨by kernel_rfl, fun _ _ => ?y10⟩) trivial ?_
        case y10 => (go_simp; try with_reducible rfl)
        try simp only [Act.put, List.getElem_toArray, List.getElem_cons_zero, List.getElem_cons_succ, List.setIfInBounds_toArray, List.set_cons_zero, List.set_cons_succ]
        refine wpAnyH_take (i := 11) (v := ?v11) rfl (by kernel_rfl) (by kernel_rfl) (by kernel_rfl) (fun _ _ _ h => h) (Or.inl ⟨by kernel_rfl, fun _ _ => ?y11⟩) trivial ?_
        case y11 => (go_simp; try with_reducible rfl)
        try simp only [Act.put, List.getElem_toArray, List.getElem_cons_zero, List.getElem_cons_succ, List.setIfInBounds_toArray, List.set_cons_zero, List.set_cons_succ]
        refine wpAnyH_take (i := 12) (v := ?v12) rfl (by kernel_rfl) (by kernel_rfl) (by kernel_rfl) (fun _ _ _ h => h) (Or.inl ⟨by kernel_rfl, fun _ _ => ?y12⟩) trivial ?_
        case y12 => (go_simp; try with_reducible rfl)
        try simp only [Act.put, List.getElem_toArray, List.getElem_cons_zero, List.getElem_cons_succ, List.setIfInBounds_toArray, List.set_cons_zero, List.set_cons_succ]
        refine wpAnyH_take (i := 13) (v := undef) rfl (by kernel_rfl) (by kernel_rfl) (by kernel_rfl) (fun _ _ _ h => h) (Or.inr ⟨by kernel_rfl, rfl⟩) trivial ?_
        try simp only [Act.put, List.getElem_toArray, List.getElem_cons_zero, List.getElem_cons_succ, List.setIfInBounds_toArray, List.set_cons_zero, List.set_cons_succ]
        refine wpAnyH_take (i := 14) (v := undef) rfl (by kernel_rfl) (by kernel_rfl) (by kernel_rfl) (fun _ _ _ h => h) (Or.inr ⟨by kernel_rfl, rfl⟩) trivial ?_
        try simp only [Act.put, List.getElem_toArray, List.getElem_cons_zero, List.getElem_cons_succ, List.setIfInBounds_toArray, List.set_cons_zero, List.set_cons_succ]
        refine wpAnyH_take (i := 15) (v := undef) rfl (by kernel_rfl) (by kernel_rfl) (by kernel_rfl) (fun _ _ _ h => h) (Or.inr ⟨by kernel_rfl, rfl⟩) trivial ?_
        try simp only [Act.put, List.getElem_toArray, List.getElem_cons_zero, List.getElem_cons_succ, List.setIfInBounds_toArray, List.set_cons_zero, List.set_cons_succ]
        refine wpAnyH_take (i := 16) (v := undef) rfl (by kernel_rfl) (by kernel_rfl) (by kernel_rfl) (fun _ _ _ h => h) (Or.inr ⟨by kernel_rfl, rfl⟩) trivial ?_
        try simp only [Act.put, List.getElem_toArray, List.getElem_cons_zero, List.getElem_cons_succ, List.setIfInBounds_toArray, List.set_cons_zero, List.set_cons_succ]
        refine wpAnyH_take (i := 17) (v := undef) rfl (by kernel_rfl) (by kernel_rfl) (by kernel_rfl) (fun _ _ _ h => h) (Or.inr ⟨by kernel_rfl, rfl⟩) trivial ?_
        try simp only [Act.put, List.getElem_toArray, List.getElem_cons_zero, List.getElem_cons_succ, List.setIfInBounds_toArray, List.set_cons_zero, List.set_cons_succ]
        refine wpAnyH_take (i := 18) (v := undef) rfl (by kernel_rfl) (by kernel_rfl) (by kernel_rfl) (fun _ _ _ h => h) (Or.inr ⟨by kernel_rfl, rfl⟩) trivial ?_
        try simp only [Act.put, List.getElem_toArray, List.getElem_cons_zero, List.getElem_cons_succ, List.setIfInBounds_toArray, List.set_cons_zero, List.set_cons_succ]
        refine wpAnyH_take (i := 19) (v := undef) rfl (by kernel_rfl) (by kernel_rfl) (by kernel_rfl) (fun _ _ _ h => h) (Or.inr ⟨by kernel_rfl, rfl⟩) trivial ?_
        try simp only [Act.put, List.getElem_toArray, List.getElem_cons_zero, List.getElem_cons_succ, List.setIfInBounds_toArray, List.set_cons_zero, List.set_cons_succ]
        refine wpAnyH_take (i := 20) (v := undef) rfl (by kernel_rfl) (by kernel_rfl) (by kernel_rfl) (fun _ _ _ h => h) (Or.inr ⟨by kernel_rfl, rfl⟩) trivial ?_
        try simp only [Act.put, List.getElem_toArray, List.getElem_cons_zero, List.getElem_cons_succ, List.setIfInBounds_toArray, List.set_cons_zero, List.set_cons_succ]
        refine wpAnyH_take (i := 21) (v := ?v21) rfl (by kernel_rfl) (by kernel_rfl) (by kernel_rfl) (fun _ _ _ h => h) (Or.inl ⟨by kernel_rfl, fun _ _ => ?y21⟩) trivial ?_
        case y21 => (go_simp; try with_reducible rfl)
        try simp only [Act.put, List.getElem_toArray, List.getElem_cons_zero, List.getElem_cons_succ, List.setIfInBounds_toArray, List.set_cons_zero, List.set_cons_succ]
        refine wpAnyH_take (i := 22) (v := ?v22) rfl (by kernel_rfl) (by kernel_rfl) (by kernel_rfl) (fun _ _ _ h => h) (Or.inl ⟨by kernel_rfl, fun _ _ => ?y22⟩) trivial ?_
        case y22 => (go_simp; try with_reducible rfl)
        try simp only [Act.put, List.getElem_toArray, List.getElem_cons_zero, List.getElem_cons_succ, List.setIfInBounds_toArray, List.set_cons_zero, List.set_cons_succ]
        refine wpAnyH_take (i := 23) (v := ?v23) rfl (by kernel_rfl) (by kernel_rfl) (by kernel_rfl) (fun _ _ _ h => h) (Or.inl ⟨by kernel_rfl, fun _ _ => ?y23⟩) trivial ?_
        case y23 => (go_simp; try with_reducible rfl)
        try simp only [Act.put, List.getElem_toArray, List.getElem_cons_zero, List.getElem_cons_succ, List.setIfInBounds_toArray, List.set_cons_zero, List.set_cons_succ]
        refine wpAnyH_done (by kernel_rfl) ?_ _
        go_wp2
        go_ret
        exact ⟨rfl, hc6'.out⟩

end Go.Proofs.Ytbpfgmgbikagoaa
