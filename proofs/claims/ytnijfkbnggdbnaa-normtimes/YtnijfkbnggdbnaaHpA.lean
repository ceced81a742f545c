/- What container/heap's up, down, Init, Push, Pop and Fix do with one type's heap (hpA), whatever it holds. -/
import Derived.Test.YtnijfkbnggdbnaaBwBase
import Derived.Test.YtnijfkbnggdbnaaHpMath
import Derived.Handy
namespace Go.Proofs.Ytnijfkbnggdbnaa
open Go.RowKit

/-- The value p is a heap's receiver: R tells what the heap holds; val, an item as a value; lt, who is less; only blocks of S turn. -/
structure HpA {α : Type} [Inhabited α] (p : Value) (R : World → List α → Prop) (lt : α → α → Bool) (S : Nat → Prop) : Prop where
  len : ∀ w l, R w l → ∃ r, (method 183 50 p "Len").run Try.prog w = .ok (57, r) w ∧
    Calls Try.prog 57 #[r] w fun e w' => e = .returned (.int .i64 ((l.length : Nat) : Int)) ∧ R w' l ∧ Chg S w w'
  less : ∀ w l, R w l → ∃ r, (method 183 50 p "Less").run Try.prog w = .ok (58, r) w ∧ ∀ i j : Nat, i < l.length → j < l.length →
    Calls Try.prog 58 #[r, .int .i64 (i : Int), .int .i64 (j : Int)] w fun e w' => e = .returned (.bool (lt (l.getD i default) (l.getD j default))) ∧ R w' l ∧ Chg S w w'
  swap : ∀ w l, R w l → ∃ r, (method 183 50 p "Swap").run Try.prog w = .ok (61, r) w ∧ ∀ i j : Nat, i < l.length → j < l.length →
    Calls Try.prog 61 #[r, .int .i64 (i : Int), .int .i64 (j : Int)] w fun e w' => e = .returned (.tuple #[]) ∧ R w' (swp l i j) ∧ Chg S w w'
  small : ∀ w l, R w l → l.length < 1000000000

/-- no less: what a heap keeps -/
def noLess {α : Type} (lt : α → α → Bool) (a b : α) : Prop := lt b a = false

section
variable {α : Type} [Inhabited α] {p : Value} {R : World → List α → Prop} {lt : α → α → Bool} {S : Nat → Prop}

theorem noLess_of {α : Type} {lt : α → α → Bool} (o : TotalOrd (noLess lt)) {a b : α} (h : lt a b = true) : noLess lt a b := by
  rcases o.total b a with h1 | h1
  · unfold noLess at h1; rw [h] at h1; cases h1
  · exact h1

set_option maxHeartbeats 1000000 in
theorem hpA_up (o : TotalOrd (noLess lt)) (h : HpA p R lt S) (w : World) (l : List α) (n j : Nat) (hR : R w l) (hn : n ≤ l.length) (hu : UpInv (noLess lt) l n j) :
    Calls Try.prog 38 #[.iface 50 p, .int .i64 (j : Int)] w fun e w' => e = .returned (.tuple #[]) ∧ ∃ l', R w' l' ∧ l'.Perm l ∧ Heap (noLess lt) l' n ∧ Chg S w w' := by
  have H := Lib.hid h; have HU := Lib.hid hu; have HR := Lib.hid hR; have HN := Lib.hid hn
  clear h hu hR hn
  go_enter Try.func38, Try.ntmps38
  go_wp2
  go_loopw [1] (fun o1 wr => ∃ (j : Nat) (l' : List α), o1 = .int .i64 (j : Int) ∧ R wr l' ∧ l'.Perm l ∧ UpInv (noLess lt) l' n j ∧ Chg S w wr) (fun o1 _ => (intOf o1).toNat)
  case atStart => exact ⟨j, l, rfl, HR.out, List.Perm.refl _, HU.out, Chg.refl _ _⟩
  case round =>
    obtain ⟨j, l', rfl, hR, hp, hu, hc⟩ := hrel
    have hsm := H.out.small _ _ hR
    have hln := hp.length_eq
    have hn := HN.out
    have hjn := hu.lt
    by_cases h0 : j = 0
    · subst h0
      have HH := Lib.hid (hu.done (.inl rfl)); have HR := Lib.hid hR; have HP := Lib.hid hp; have HC := Lib.hid hc
      clear hu hR hp hc hln hn hsm hjn
      go_wp2
      go_returns
      exact ⟨rfl, l', HR.out, HP.out, HH.out, HC.out⟩
    · obtain ⟨i, hi⟩ : ∃ i, (j - 1) / 2 = i := ⟨_, rfl⟩
      have e1 : ((j : Int) - 1).tdiv 2 = (i : Int) := by rw [Int.tdiv_eq_ediv_of_nonneg (by omega)]; omega
      have e2 : wrap64 ((j : Int) - 1) = (j : Int) - 1 := by unfold wrap64; omega
      have e3 : ((i : Int) == (j : Int)) = false := by simp; omega
      obtain ⟨r, hm, hless⟩ := H.out.less _ _ hR
      have hless := hless j i (by omega) (by omega)
      have hb : (j : Int) ≤ 1000000000 ∧ (i : Int) ≤ 1000000000 := by omega
      have HI := Lib.hid hi; have HP := Lib.hid hp; have HC := Lib.hid hc; have HU2 := Lib.hid hu; have HL := Lib.hid hless
      have HLN := Lib.hid hln; have HN0 := Lib.hid h0; have HJN := Lib.hid hjn
      clear hi hR hp hc hu hless hln hn hsm hjn h0
      go_wp2_with fail
      refine (HL.out).mono ?_
      rintro e w2 ⟨rfl, hR2, hc2⟩
      cases hlt : lt (l'.getD j default) (l'.getD i default) with
      | false =>
        have HH := Lib.hid (HU2.out.done (.inr (by rw [HI.out]; exact hlt))); have HR2 := Lib.hid hR2; have HC2 := Lib.hid (HC.out.trans hc2 (fun _ _ h => h))
        clear hR2 hc2 hlt hm
        go_wp2
        go_returns
        exact ⟨rfl, l', HR2.out, HP.out, HH.out, HC2.out⟩
      | true =>
        have hst : UpInv (noLess lt) (swp l' i j) n i := by
          have := HU2.out.step o (by have := HLN.out; have := HN.out; omega) (by have := HN0.out; omega) (by rw [HI.out]; unfold noLess; rw [hlt]; simp)
          rw [HI.out] at this
          exact this
        have hij : i < j := by have := HI.out; have := HN0.out; omega
        obtain ⟨r2, hm2, hsw⟩ := H.out.swap _ _ hR2
        have hln := HLN.out
        have hnn := HN.out
        have hjn := HJN.out
        have hsw := hsw i j (by omega) (by omega)
        have hpm := swp_perm l' i j (by omega) (by omega)
        have HSW := Lib.hid hsw; have HST := Lib.hid hst; have HPM := Lib.hid (hpm.trans HP.out); have HC2 := Lib.hid (HC.out.trans hc2 (fun _ _ h => h)); have HIJ := Lib.hid hij
        clear hsw hst hpm hc2 hR2 hlt hm hln hnn hjn hij
        go_wp2_with fail
        refine (HSW.out).mono ?_
        rintro e w3 ⟨rfl, hR3, hc3⟩
        have HR3 := Lib.hid hR3; have HC3 := Lib.hid (HC2.out.trans hc3 (fun _ _ h => h))
        clear hR3 hc3 hm2
        go_wp2
        go_roundw
        case rel => exact ⟨i, swp l' i j, rfl, HR3.out, HPM.out, HST.out, HC3.out⟩
        case measure => simp [intOf]; exact HIJ.out

set_option maxHeartbeats 2000000 in
theorem hpA_down (o : TotalOrd (noLess lt)) (h : HpA p R lt S) (w : World) (l : List α) (n lo i0 : Nat) (hR : R w l) (hn : n ≤ l.length) (hi0 : i0 < 1000000000) (hd : DownInv (noLess lt) l n lo i0) :
    Calls Try.prog 39 #[.iface 50 p, .int .i64 (i0 : Int), .int .i64 (n : Int)] w fun e w' => ∃ l' b, e = .returned (.bool b) ∧ R w' l' ∧ l'.Perm l ∧ (∀ k, n ≤ k → l'.getD k default = l.getD k default) ∧ HeapFrom (noLess lt) l' n lo ∧ (b = false → l' = l) ∧ Chg S w w' := by
  have hsm := h.small _ _ hR
  have hnb : (n : Int) ≤ 1000000000 := by omega
  have H := Lib.hid h; have HD := Lib.hid hd; have HR := Lib.hid hR; have HN := Lib.hid hn; have HI0 := Lib.hid hi0
  clear h hd hR hn hsm hi0
  go_enter Try.func39, Try.ntmps39
  go_wp2
  go_loopw [7] (fun o7 wr => ∃ (i : Nat) (l' : List α), o7 = .int .i64 (i : Int) ∧ R wr l' ∧ l'.Perm l ∧ (∀ k, n ≤ k → l'.getD k default = l.getD k default) ∧ DownInv (noLess lt) l' n lo i ∧ i0 ≤ i ∧ (i ≤ i0 → l' = l) ∧ i < 1000000000 ∧ Chg S w wr) (fun o7 _ => n - (intOf o7).toNat)
  case atStart => exact ⟨i0, l, rfl, HR.out, List.Perm.refl _, fun _ _ => rfl, HD.out, Nat.le_refl _, fun _ => rfl, HI0.out, Chg.refl _ _⟩
  case round =>
    clear HD HR
    obtain ⟨i, l', rfl, hR, hp, ht, hd, hge, hs0, hib, hc⟩ := hrel
    have hln := hp.length_eq
    have hib2 : (i : Int) < 1000000000 := by omega
    have e1 : wrap64 (2 * (i : Int)) = 2 * (i : Int) := by unfold wrap64; omega
    obtain ⟨j1, hj1⟩ : ∃ j1, 2 * i + 1 = j1 := ⟨_, rfl⟩
    have e2 : 2 * (i : Int) + 1 = (j1 : Int) := by omega
    have e3 : wrap64 (j1 : Int) = (j1 : Int) := by unfold wrap64; omega
    have HRQ := Lib.hid hR; have HP := Lib.hid hp; have HT := Lib.hid ht; have HD := Lib.hid hd; have HGE := Lib.hid hge; have HS0 := Lib.hid hs0; have HCQ := Lib.hid hc; have HLN := Lib.hid hln; have HJ1 := Lib.hid hj1
    clear hR hp ht hd hge hs0 hc hln hib
    by_cases hend : n ≤ j1
    · have d1 : decide ((n : Int) ≤ (j1 : Int)) = true := by simp; omega
      have HH := Lib.hid (HD.out.done (fun k h0 hk hp => by have := HJ1.out; omega))
      clear hj1
      go_wp2
      go_returns
      exact ⟨l', _, rfl, HRQ.out, HP.out, HT.out, HH.out, fun hb => HS0.out (by simpa using hb), HCQ.out⟩
    · have d1 : decide ((n : Int) ≤ (j1 : Int)) = false := by simp; omega
      have d2 : decide ((j1 : Int) < 0) = false := by simp
      obtain ⟨j2, hj2⟩ : ∃ j2, j1 + 1 = j2 := ⟨_, rfl⟩
      have e4 : (j1 : Int) + 1 = (j2 : Int) := by omega
      have e5 : wrap64 (j2 : Int) = (j2 : Int) := by unfold wrap64; omega
      have HJ2 := Lib.hid hj2; have HEND := Lib.hid hend
      by_cases h2 : j2 < n
      · have d3 : decide ((j2 : Int) < (n : Int)) = true := by simp; omega
        obtain ⟨ra, hma, hla⟩ := H.out.less _ _ HRQ.out
        have hla := hla j2 j1 (by have := HLN.out; have := HN.out; omega) (by have := HLN.out; have := HN.out; omega)
        have HLA := Lib.hid hla; have HL2 := Lib.hid h2
        clear hla hj1 hj2
        go_wp2_with fail
        refine (HLA.out).mono ?_
        rintro e w4 ⟨rfl, hR4, hc4⟩
        have HRQ0 := HRQ; have HCQ0 := HCQ
        clear HRQ HCQ
        have HRQ := Lib.hid hR4; have HCQ := Lib.hid (HCQ0.out.trans hc4 (fun _ _ h => h))
        clear hR4 hc4 HRQ0 HCQ0 hma
        cases hlt : lt (l'.getD j2 default) (l'.getD j1 default) with
        | true =>
          have HJ := Lib.hid (show 0 < j2 ∧ j2 < n ∧ (j2 - 1) / 2 = i by have := HJ1.out; have := HJ2.out; have := HL2.out; omega)
          have HMIN := Lib.hid (show ∀ k, 0 < k → k < n → (k - 1) / 2 = i → noLess lt (l'.getD j2 default) (l'.getD k default) from fun k h0 hk hp => by
            have hk2 : k = j1 ∨ k = j2 := by have := HJ1.out; have := HJ2.out; omega
            rcases hk2 with rfl | rfl
            · exact noLess_of o hlt
            · exact o.refl _)
          clear hlt
          obtain ⟨rb, hmb, hlb⟩ := H.out.less _ _ HRQ.out
          have hlb := hlb j2 i (by have := HJ.out; have := HLN.out; have := HN.out; omega) (by have := HJ.out; have := HLN.out; have := HN.out; omega)
          have HLB := Lib.hid hlb
          clear hlb
          go_wp2_with fail
          refine (HLB.out).mono ?_
          rintro e w5 ⟨rfl, hR5, hc5⟩
          cases hlt : lt (l'.getD j2 default) (l'.getD i default) with
          | false =>
            have HH := Lib.hid (HD.out.done (fun k h0 hk hp => o.trans hlt (HMIN.out k h0 hk hp))); have HR5 := Lib.hid hR5; have HC5 := Lib.hid (HCQ.out.trans hc5 (fun _ _ h => h))
            clear hR5 hc5 hlt hmb
            go_wp2
            go_returns
            exact ⟨l', _, rfl, HR5.out, HP.out, HT.out, HH.out, fun hb => HS0.out (by simpa using hb), HC5.out⟩
          | true =>
            have hst := HD.out.step o (by have := HLN.out; have := HN.out; omega) (by have := HJ.out; omega) (HJ.out).2.1 (HJ.out).2.2 HMIN.out (noLess_of o hlt)
            obtain ⟨r2, hm2, hsw⟩ := H.out.swap _ _ hR5
            have hsw := hsw i j2 (by have := HJ.out; have := HLN.out; have := HN.out; omega) (by have := HJ.out; have := HLN.out; have := HN.out; omega)
            have hpm := (swp_perm l' i j2 (by have := HJ.out; have := HLN.out; have := HN.out; omega) (by have := HJ.out; have := HLN.out; have := HN.out; omega)).trans HP.out
            have htl : ∀ k, n ≤ k → (swp l' i j2).getD k default = l.getD k default := fun k hk => by
              rw [swp_getD _ _ _ _ (by have := HJ.out; have := HLN.out; have := HN.out; omega) (by have := HJ.out; have := HLN.out; have := HN.out; omega), if_neg (by have := HJ.out; omega), if_neg (by have := HJ.out; omega)]
              exact HT.out k hk
            have HSW := Lib.hid hsw; have HST := Lib.hid hst; have HPM := Lib.hid hpm; have HTL := Lib.hid htl; have HC5 := Lib.hid (HCQ.out.trans hc5 (fun _ _ h => h))
            clear hsw hst hpm htl hc5 hR5 hlt hmb
            go_wp2_with fail
            refine (HSW.out).mono ?_
            rintro e w6 ⟨rfl, hR6, hc6⟩
            have HR6 := Lib.hid hR6; have HC6 := Lib.hid (HC5.out.trans hc6 (fun _ _ h => h))
            clear hR6 hc6 hm2
            go_wp2
            go_roundw
            case rel => exact ⟨j2, swp l' i j2, rfl, HR6.out, HPM.out, HTL.out, HST.out, by have := HJ.out; have := HGE.out; omega, fun hb => by have := HJ.out; have := HGE.out; omega, by have := HJ.out; omega, HC6.out⟩
            case measure => simp [intOf]; have := HJ.out; omega
        | false =>
          have HJ := Lib.hid (show 0 < j1 ∧ j1 < n ∧ (j1 - 1) / 2 = i by have := HJ1.out; have := HJ2.out; have := HL2.out; omega)
          have HMIN := Lib.hid (show ∀ k, 0 < k → k < n → (k - 1) / 2 = i → noLess lt (l'.getD j1 default) (l'.getD k default) from fun k h0 hk hp => by
            have hk2 : k = j1 ∨ k = j2 := by have := HJ1.out; have := HJ2.out; omega
            rcases hk2 with rfl | rfl
            · exact o.refl _
            · exact hlt)
          clear hlt
          obtain ⟨rb, hmb, hlb⟩ := H.out.less _ _ HRQ.out
          have hlb := hlb j1 i (by have := HJ.out; have := HLN.out; have := HN.out; omega) (by have := HJ.out; have := HLN.out; have := HN.out; omega)
          have HLB := Lib.hid hlb
          clear hlb
          go_wp2_with fail
          refine (HLB.out).mono ?_
          rintro e w5 ⟨rfl, hR5, hc5⟩
          cases hlt : lt (l'.getD j1 default) (l'.getD i default) with
          | false =>
            have HH := Lib.hid (HD.out.done (fun k h0 hk hp => o.trans hlt (HMIN.out k h0 hk hp))); have HR5 := Lib.hid hR5; have HC5 := Lib.hid (HCQ.out.trans hc5 (fun _ _ h => h))
            clear hR5 hc5 hlt hmb
            go_wp2
            go_returns
            exact ⟨l', _, rfl, HR5.out, HP.out, HT.out, HH.out, fun hb => HS0.out (by simpa using hb), HC5.out⟩
          | true =>
            have hst := HD.out.step o (by have := HLN.out; have := HN.out; omega) (by have := HJ.out; omega) (HJ.out).2.1 (HJ.out).2.2 HMIN.out (noLess_of o hlt)
            obtain ⟨r2, hm2, hsw⟩ := H.out.swap _ _ hR5
            have hsw := hsw i j1 (by have := HJ.out; have := HLN.out; have := HN.out; omega) (by have := HJ.out; have := HLN.out; have := HN.out; omega)
            have hpm := (swp_perm l' i j1 (by have := HJ.out; have := HLN.out; have := HN.out; omega) (by have := HJ.out; have := HLN.out; have := HN.out; omega)).trans HP.out
            have htl : ∀ k, n ≤ k → (swp l' i j1).getD k default = l.getD k default := fun k hk => by
              rw [swp_getD _ _ _ _ (by have := HJ.out; have := HLN.out; have := HN.out; omega) (by have := HJ.out; have := HLN.out; have := HN.out; omega), if_neg (by have := HJ.out; omega), if_neg (by have := HJ.out; omega)]
              exact HT.out k hk
            have HSW := Lib.hid hsw; have HST := Lib.hid hst; have HPM := Lib.hid hpm; have HTL := Lib.hid htl; have HC5 := Lib.hid (HCQ.out.trans hc5 (fun _ _ h => h))
            clear hsw hst hpm htl hc5 hR5 hlt hmb
            go_wp2_with fail
            refine (HSW.out).mono ?_
            rintro e w6 ⟨rfl, hR6, hc6⟩
            have HR6 := Lib.hid hR6; have HC6 := Lib.hid (HC5.out.trans hc6 (fun _ _ h => h))
            clear hR6 hc6 hm2
            go_wp2
            go_roundw
            case rel => exact ⟨j1, swp l' i j1, rfl, HR6.out, HPM.out, HTL.out, HST.out, by have := HJ.out; have := HGE.out; omega, fun hb => by have := HJ.out; have := HGE.out; omega, by have := HJ.out; omega, HC6.out⟩
            case measure => simp [intOf]; have := HJ.out; omega
      · have d3 : decide ((j2 : Int) < (n : Int)) = false := by simp; omega
        have HL2 := Lib.hid h2
        have HJ := Lib.hid (show 0 < j1 ∧ j1 < n ∧ (j1 - 1) / 2 = i by have := HJ1.out; have := HEND.out; omega)
        have HMIN := Lib.hid (show ∀ k, 0 < k → k < n → (k - 1) / 2 = i → noLess lt (l'.getD j1 default) (l'.getD k default) from fun k h0 hk hp => by
          have hk2 : k = j1 := by have := HJ1.out; have := HJ2.out; have := HL2.out; omega
          rw [hk2]; exact o.refl _)
        clear hj1 hj2
        obtain ⟨rb, hmb, hlb⟩ := H.out.less _ _ HRQ.out
        have hlb := hlb j1 i (by have := HJ.out; have := HLN.out; have := HN.out; omega) (by have := HJ.out; have := HLN.out; have := HN.out; omega)
        have HLB := Lib.hid hlb
        clear hlb
        go_wp2_with fail
        refine (HLB.out).mono ?_
        rintro e w5 ⟨rfl, hR5, hc5⟩
        cases hlt : lt (l'.getD j1 default) (l'.getD i default) with
        | false =>
          have HH := Lib.hid (HD.out.done (fun k h0 hk hp => o.trans hlt (HMIN.out k h0 hk hp))); have HR5 := Lib.hid hR5; have HC5 := Lib.hid (HCQ.out.trans hc5 (fun _ _ h => h))
          clear hR5 hc5 hlt hmb
          go_wp2
          go_returns
          exact ⟨l', _, rfl, HR5.out, HP.out, HT.out, HH.out, fun hb => HS0.out (by simpa using hb), HC5.out⟩
        | true =>
          have hst := HD.out.step o (by have := HLN.out; have := HN.out; omega) (by have := HJ.out; omega) (HJ.out).2.1 (HJ.out).2.2 HMIN.out (noLess_of o hlt)
          obtain ⟨r2, hm2, hsw⟩ := H.out.swap _ _ hR5
          have hsw := hsw i j1 (by have := HJ.out; have := HLN.out; have := HN.out; omega) (by have := HJ.out; have := HLN.out; have := HN.out; omega)
          have hpm := (swp_perm l' i j1 (by have := HJ.out; have := HLN.out; have := HN.out; omega) (by have := HJ.out; have := HLN.out; have := HN.out; omega)).trans HP.out
          have htl : ∀ k, n ≤ k → (swp l' i j1).getD k default = l.getD k default := fun k hk => by
            rw [swp_getD _ _ _ _ (by have := HJ.out; have := HLN.out; have := HN.out; omega) (by have := HJ.out; have := HLN.out; have := HN.out; omega), if_neg (by have := HJ.out; omega), if_neg (by have := HJ.out; omega)]
            exact HT.out k hk
          have HSW := Lib.hid hsw; have HST := Lib.hid hst; have HPM := Lib.hid hpm; have HTL := Lib.hid htl; have HC5 := Lib.hid (HCQ.out.trans hc5 (fun _ _ h => h))
          clear hsw hst hpm htl hc5 hR5 hlt hmb
          go_wp2_with fail
          refine (HSW.out).mono ?_
          rintro e w6 ⟨rfl, hR6, hc6⟩
          have HR6 := Lib.hid hR6; have HC6 := Lib.hid (HC5.out.trans hc6 (fun _ _ h => h))
          clear hR6 hc6 hm2
          go_wp2
          go_roundw
          case rel => exact ⟨j1, swp l' i j1, rfl, HR6.out, HPM.out, HTL.out, HST.out, by have := HJ.out; have := HGE.out; omega, fun hb => by have := HJ.out; have := HGE.out; omega, by have := HJ.out; omega, HC6.out⟩
          case measure => simp [intOf]; have := HJ.out; omega

end

end Go.Proofs.Ytnijfkbnggdbnaa
