/- What container/heap's Init, Push, Pop and Fix do with one type's heap (hpA), whatever it holds. -/
import Derived.Test.YtnijfkbnggdbnaaHpA
namespace Go.Proofs.Ytnijfkbnggdbnaa
open Go.RowKit

section
variable {α : Type} [Inhabited α] {p : Value} {R : World → List α → Prop} {lt : α → α → Bool} {S : Nat → Prop} {it : α → Value}

/-- what Push is to do -/
def HpAPushes {α : Type} [Inhabited α] (p : Value) (R : World → List α → Prop) (S : Nat → Prop) (it : α → Value) (x : α) : Prop := ∀ w l, R w l → l.length < 100000 →
  ∃ r, (method 183 50 p "Push").run Try.prog w = .ok (60, r) w ∧ Calls Try.prog 60 #[r, it x] w fun e w' => e = .returned (.tuple #[]) ∧ R w' (l ++ [x]) ∧ Chg S w w'
/-- what Pop is to do -/
def HpAPops {α : Type} [Inhabited α] (p : Value) (R : World → List α → Prop) (S : Nat → Prop) (it : α → Value) : Prop := ∀ w l x, R w (l ++ [x]) →
  ∃ r, (method 183 50 p "Pop").run Try.prog w = .ok (59, r) w ∧ Calls Try.prog 59 #[r] w fun e w' => e = .returned (it x) ∧ R w' l ∧ Chg S w w'

set_option maxHeartbeats 1000000 in
theorem hpA_push (o : TotalOrd (noLess lt)) (h : HpA p R lt S) (x : α) (hpu : HpAPushes p R S it x) (w : World) (l : List α) (hR : R w l) (hl : l.length < 100000) (hh : Heap (noLess lt) l l.length) :
    Calls Try.prog 36 #[.iface 50 p, it x] w fun e w' => e = .returned (.tuple #[]) ∧ ∃ l', R w' l' ∧ l'.Perm (x :: l) ∧ Heap (noLess lt) l' l'.length ∧ Chg S w w' := by
  obtain ⟨r, hm, hc⟩ := hpu w l hR hl
  obtain ⟨q, hq⟩ : ∃ q, it x = q := ⟨_, rfl⟩
  rw [hq] at hc ⊢
  have HC := Lib.hid hc; have HH := Lib.hid hh; have HL := Lib.hid hl; have H := Lib.hid h
  clear hc hh hl hpu hq hR h
  go_enter Try.func36, Try.ntmps36
  go_wp2_with fail
  refine (HC.out).mono ?_
  rintro e w2 ⟨rfl, hR2, hc2⟩
  obtain ⟨r2, hm2, hlen⟩ := H.out.len _ _ hR2
  have hn : (l ++ [x]).length = l.length + 1 := by simp
  rw [hn] at hlen
  obtain ⟨n, hnn⟩ : ∃ n, l.length = n := ⟨_, rfl⟩
  obtain ⟨n1, hn1⟩ : ∃ n1, n + 1 = n1 := ⟨_, rfl⟩
  rw [hnn, hn1] at hlen
  have e1 : (n1 : Int) - 1 = (n : Int) := by omega
  have e2 : wrap64 (n : Int) = (n : Int) := by have := HL.out; unfold wrap64; omega
  have HLE := Lib.hid hlen; have HNN := Lib.hid hnn; have HN1 := Lib.hid hn1; have HC2 := Lib.hid hc2
  clear hlen hnn hn1 hc2 hm hR2 hn
  go_wp2_with fail
  refine (HLE.out).mono ?_
  rintro e w3 ⟨rfl, hR3, hc3⟩
  have hu := UpInv.pushed HH.out x
  rw [HNN.out, HN1.out] at hu
  have hup := hpA_up o H.out w3 (l ++ [x]) n1 n hR3 (by simp; have := HNN.out; have := HN1.out; omega) hu
  have HUP := Lib.hid hup; have HC3 := Lib.hid (HC2.out.trans hc3 (fun _ _ h => h))
  clear hup hu hc3 hR3 hm2
  go_wp2_with fail
  refine (HUP.out).mono ?_
  rintro e w4 ⟨rfl, l', hR4, hp4, hh4, hc4⟩
  have hl4 := hp4.length_eq
  rw [List.length_append, List.length_singleton, HNN.out, HN1.out] at hl4
  have HF := Lib.hid (show R w4 l' ∧ l'.Perm (x :: l) ∧ Heap (noLess lt) l' l'.length ∧ Chg S w w4 from ⟨hR4, hp4.trans (List.perm_append_comm (l₁ := l) (l₂ := [x])), by rw [hl4]; exact hh4, HC3.out.trans hc4 (fun _ _ h => h)⟩)
  clear hR4 hp4 hh4 hc4 hl4
  go_wp2
  go_returns
  exact ⟨rfl, l', HF.out⟩

set_option maxHeartbeats 1000000 in
theorem hpA_pop (o : TotalOrd (noLess lt)) (h : HpA p R lt S) (hpo : HpAPops p R S it) (w : World) (l : List α) (hR : R w l) (hl : 0 < l.length) (hh : Heap (noLess lt) l l.length) :
    Calls Try.prog 37 #[.iface 50 p] w fun e w' => ∃ x l', e = .returned (it x) ∧ R w' l' ∧ l.Perm (x :: l') ∧ (∀ y ∈ l', noLess lt x y) ∧ Heap (noLess lt) l' l'.length ∧ Chg S w w' := by
  have hsm := h.small _ _ hR
  obtain ⟨r, hm, hlen⟩ := h.len _ _ hR
  obtain ⟨n, hn⟩ : ∃ n, l.length = n + 1 := ⟨l.length - 1, by omega⟩
  rw [hn] at hlen
  obtain ⟨n1, hn1⟩ : ∃ n1, n + 1 = n1 := ⟨_, rfl⟩
  rw [hn1] at hlen
  have e1 : (n1 : Int) - 1 = (n : Int) := by omega
  have e2 : wrap64 (n : Int) = (n : Int) := by unfold wrap64; omega
  have HLE := Lib.hid hlen; have HH := Lib.hid hh; have H := Lib.hid h; have HN := Lib.hid hn; have HN1 := Lib.hid hn1; have HPO := Lib.hid hpo
  clear hlen hh h hn hn1 hpo hl hsm hR
  go_enter Try.func37, Try.ntmps37
  go_wp2_with fail
  refine (HLE.out).mono ?_
  rintro e w2 ⟨rfl, hR2, hc2⟩
  obtain ⟨r2, hm2, hsw⟩ := H.out.swap _ _ hR2
  have hsw := hsw 0 n (by have := HN.out; omega) (by have := HN.out; omega)
  have HSW := Lib.hid hsw; have HC2 := Lib.hid hc2
  clear hsw hc2 hR2 hm
  go_wp2_with fail
  refine (HSW.out).mono ?_
  rintro e w3 ⟨rfl, hR3, hc3⟩
  have hh := HH.out
  rw [HN.out] at hh
  have hdn := hpA_down o H.out w3 (swp l 0 n) n 0 0 hR3 (by rw [swp_length, HN.out]; omega) (by omega) (DownInv.popped HN.out hh)
  have HDN := Lib.hid hdn; have HC3 := Lib.hid (HC2.out.trans hc3 (fun _ _ h => h))
  clear hdn hc3 hR3 hh hm2
  go_wp2_with fail
  refine (HDN.out).mono ?_
  rintro e w4 ⟨l2, b, rfl, hR4, hp4, ht4, hh4, -, hc4⟩
  have hl2 : l2.length = n + 1 := by rw [hp4.length_eq, swp_length, HN.out]
  have hx : l2.getD n default = l.getD 0 default := by
    rw [ht4 n (Nat.le_refl _), swp_getD _ _ _ _ (by have := HN.out; omega) (by have := HN.out; omega), if_pos rfl]
  have hap := last_apart l2 n hl2
  rw [hx] at hap
  have hpp : l.Perm (l.getD 0 default :: l2.take n) := by
    refine ((swp_perm l 0 n (by have := HN.out; omega) (by have := HN.out; omega)).symm.trans hp4.symm).trans ?_
    rw [hap, List.take_left' (by rw [List.length_take]; omega)]
    exact List.perm_append_comm (l₁ := l2.take n) (l₂ := [l.getD 0 default])
  have hle : ∀ y ∈ l2.take n, noLess lt (l.getD 0 default) y := fun y hy => HH.out.least_mem o (hpp.symm.subset (List.mem_cons_of_mem _ hy))
  have hhp := hh4.heap.take (by omega)
  rw [hap] at hR4
  obtain ⟨r3, hm3, hpop⟩ := HPO.out _ _ _ hR4
  obtain ⟨x, hxx⟩ : ∃ x, l.getD 0 default = x := ⟨_, rfl⟩
  rw [hxx] at hpop hpp hle
  obtain ⟨q, hq⟩ : ∃ q, it x = q := ⟨_, rfl⟩
  rw [hq] at hpop
  have HPOP := Lib.hid hpop; have HQ := Lib.hid hq
  have HF := Lib.hid (show l.Perm (x :: l2.take n) ∧ (∀ y ∈ l2.take n, noLess lt x y) ∧ Heap (noLess lt) (l2.take n) (l2.take n).length ∧ Chg S w w4 from ⟨hpp, hle, hhp, HC3.out.trans hc4 (fun _ _ h => h)⟩)
  clear hpop hq hpp hle hhp hap hx hl2 hR4 hp4 ht4 hh4 hc4 hxx
  go_wp2_with fail
  refine (HPOP.out).mono ?_
  rintro e w5 ⟨rfl, hR5, hc5⟩
  have HR5 := Lib.hid hR5; have HC5 := Lib.hid hc5
  clear hR5 hc5 hm3
  go_wp2
  go_returns
  obtain ⟨f1, f2, f3, f4⟩ := HF.out
  exact ⟨x, l2.take n, by rw [HQ.out]; rfl, HR5.out, f1, f2, f3, f4.trans HC5.out (fun _ _ h => h)⟩

end

end Go.Proofs.Ytnijfkbnggdbnaa
