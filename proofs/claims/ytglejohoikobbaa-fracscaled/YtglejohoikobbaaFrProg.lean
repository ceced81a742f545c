/- What frac's Right, Cmp, Next and Scaled tell: the program's own text. -/
import Derived.Test.YtglejohoikobbaaFrRef
import Derived.BigQuiet
namespace Go.Proofs.Ytglejohoikobbaa
open Go.RowKit

/-- the next key, if it is right -/
def nextK (k : Ky) : Ky := if Ky.right ⟨k.I + 1, k.Q, k.S⟩ then ⟨k.I + 1, k.Q, k.S⟩ else ⟨0, 0, 0⟩
/-- l times the fraction, down and up -/
def scK (k : Ky) (l : Int) : Int × Int := if k.right ∧ 1 ≤ l ∧ l ≤ 4096 then (loK k l, hiK k l) else (0, 0)

set_option maxHeartbeats 1000000 in
theorem kright_any (k : Ky) (w : World) (_hf : k.fits) : Calls Try.prog 9 #[kv k] w fun e w' => e = .returned (.bool (decide k.right)) ∧ Chg (fun _ => False) w w' := by
  obtain ⟨I, Q, S⟩ := k
  have hca := Chg.alloc (fun _ => False) w (.cells #[.int .i64 I, .int .i64 Q, .int .i64 S] 26)
  have HCA := Lib.hid hca
  clear hca
  unfold kv
  have hd : Ky.right ⟨I, Q, S⟩ ↔ (1 ≤ Q ∧ Q ≤ 4096 ∧ Q ≤ I ∧ I < 2 * Q ∧ 0 ≤ S ∧ S < 256) := by unfold Ky.right; simp only []; omega
  by_cases h1 : 1 ≤ Q
  · by_cases h2 : Q ≤ 4096
    · by_cases h3 : Q ≤ I
      · by_cases h4 : I < 2 * Q
        · by_cases h5 : 0 ≤ S
          · by_cases h6 : S < 256
            · rw [decide_eq_true (hd.2 ⟨h1, h2, h3, h4, h5, h6⟩)]
              clear hd
              go_enter Try.func9, Try.ntmps9
              go_wp2
              go_ret
              exact ⟨rfl, HCA.out⟩
            · rw [decide_eq_false (fun hh => h6 (hd.1 hh).2.2.2.2.2)]
              clear hd
              go_enter Try.func9, Try.ntmps9
              go_wp2
              go_ret
              exact ⟨rfl, HCA.out⟩
          · rw [decide_eq_false (fun hh => h5 (hd.1 hh).2.2.2.2.1)]
            clear hd
            go_enter Try.func9, Try.ntmps9
            go_wp2
            go_ret
            exact ⟨rfl, HCA.out⟩
        · rw [decide_eq_false (fun hh => h4 (hd.1 hh).2.2.2.1)]
          clear hd
          go_enter Try.func9, Try.ntmps9
          go_wp2
          go_ret
          exact ⟨rfl, HCA.out⟩
      · rw [decide_eq_false (fun hh => h3 (hd.1 hh).2.2.1)]
        clear hd
        go_enter Try.func9, Try.ntmps9
        go_wp2
        go_ret
        exact ⟨rfl, HCA.out⟩
    · rw [decide_eq_false (fun hh => h2 (hd.1 hh).2.1)]
      clear hd
      go_enter Try.func9, Try.ntmps9
      go_wp2
      go_ret
      exact ⟨rfl, HCA.out⟩
  · rw [decide_eq_false (fun hh => h1 (hd.1 hh).1)]
    clear hd
    go_enter Try.func9, Try.ntmps9
    go_wp2
    go_ret
    exact ⟨rfl, HCA.out⟩

/-- which of two numbers is less -/
def sgnI (x y : Int) : Int := if x < y then -1 else if y < x then 1 else 0

set_option maxHeartbeats 1000000 in
theorem ccmp_any (x y : Int) (w : World) : Calls Try.prog 19 #[.int .i64 x, .int .i64 y] w fun e w' => e = .returned (.int .i64 (sgnI x y)) ∧ w' = w := by
  unfold sgnI
  by_cases h1 : x < y
  · rw [if_pos h1]
    go_enter Try.func19, Try.ntmps19
    go_wp2
    go_ret
    exact ⟨rfl, rfl⟩
  · rw [if_neg h1]
    by_cases h2 : y < x
    · rw [if_pos h2]
      go_enter Try.func19, Try.ntmps19
      go_wp2
      go_ret
      exact ⟨rfl, rfl⟩
    · rw [if_neg h2]
      go_enter Try.func19, Try.ntmps19
      go_wp2
      go_ret
      exact ⟨rfl, rfl⟩

set_option maxHeartbeats 1000000 in
theorem kfrac_any (a b : Ky) (w : World) (ha : a.right) (hb : b.right) : Calls Try.prog 17 #[kv a, kv b] w fun e w' => e = .returned (.int .i64 (sgnI (a.I * b.Q) (b.I * a.Q))) ∧ Chg (fun _ => False) w w' := by
  obtain ⟨I, Q, S⟩ := a
  obtain ⟨J, R, T⟩ := b
  unfold Ky.right at ha hb
  simp only [] at ha hb ⊢
  have b1 := prod_bound (a := I) (b := R) (by omega) (by omega) (by omega) (by omega)
  have b2 := prod_bound (a := J) (b := Q) (by omega) (by omega) (by omega) (by omega)
  obtain ⟨X, hX⟩ : ∃ X, I * R = X := ⟨_, rfl⟩
  obtain ⟨Y, hY⟩ : ∃ Y, J * Q = Y := ⟨_, rfl⟩
  rw [hX] at b1 ⊢
  rw [hY] at b2 ⊢
  obtain ⟨b10, b11⟩ := b1
  obtain ⟨b20, b21⟩ := b2
  unfold kv
  have hc0 : Chg (fun _ => False) w ((w.alloc (.cells #[.int .i64 I, .int .i64 Q, .int .i64 S] 26)).alloc (.cells #[.int .i64 J, .int .i64 R, .int .i64 T] 26)) := (Chg.alloc (fun _ => False) w _).trans (Chg.alloc (fun _ => False) _ _) fun _ _ h => h
  have HC := Lib.hid hc0
  clear hc0 ha hb
  go_enter Try.func17, Try.ntmps17
  go_wp2_with fail
  refine (ccmp_any X Y _).mono ?_
  rintro e w1 ⟨rfl, rfl⟩
  go_wp2
  go_ret
  exact ⟨rfl, HC.out⟩

set_option maxHeartbeats 1000000 in
theorem ksym_any (a b : Ky) (w : World) : Calls Try.prog 18 #[kv a, kv b] w fun e w' => e = .returned (.int .i64 (sgnI a.S b.S)) ∧ Chg (fun _ => False) w w' := by
  obtain ⟨I, Q, S⟩ := a
  obtain ⟨J, R, T⟩ := b
  simp only []
  unfold kv
  have hc0 : Chg (fun _ => False) w ((w.alloc (.cells #[.int .i64 I, .int .i64 Q, .int .i64 S] 26)).alloc (.cells #[.int .i64 J, .int .i64 R, .int .i64 T] 26)) := (Chg.alloc (fun _ => False) w _).trans (Chg.alloc (fun _ => False) _ _) fun _ _ h => h
  have HC := Lib.hid hc0
  clear hc0
  go_enter Try.func18, Try.ntmps18
  go_wp2_with fail
  refine (ccmp_any S T _).mono ?_
  rintro e w1 ⟨rfl, rfl⟩
  go_wp2
  go_ret
  exact ⟨rfl, HC.out⟩

theorem cmpR_sgn (a b : Ky) : cmpR a b = if sgnI (a.I * b.Q) (b.I * a.Q) = 0 then sgnI a.S b.S else sgnI (a.I * b.Q) (b.I * a.Q) := by
  unfold cmpR sgnI
  repeat' split
  all_goals first | rfl | omega
theorem sgn_cases (x y : Int) : sgnI x y = -1 ∨ sgnI x y = 1 ∨ sgnI x y = 0 := by 
  unfold sgnI
  repeat' split
  all_goals simp

set_option maxHeartbeats 1000000 in
theorem kcmp_any (a b : Ky) (w : World) (ha : a.fits) (hb : b.fits) : Calls Try.prog 12 #[kv a, kv b] w fun e w' => e = .returned (.int .i64 (cmpK a b)) ∧ Chg (fun _ => False) w w' := by
  have HA := Lib.hid ha; have HB := Lib.hid hb
  obtain ⟨x, hx⟩ : ∃ x, cmpK a b = x := ⟨_, rfl⟩
  rw [hx]
  have HX := Lib.hid hx
  clear ha hb hx
  obtain ⟨I, Q, S⟩ := a
  obtain ⟨J, R, T⟩ := b
  unfold kv
  have hka : Kb ((w.alloc (.cells #[.int .i64 I, .int .i64 Q, .int .i64 S] 26)).alloc (.cells #[.int .i64 J, .int .i64 R, .int .i64 T] 26)) w.heap.size 26 ⟨I, Q, S⟩ := heap_alloc2_old w _ _
  have hkb : Kb ((w.alloc (.cells #[.int .i64 I, .int .i64 Q, .int .i64 S] 26)).alloc (.cells #[.int .i64 J, .int .i64 R, .int .i64 T] 26)) (w.heap.size + 1) 26 ⟨J, R, T⟩ := heap_alloc2_new w _ _
  have hc0 : Chg (fun _ => False) w ((w.alloc (.cells #[.int .i64 I, .int .i64 Q, .int .i64 S] 26)).alloc (.cells #[.int .i64 J, .int .i64 R, .int .i64 T] 26)) := (Chg.alloc (fun _ => False) w _).trans (Chg.alloc (fun _ => False) _ _) fun _ _ h => h
  have HKA := Lib.hid hka; have HKB := Lib.hid hkb; have HC := Lib.hid hc0
  clear hka hkb hc0
  go_enter Try.func12, Try.ntmps12
  go_wp2_with fail
  refine (kright_any ⟨I, Q, S⟩ _ HA.out).mono ?_
  rintro e w1 ⟨rfl, hc1⟩
  replace HKA := Lib.hid (HKA.out.kept hc1 (by simp)); replace HKB := Lib.hid (HKB.out.kept hc1 (by simp)); replace HC := Lib.hid (HC.out.trans hc1 fun _ _ h => h)
  clear hc1
  by_cases h1 : Ky.right ⟨I, Q, S⟩
  · rw [decide_eq_true h1]
    obtain ⟨c0, c1, c2⟩ := HKB.out.cells
    simp only [] at c0 c1 c2
    go_wp2_with fail
    refine (kright_any ⟨J, R, T⟩ _ HB.out).mono ?_
    rintro e w2 ⟨rfl, hc1⟩
    replace HKA := Lib.hid (HKA.out.kept hc1 (by simp)); replace HKB := Lib.hid (HKB.out.kept hc1 (by simp)); replace HC := Lib.hid (HC.out.trans hc1 fun _ _ h => h)
    clear hc1 c0 c1 c2
    by_cases h2 : Ky.right ⟨J, R, T⟩
    · rw [decide_eq_true h2]
      have hcmp := HX.out
      unfold cmpK at hcmp
      rw [if_pos ⟨h1, h2⟩, cmpR_sgn] at hcmp
      have R1 := Lib.hid h1; have R2 := Lib.hid h2
      have HCM := Lib.hid hcmp
      clear hcmp h1 h2 HX
      have i0 : ∀ w : World, (Instr.index 43 (.agg #[.func (.func 17) #[] #[], .func (.func 18) #[] #[]]) (.int .i64 0)).run Try.prog w = .ok (.func (.func 17) #[] #[]) w := fun _ => by kernel_rfl
      have i1 : ∀ w : World, (Instr.index 43 (.agg #[.func (.func 17) #[] #[], .func (.func 18) #[] #[]]) (.int .i64 1)).run Try.prog w = .ok (.func (.func 18) #[] #[]) w := fun _ => by kernel_rfl
      go_wp2_with fail
      refine wp_loop_rounds 3 ?_
      rw [rounds_succ]
      obtain ⟨a0, a1, a2⟩ := HKA.out.cells
      obtain ⟨c0, c1, c2⟩ := HKB.out.cells
      simp only [] at a0 a1 a2 c0 c1 c2
      go_wp2_with fail
      refine (kfrac_any ⟨I, Q, S⟩ ⟨J, R, T⟩ _ R1.out R2.out).mono ?_
      rintro e w3 ⟨rfl, hc1⟩
      replace HKA := Lib.hid (HKA.out.kept hc1 (by simp)); replace HKB := Lib.hid (HKB.out.kept hc1 (by simp)); replace HC := Lib.hid (HC.out.trans hc1 fun _ _ h => h)
      clear hc1 a0 a1 a2 c0 c1 c2
      simp only [] at HCM ⊢
      rcases sgn_cases (I * R) (J * Q) with e1 | e1 | e1
      · have hx1 : x = -1 := by rw [← HCM.out, if_neg (by rw [e1]; decide), e1]
        subst hx1
        rw [e1]
        clear e1 HCM
        go_wp2
        go_ret
        exact ⟨rfl, HC.out⟩
      · have hx1 : x = 1 := by rw [← HCM.out, if_neg (by rw [e1]; decide), e1]
        subst hx1
        rw [e1]
        clear e1 HCM
        go_wp2
        go_ret
        exact ⟨rfl, HC.out⟩
      · have hx1 : x = sgnI S T := by rw [← HCM.out, if_pos e1]
        rw [e1]
        have HX1 := Lib.hid hx1
        clear e1 HCM hx1
        go_wp2_with fail
        rw [rounds_succ]
        obtain ⟨a0, a1, a2⟩ := HKA.out.cells
        obtain ⟨c0, c1, c2⟩ := HKB.out.cells
        simp only [] at a0 a1 a2 c0 c1 c2
        go_wp2_with fail
        refine (ksym_any ⟨I, Q, S⟩ ⟨J, R, T⟩ _).mono ?_
        rintro e w4 ⟨rfl, hc1⟩
        replace HC := Lib.hid (HC.out.trans hc1 fun _ _ h => h)
        clear hc1 a0 a1 a2 c0 c1 c2
        simp only []
        rw [← HX1.out]
        by_cases e2 : x = 0
        · subst e2
          clear HX1
          go_wp2_with fail
          rw [rounds_succ]
          go_wp2
          go_ret
          exact ⟨rfl, HC.out⟩
        · clear HX1
          go_wp2
          go_ret
          exact ⟨rfl, HC.out⟩
    · rw [decide_eq_false h2]
      have hd : x = 0 := by rw [← HX.out]; unfold cmpK; rw [if_neg fun h => h2 h.2]
      subst hd
      clear h1 h2 HX
      go_wp2
      go_ret
      exact ⟨rfl, HC.out⟩
  · rw [decide_eq_false h1]
    have hd : x = 0 := by rw [← HX.out]; unfold cmpK; rw [if_neg fun h => h1 h.1]
    subst hd
    clear h1 HX
    go_wp2
    go_ret
    exact ⟨rfl, HC.out⟩

/-- a key is laid into a block -/
def K3 (w : World) (g : Nat) (k : Ky) : World := ((w.setCell ⟨g, 0, none⟩ (.int .i64 k.I)).setCell ⟨g, 1, none⟩ (.int .i64 k.Q)).setCell ⟨g, 2, none⟩ (.int .i64 k.S)
theorem K3_chg (w : World) (g : Nat) (k : Ky) : Chg (fun q => q = g) w (K3 w g k) :=
  ((Chg.setCell w ⟨g, 0, none⟩ _).trans (Chg.setCell _ ⟨g, 1, none⟩ _) fun _ _ h => h).trans (Chg.setCell _ ⟨g, 2, none⟩ _) fun _ _ h => h
theorem K3_cells {w : World} {g : Nat} {t : TypeId} {k0 : Ky} (h : Kb w g t k0) (I Q S : Int) :
    (w.setCell ⟨g, 0, none⟩ (.int .i64 I)).cell? ⟨g, 0, none⟩ = some (.int .i64 I) ∧ ((w.setCell ⟨g, 0, none⟩ (.int .i64 I)).setCell ⟨g, 1, none⟩ (.int .i64 Q)).cell? ⟨g, 1, none⟩ = some (.int .i64 Q) ∧ (K3 w g ⟨I, Q, S⟩).cell? ⟨g, 2, none⟩ = some (.int .i64 S) ∧ Kb (K3 w g ⟨I, Q, S⟩) g t ⟨I, Q, S⟩ := by
  have h1 := heap_setCell_same w g 0 _ _ (.int .i64 I) h
  have h2 := heap_setCell_same _ g 1 _ _ (.int .i64 Q) h1
  have h3 := heap_setCell_same _ g 2 _ _ (.int .i64 S) h2
  exact ⟨by rw [cell_of_row _ _ 0 _ _ _ h1]; rfl, by rw [cell_of_row _ _ 1 _ _ _ h2]; rfl, by unfold K3; rw [cell_of_row _ _ 2 _ _ _ h3]; rfl, h3⟩
theorem zeroKey (W : World) : (zeroValue 26).run Try.prog W = .ok (.agg #[.int .i64 0, .int .i64 0, .int .i64 0]) W := by kernel_rfl

set_option maxHeartbeats 1000000 in
theorem knext_any (k : Ky) (w : World) (hk : k.right) : Calls Try.prog 15 #[kv k] w fun e w' => e = .returned (.tuple #[kv (nextK k), .bool (decide (Ky.right ⟨k.I + 1, k.Q, k.S⟩))]) ∧ Chg (fun _ => False) w w' := by
  obtain ⟨I, Q, S⟩ := k
  have HK := Lib.hid hk
  have hI : 0 ≤ I ∧ I ≤ 8191 := by unfold Ky.right at hk; simp only [] at hk; omega
  have hF : Ky.fits ⟨I + 1, Q, S⟩ := by unfold Ky.right at hk; unfold Ky.fits; simp only [] at hk ⊢; omega
  have HF := Lib.hid hF
  obtain ⟨hI0, hI1⟩ := hI
  clear hk hF
  simp only []
  obtain ⟨n, hn⟩ : ∃ n, nextK ⟨I, Q, S⟩ = n := ⟨_, rfl⟩
  have HN := Lib.hid hn
  clear hn
  obtain ⟨d, hd⟩ : ∃ d, decide (Ky.right ⟨I + 1, Q, S⟩) = d := ⟨_, rfl⟩
  have HD := Lib.hid hd
  rw [HN.out, hd]
  clear hd
  obtain ⟨W, hW⟩ : ∃ W, ((w.alloc (.cells #[.int .i64 I, .int .i64 Q, .int .i64 S] 26)).alloc (.cells #[.int .i64 0, .int .i64 0, .int .i64 0] 26)).alloc (.cells #[.int .i64 (I + 1), .int .i64 Q, .int .i64 S] 26) = W := ⟨_, rfl⟩
  have hc0 : Chg (fun _ => False) w W := by rw [← hW]; exact ((Chg.alloc (fun _ => False) w _).trans (Chg.alloc (fun _ => False) _ _) fun _ _ h => h).trans (Chg.alloc (fun _ => False) _ _) fun _ _ h => h
  have hr : Kb W (w.heap.size + 1) 26 ⟨0, 0, 0⟩ := by rw [← hW]; exact Kb.kept (S := fun _ => False) (show Kb ((w.alloc _).alloc _) _ _ ⟨0, 0, 0⟩ from heap_alloc2_new w _ _) (Chg.alloc _ _ _) (by simp)
  have hn : Kb W (w.heap.size + 1 + 1) 26 ⟨I + 1, Q, S⟩ := by rw [← hW]; exact (by simpa using Kb.of_alloc ((w.alloc (.cells #[.int .i64 I, .int .i64 Q, .int .i64 S] 26)).alloc (.cells #[.int .i64 0, .int .i64 0, .int .i64 0] 26)) 26 ⟨I + 1, Q, S⟩)
  have HC := Lib.hid hc0; have HR := Lib.hid hr; have HNX := Lib.hid hn; have HW := Lib.hid hW
  clear hc0 hr hn hW
  have hz := zeroKey
  unfold kv
  simp only []
  go_enter Try.func15, Try.ntmps15
  go_wp2_with fail
  rw [HW.out]
  refine (kright_any ⟨I, Q, S⟩ _ HK.out.fits).mono ?_
  rintro e w1 ⟨rfl, hc1⟩
  replace HR := Lib.hid (HR.out.kept hc1 (by simp)); replace HNX := Lib.hid (HNX.out.kept hc1 (by simp)); replace HC := Lib.hid (HC.out.trans hc1 fun _ _ h => h)
  rw [decide_eq_true HK.out]
  clear hc1 HW
  obtain ⟨c0, c1, c2⟩ := HNX.out.cells
  simp only [] at c0 c1 c2
  go_wp2_with fail
  refine (kright_any ⟨I + 1, Q, S⟩ _ HF.out).mono ?_
  rintro e w2 ⟨rfl, hc1⟩
  replace HR := Lib.hid (HR.out.kept hc1 (by simp)); replace HNX := Lib.hid (HNX.out.kept hc1 (by simp)); replace HC := Lib.hid (HC.out.trans hc1 fun _ _ h => h)
  rw [HD.out]
  clear hc1 c0 c1 c2
  obtain ⟨gr, hgr⟩ : ∃ g, w.heap.size + 1 = g := ⟨_, rfl⟩
  obtain ⟨gn, hgn⟩ : ∃ g, w.heap.size + 1 + 1 = g := ⟨_, rfl⟩
  rw [hgr] at HR
  rw [hgn] at HNX
  have HG := Lib.hid hgr
  rw [hgr] at hgn ⊢
  rw [hgn]
  clear hgr hgn W
  cases d
  · have hne : n = ⟨0, 0, 0⟩ := by rw [← HN.out]; unfold nextK; rw [if_neg (of_decide_eq_false HD.out)]
    subst hne
    obtain ⟨y0, y1, y2, hkb⟩ := K3_cells HR.out 0 0 0
    have hcf := HC.out.trans (K3_chg w2 gr ⟨0, 0, 0⟩) fun q hq he => by have := HG.out; omega
    obtain ⟨z0, z1, z2⟩ := HR.out.cells
    obtain ⟨u0, u1, u2⟩ := hkb.cells
    have hl := hkb.loadF
    unfold kv at hl
    unfold K3 at y2 u0 u1 u2 hcf hl
    simp only [] at z0 z1 z2 u0 u1 u2 hcf hl
    have HCF := Lib.hid hcf
    clear hcf hkb
    have f0 := frozen_of_row w2 gr 0 _ _ HR.out
    have f1 := frozen_of_row w2 gr 1 _ _ HR.out
    have f2 := frozen_of_row w2 gr 2 _ _ HR.out
    go_wp2
    refine bodyPost_ret (v := .tuple #[.agg #[.int .i64 0, .int .i64 0, .int .i64 0], .bool false]) (by simp [results, Try.results15, go_sem, y0, y1, y2]; try rfl) rfl ?_
    exact ⟨rfl, HCF.out⟩
  · have hne : n = ⟨I + 1, Q, S⟩ := by rw [← HN.out]; unfold nextK; rw [if_pos (of_decide_eq_true HD.out)]
    subst hne
    obtain ⟨y0, y1, y2, hkb⟩ := K3_cells HR.out (I + 1) Q S
    have hcf := HC.out.trans (K3_chg w2 gr ⟨I + 1, Q, S⟩) fun q hq he => by have := HG.out; omega
    obtain ⟨z0, z1, z2⟩ := HR.out.cells
    obtain ⟨u0, u1, u2⟩ := hkb.cells
    obtain ⟨c0, c1, c2⟩ := HNX.out.cells
    have hl := hkb.loadF
    unfold kv at hl
    unfold K3 at y2 u0 u1 u2 hcf hl
    simp only [] at z0 z1 z2 u0 u1 u2 c0 c1 c2 hcf hl
    have HCF := Lib.hid hcf
    clear hcf hkb
    have f0 := frozen_of_row w2 gr 0 _ _ HR.out
    have f1 := frozen_of_row w2 gr 1 _ _ HR.out
    have f2 := frozen_of_row w2 gr 2 _ _ HR.out
    go_wp2
    refine bodyPost_ret (v := .tuple #[.agg #[.int .i64 (I + 1), .int .i64 Q, .int .i64 S], .bool true]) (by simp [results, Try.results15, go_sem, y0, y1, y2]; try rfl) rfl ?_
    exact ⟨rfl, HCF.out⟩

set_option maxHeartbeats 1000000 in
theorem kscaled_any (k : Ky) (l : Int) (w : World) (hf : k.fits) (hl : -9223372036854775808 ≤ l ∧ l ≤ 9223372036854775807) : Calls Try.prog 16 #[kv k, .int .i64 l] w fun e w' => e = .returned (.tuple #[.int .i64 (scK k l).1, .int .i64 (scK k l).2]) ∧ Chg (fun _ => False) w w' := by
  obtain ⟨I, Q, S⟩ := k
  have HF := Lib.hid hf
  clear hf
  have hka : Kb (w.alloc (.cells #[.int .i64 I, .int .i64 Q, .int .i64 S] 26)) w.heap.size 26 ⟨I, Q, S⟩ := heap_alloc_new w _
  have hc0 := Chg.alloc (fun _ => False) w (.cells #[.int .i64 I, .int .i64 Q, .int .i64 S] 26)
  have HKA := Lib.hid hka; have HC := Lib.hid hc0
  clear hka hc0
  obtain ⟨l0, l1⟩ := hl
  unfold kv
  simp only []
  obtain ⟨r, hr⟩ : ∃ r, scK ⟨I, Q, S⟩ l = r := ⟨_, rfl⟩
  rw [hr]
  have HR := Lib.hid hr
  clear hr
  go_enter Try.func16, Try.ntmps16
  go_wp2_with fail
  refine (kright_any ⟨I, Q, S⟩ _ HF.out).mono ?_
  rintro e w1 ⟨rfl, hc1⟩
  replace HKA := Lib.hid (HKA.out.kept hc1 (by simp)); replace HC := Lib.hid (HC.out.trans hc1 fun _ _ h => h)
  clear hc1
  by_cases h1 : Ky.right ⟨I, Q, S⟩
  · rw [decide_eq_true h1]
    by_cases h2 : 1 ≤ l
    · by_cases h3 : l ≤ 4096
      · have hre := HR.out
        unfold scK loK hiK at hre
        rw [if_pos ⟨h1, h2, h3⟩] at hre
        unfold Ky.right at h1
        simp only [] at h1 hre
        have b1 := prod_bound (a := l) (b := I) (by omega) (by omega) (by omega) (by omega)
        obtain ⟨X, hX⟩ : ∃ X, l * I = X := ⟨_, rfl⟩
        rw [hX] at b1 hre
        obtain ⟨b10, b11⟩ := b1
        obtain ⟨a0, a1, a2⟩ := HKA.out.cells
        simp only [] at a0 a1 a2
        have q1 : 1 ≤ Q := h1.1
        have q2 : Q ≤ 4096 := h1.2.1
        have q3 : (Q = 0) = False := by simp; omega
        have d1 : X.tdiv Q = X / Q := Int.tdiv_eq_ediv_of_nonneg b10
        have d2 : (X + Q - 1).tdiv Q = (X + Q - 1) / Q := Int.tdiv_eq_ediv_of_nonneg (by omega)
        have g1 := Int.ediv_nonneg (a := X) (b := Q) b10 (by omega)
        have g2 := Int.ediv_nonneg (a := X + Q - 1) (b := Q) (by omega) (by omega)
        have g3 := Int.ediv_le_self (a := X) Q b10
        have g4 := Int.ediv_le_self (a := X + Q - 1) Q (by omega)
        obtain ⟨D, hD⟩ : ∃ D, X / Q = D := ⟨_, rfl⟩
        obtain ⟨E, hE⟩ : ∃ E, (X + Q - 1) / Q = E := ⟨_, rfl⟩
        rw [hD] at d1 g1 g3 hre
        rw [hE] at d2 g2 g4 hre
        replace g3 : D ≤ 67108864 := by omega
        replace g4 : E ≤ 67112960 := by omega
        subst hre
        clear HR h1 hD hE
        go_wp2_with fail
        go_quiet (fail)
        go_wp2
        go_returns
        exact ⟨rfl, HC.out.drewN _⟩
      · have hre := HR.out
        unfold scK at hre
        rw [if_neg fun hh => h3 hh.2.2] at hre
        subst hre
        clear HR
        go_wp2
        go_returns
        exact ⟨rfl, HC.out⟩
    · have hre := HR.out
      unfold scK at hre
      rw [if_neg fun hh => h2 hh.2.1] at hre
      subst hre
      clear HR
      go_wp2
      go_returns
      exact ⟨rfl, HC.out⟩
  · have hre := HR.out
    unfold scK at hre
    rw [if_neg fun hh => h1 hh.1] at hre
    rw [decide_eq_false h1]
    subst hre
    clear HR h1
    go_wp2
    go_returns
    exact ⟨rfl, HC.out⟩

end Go.Proofs.Ytglejohoikobbaa
