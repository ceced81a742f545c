/- Keys as values; what the document's own frac (puncheonref09) tells. -/
import Derived.Test.YtglejohoikobbaaBwBase
import Derived.Test.YtglejohoikobbaaFrMath
import Derived.Handy
namespace Go.Proofs.Ytglejohoikobbaa
open Go.RowKit

/-- a key as a value -/
def kv (k : Ky) : Value := .agg #[.int .i64 k.I, .int .i64 k.Q, .int .i64 k.S]
/-- numbers that an int holds -/
def Ky.fits (k : Ky) : Prop := (-9223372036854775808 ≤ k.I ∧ k.I ≤ 9223372036854775807) ∧ (-9223372036854775808 ≤ k.Q ∧ k.Q ≤ 9223372036854775807) ∧ (-9223372036854775808 ≤ k.S ∧ k.S ≤ 9223372036854775807)

set_option maxHeartbeats 1000000 in
theorem r9right_any (k : Ky) (w : World) (_hf : k.fits) : Calls Try.prog 11 #[kv k] w fun e w' => e = .returned (.bool (decide k.right)) ∧ Chg (fun _ => False) w w' := by
  obtain ⟨I, Q, S⟩ := k
  have hca := Chg.alloc (fun _ => False) w (.cells #[.int .i64 I, .int .i64 Q, .int .i64 S] 23)
  have HCA := Lib.hid hca
  clear hca
  unfold kv
  have hd : decide (Ky.right ⟨I, Q, S⟩) = decide (1 ≤ Q ∧ Q ≤ 4096 ∧ Q ≤ I ∧ I ≤ 2 * Q - 1 ∧ 0 ≤ S ∧ S ≤ 255) := rfl
  by_cases h1 : 1 ≤ Q
  · by_cases h2 : Q ≤ 4096
    · by_cases h3 : Q ≤ I
      · by_cases h4 : I ≤ 2 * Q - 1
        · by_cases h5 : 0 ≤ S
          · by_cases h6 : S ≤ 255
            · rw [hd, decide_eq_true ⟨h1, h2, h3, h4, h5, h6⟩]
              go_enter Try.func11, Try.ntmps11
              go_wp2
              go_ret
              exact ⟨rfl, HCA.out⟩
            · rw [hd, decide_eq_false (fun hh => h6 hh.2.2.2.2.2)]
              go_enter Try.func11, Try.ntmps11
              go_wp2
              go_ret
              exact ⟨rfl, HCA.out⟩
          · rw [hd, decide_eq_false (fun hh => h5 hh.2.2.2.2.1)]
            go_enter Try.func11, Try.ntmps11
            go_wp2
            go_ret
            exact ⟨rfl, HCA.out⟩
        · rw [hd, decide_eq_false (fun hh => h4 hh.2.2.2.1)]
          go_enter Try.func11, Try.ntmps11
          go_wp2
          go_ret
          exact ⟨rfl, HCA.out⟩
      · rw [hd, decide_eq_false (fun hh => h3 hh.2.2.1)]
        go_enter Try.func11, Try.ntmps11
        go_wp2
        go_ret
        exact ⟨rfl, HCA.out⟩
    · rw [hd, decide_eq_false (fun hh => h2 hh.2.1)]
      go_enter Try.func11, Try.ntmps11
      go_wp2
      go_ret
      exact ⟨rfl, HCA.out⟩
  · rw [hd, decide_eq_false (fun hh => h1 hh.1)]
    go_enter Try.func11, Try.ntmps11
    go_wp2
    go_ret
    exact ⟨rfl, HCA.out⟩

/-- the key that is made of small numbers -/
def madeK (i q s : Nat) : Ky := ⟨(((1 + q % 4096) + i % (1 + q % 4096) : Nat) : Int), ((1 + q % 4096 : Nat) : Int), (s : Int)⟩
theorem madeK_right (i q s : Nat) (hs : s < 256) : (madeK i q s).right := by
  have h := Nat.mod_lt i (show 0 < 1 + q % 4096 by omega)
  unfold madeK Ky.right
  simp only []
  omega
theorem Ky.right.fits {k : Ky} (h : k.right) : k.fits := by
  unfold Ky.right at h; unfold Ky.fits; omega

set_option maxHeartbeats 1000000 in
theorem r9made_any (i q s : Nat) (w : World) (hi : i < 65536) (hq : q < 65536) (hs : s < 256) : Calls Try.prog 14 #[.int .u16 (i : Int), .int .u16 (q : Int), .int .u8 (s : Int)] w fun e w' => e = .returned (kv (madeK i q s)) ∧ Chg (fun _ => False) w w' := by
  have e1 : ((1 + q % 4096 : Nat) : Int) = 1 + (q : Int) % 4096 := by omega
  have hn : 0 < 1 + q % 4096 := by omega
  have hm := Nat.mod_lt i hn
  obtain ⟨n, hn'⟩ : ∃ n, 1 + q % 4096 = n := ⟨_, rfl⟩
  have hle : n ≤ 4096 := by omega
  have hkv : kv (madeK i q s) = .agg #[.int .i64 ((n : Int) + (i : Int) % (n : Int)), .int .i64 (n : Int), .int .i64 (s : Int)] := by
    unfold kv madeK; rw [hn']; simp
  rw [hn'] at e1 hn hm
  have e2 : 1 + (q : Int) % 4096 = (n : Int) := e1.symm
  have hi0 : ((n : Int) = 0) = False := by simp; omega
  have e3 : (i : Int).tmod (n : Int) = (i : Int) % (n : Int) := Int.tmod_eq_emod_of_nonneg (by omega)
  obtain ⟨m, hm'⟩ : ∃ m : Nat, i % n = m := ⟨_, rfl⟩
  have e4 : (i : Int) % (n : Int) = (m : Int) := by rw [← hm']; rfl
  rw [hm'] at hm
  rw [e4] at hkv
  rw [hkv]
  clear hkv hm' hn' e1
  have hca := fun cs => Chg.alloc (fun _ => False) w (.cells cs 23)
  have HCA := Lib.hid hca
  clear hca
  go_enter Try.func14, Try.ntmps14
  go_wp2
  go_returns
  exact ⟨rfl, HCA.out _⟩

set_option maxHeartbeats 1000000 in
theorem key_any (k : Ky) (w : World) (hf : k.fits) : Calls Try.prog 10 #[kv k] w fun e w' => e = .returned (kv k) ∧ Chg (fun _ => False) w w' := by
  obtain ⟨I, Q, S⟩ := k
  clear hf
  unfold kv
  go_enter Try.func10, Try.ntmps10
  go_wp2
  go_returns
  refine ⟨rfl, ?_⟩
  exact (Chg.alloc (fun _ => False) w _).trans (Chg.alloc (fun _ => False) _ _) fun _ _ h => h

/-- a block that holds a key, of either type -/
def Kb (w : World) (g : Nat) (t : TypeId) (k : Ky) : Prop := w.heap[g]? = some (.cells #[.int .i64 k.I, .int .i64 k.Q, .int .i64 k.S] t (0, 0))
theorem Kb.kept {S : Nat → Prop} {w w' : World} {g : Nat} {t : TypeId} {k : Ky} (h : Kb w g t k) (hc : Chg S w w') (hS : ¬ S g) : Kb w' g t k := (hc.block g (lt_of_block h) hS).trans h
theorem Kb.lt {w : World} {g : Nat} {t : TypeId} {k : Ky} (h : Kb w g t k) : g < w.heap.size := lt_of_block h
theorem Kb.cells {w : World} {g : Nat} {t : TypeId} {k : Ky} (h : Kb w g t k) : w.cell? ⟨g, 0, none⟩ = some (.int .i64 k.I) ∧ w.cell? ⟨g, 1, none⟩ = some (.int .i64 k.Q) ∧ w.cell? ⟨g, 2, none⟩ = some (.int .i64 k.S) :=
  ⟨by rw [cell_of_row w g 0 _ _ _ h]; rfl, by rw [cell_of_row w g 1 _ _ _ h]; rfl, by rw [cell_of_row w g 2 _ _ _ h]; rfl⟩
theorem Kb.loadR {w : World} {g : Nat} {k : Ky} (h : Kb w g 23 k) : (loadVar 23 ⟨g, 0, none⟩).run Try.prog w = .ok (kv k) w := run_loadVar_row w g _ _ _ _ _ h Try.underlying23 rfl (by kernel_rfl)
theorem Kb.loadF {w : World} {g : Nat} {k : Ky} (h : Kb w g 26 k) : (loadVar 26 ⟨g, 0, none⟩).run Try.prog w = .ok (kv k) w := run_loadVar_row w g _ _ _ _ _ h Try.underlying26 rfl (by kernel_rfl)

/-- a key that was boxed, or laid into a variable of its own -/
theorem Kb.of_alloc (w : World) (t : TypeId) (k : Ky) : Kb (w.alloc (.cells #[.int .i64 k.I, .int .i64 k.Q, .int .i64 k.S] t)) w.heap.size t k := heap_alloc_new w _

theorem prod_bound {a b : Int} (h1 : 0 ≤ a) (h2 : a ≤ 8192) (h3 : 0 ≤ b) (h4 : b ≤ 8192) : 0 ≤ a * b ∧ a * b ≤ 67108864 :=
  ⟨Int.mul_nonneg h1 h3, Int.le_trans (Int.mul_le_mul h2 h4 h3 (by omega)) (by decide)⟩

set_option maxHeartbeats 1000000 in
theorem r9cmp_any (a b : Ky) (w : World) (ha : a.fits) (hb : b.fits) : Calls Try.prog 13 #[kv a, kv b] w fun e w' => e = .returned (.int .i64 (cmpK a b)) ∧ Chg (fun _ => False) w w' := by
  have HA := Lib.hid ha; have HB := Lib.hid hb
  obtain ⟨x, hx⟩ : ∃ x, cmpK a b = x := ⟨_, rfl⟩
  rw [hx]
  have HX := Lib.hid hx
  clear ha hb hx
  obtain ⟨I, Q, S⟩ := a
  obtain ⟨J, R, T⟩ := b
  unfold kv
  have hka : Kb ((w.alloc (.cells #[.int .i64 I, .int .i64 Q, .int .i64 S] 23)).alloc (.cells #[.int .i64 J, .int .i64 R, .int .i64 T] 23)) w.heap.size 23 ⟨I, Q, S⟩ := heap_alloc2_old w _ _
  have hkb : Kb ((w.alloc (.cells #[.int .i64 I, .int .i64 Q, .int .i64 S] 23)).alloc (.cells #[.int .i64 J, .int .i64 R, .int .i64 T] 23)) (w.heap.size + 1) 23 ⟨J, R, T⟩ := heap_alloc2_new w _ _
  have hc0 : Chg (fun _ => False) w ((w.alloc (.cells #[.int .i64 I, .int .i64 Q, .int .i64 S] 23)).alloc (.cells #[.int .i64 J, .int .i64 R, .int .i64 T] 23)) := (Chg.alloc (fun _ => False) w _).trans (Chg.alloc (fun _ => False) _ _) fun _ _ h => h
  have HKA := Lib.hid hka; have HKB := Lib.hid hkb; have HC := Lib.hid hc0
  clear hka hkb hc0
  go_enter Try.func13, Try.ntmps13
  go_wp2_with fail
  refine (r9right_any ⟨I, Q, S⟩ _ HA.out).mono ?_
  rintro e w1 ⟨rfl, hc1⟩
  replace HKA := Lib.hid (HKA.out.kept hc1 (by simp)); replace HKB := Lib.hid (HKB.out.kept hc1 (by simp)); replace HC := Lib.hid (HC.out.trans hc1 fun _ _ h => h)
  clear hc1
  obtain ⟨c0, c1, c2⟩ := HKB.out.cells
  go_wp2_with fail
  refine (r9right_any ⟨J, R, T⟩ _ HB.out).mono ?_
  rintro e w2 ⟨rfl, hc1⟩
  replace HKA := Lib.hid (HKA.out.kept hc1 (by simp)); replace HKB := Lib.hid (HKB.out.kept hc1 (by simp)); replace HC := Lib.hid (HC.out.trans hc1 fun _ _ h => h)
  clear hc1 c0 c1 c2
  by_cases h1 : Ky.right ⟨I, Q, S⟩
  · by_cases h2 : Ky.right ⟨J, R, T⟩
    · rw [decide_eq_true h1, decide_eq_true h2]
      have hcmp := HX.out
      unfold cmpK cmpR at hcmp
      rw [if_pos ⟨h1, h2⟩] at hcmp
      unfold Ky.right at h1 h2
      simp only [] at h1 h2 hcmp
      have b1 := prod_bound (a := I) (b := R) (by omega) (by omega) (by omega) (by omega)
      have b2 := prod_bound (a := J) (b := Q) (by omega) (by omega) (by omega) (by omega)
      obtain ⟨a0, a1, a2⟩ := HKA.out.cells
      obtain ⟨c0, c1, c2⟩ := HKB.out.cells
      simp only [] at a0 a1 a2 c0 c1 c2
      obtain ⟨X, hX⟩ : ∃ X, I * R = X := ⟨_, rfl⟩
      obtain ⟨Y, hY⟩ : ∃ Y, J * Q = Y := ⟨_, rfl⟩
      rw [hX] at b1 hcmp
      rw [hY] at b2 hcmp
      obtain ⟨b10, b11⟩ := b1
      obtain ⟨b20, b21⟩ := b2
      have HCM := Lib.hid hcmp
      clear hcmp h1 h2
      by_cases e1 : X < Y
      · have hx1 : x = -1 := by rw [← HCM.out, if_pos (Or.inl e1)]
        subst hx1
        clear HCM
        go_wp2
        go_ret
        exact ⟨rfl, HC.out⟩
      · by_cases e2 : Y < X
        · have hx1 : x = 1 := by rw [← HCM.out, if_neg (by omega), if_pos (Or.inl e2)]
          have e3 : decide (X = Y) = false := decide_eq_false (by omega)
          subst hx1
          clear HCM
          go_wp2
          go_ret
          exact ⟨rfl, HC.out⟩
        · obtain rfl : X = Y := by omega
          clear e1 e2
          by_cases e1 : S < T
          · have hx1 : x = -1 := by rw [← HCM.out, if_pos (Or.inr ⟨rfl, e1⟩)]
            subst hx1
            clear HCM
            go_wp2
            go_ret
            exact ⟨rfl, HC.out⟩
          · by_cases e2 : T < S
            · have hx1 : x = 1 := by rw [← HCM.out, if_neg (by omega), if_pos (Or.inr ⟨rfl, e2⟩)]
              subst hx1
              clear HCM
              go_wp2
              go_ret
              exact ⟨rfl, HC.out⟩
            · have hx1 : x = 0 := by rw [← HCM.out, if_neg (by omega), if_neg (by omega)]
              subst hx1
              clear HCM
              go_wp2
              go_ret
              exact ⟨rfl, HC.out⟩
    · rw [decide_eq_true h1, decide_eq_false h2]
      have hd : x = 0 := by rw [← HX.out]; unfold cmpK; rw [if_neg fun h => h2 h.2]
      subst hd
      clear h1 h2 HX
      go_wp2
      go_ret
      exact ⟨rfl, HC.out⟩
  · rw [decide_eq_false h1]
    have hd : x = 0 := by rw [← HX.out]; unfold cmpK; rw [if_neg fun h => h1 h.1]
    subst hd
    clear h1 HX
    go_wp2
    go_ret
    exact ⟨rfl, HC.out⟩

end Go.Proofs.Ytglejohoikobbaa
