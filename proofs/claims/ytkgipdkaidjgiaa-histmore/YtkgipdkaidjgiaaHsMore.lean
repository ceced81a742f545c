/- The walk of HistMore. -/
import Derived.Test.YtkgipdkaidjgiaaHsAwake
import Derived.Test.YtkgipdkaidjgiaaApBytes
namespace Go.Proofs.Ytkgipdkaidjgiaa
open Go.RowKit

set_option maxHeartbeats 4000000 in
set_option maxRecDepth 100000 in
theorem hmore_any (v : Value) (xs : List Nat) (y : Nat) (w : World) (h : RdB w v xs) (hx : ∀ x ∈ xs, x < 256) (hy : y < 256) :
    Calls Try.prog 7 #[v, .int .u8 (y : Int)] w fun e w' => Says w e w' := by
  obtain ⟨ao, cap, rfl⟩ := h.form
  have H := Lib.hid h; have HX := Lib.hid hx
  clear h hx
  by_cases hbig : 200 < xs.length
  · have hb' : decide (200 < (xs.length : Int)) = true := by simp; omega
    go_enter Try.func7, Try.ntmps7
    go_wp2_with fail
    refine (awake5_any w).mono ?_
    rintro e w1 ⟨rfl, hc1⟩
    go_wp2
    go_ret
    exact ⟨rfl, hc1⟩
  have hb' : decide (200 < (xs.length : Int)) = false := by simp; omega
  have HL := Lib.hid (show (xs ++ [y]).length < 100000000000 by simp; omega)
  have HXY : Hid (∀ x ∈ xs ++ [y], x < 256) := Lib.hid fun x hx => by
    rcases List.mem_append.1 hx with hx | hx
    · exact HX.out x hx
    · simp at hx; omega
  have hxl : xs.length < 100000000000 := by omega
  have HMS := Lib.hid (many_snoc xs y HX.out hy (by omega))
  have HTS : Hid (totalI (cnt (xs ++ [y])) = (xs.length : Int) + 1) := Lib.hid (by rw [total_cnt _ HXY.out (by simp; omega)]; simp)
  have HCS := Lib.hid (cnt_snoc xs y hy)
  have HCB := Lib.hid (cnt_bounds (xs ++ [y]) HL.out)
  have hml := manyI_le (cnt xs)
  have hbd := cnt_bound xs y hy
  go_enter Try.func7, Try.ntmps7
  go_wp2_with fail
  refine (awake5_any w).mono ?_
  rintro e w1 ⟨rfl, hc1⟩
  go_wp2_with fail
  refine (hof_any _ xs w1 (H.out.kept hc1 (by simp)) HX.out hxl).mono ?_
  rintro e w2 ⟨v2, rfl, ho2, hc2⟩
  have hc2' := hc1.trans hc2 (fun _ _ h => h)
  have z1 := hc1.size
  have z2 := hc2'.size
  clear hc1 hc2
  have hca := Chg.alloc (fun _ => False) w2 (.cells #[] 5)
  have hrx := H.out.kept (hc2'.trans hca (fun _ _ h => h)) (by simp)
  have ho2a := ho2.kept hca (by simp)
  have h2lt : ∀ k, v2.ownBlock = some k → w.heap.size ≤ k ∧ k < w2.heap.size := by
    obtain ⟨g, off, cap, rfl, hg, hl, _⟩ := ho2
    intro k hk
    simp [Value.ownBlock] at hk
    omega
  have HRX := Lib.hid hrx; have HCA := Lib.hid hca; have HO2 := Lib.hid ho2a; have H2LT := Lib.hid h2lt
  clear hrx hca ho2 ho2a h2lt z1
  go_wp2_with (at_builtin; refine wpList_append_bytes rfl (.tmp 16) (.tmp 17) rfl w2.heap.size _ [] rfl (own_empty w2) _ xs rfl HRX.out (by simp) (by simp; omega) ?_)
  intro v3 w3 ho3 hc3
  have hc3' : Chg (fun _ => False) w w3 := (hc2'.trans HCA.out (fun _ _ h => h)).trans hc3 (fun k hk hx => by simp [Value.ownBlock] at hx; omega)
  have o3 := HO2.out.kept hc3 (fun k hk hx => by have := H2LT.out k hk; simp [Value.ownBlock] at hx; omega)
  have z3 : w2.heap.size ≤ w3.heap.size := Nat.le_trans HCA.out.size hc3.size
  clear hc3 HCA HRX HO2
  have hca := Chg.alloc (fun _ => False) w3 (.cells #[.int .u8 (y : Int)] 5)
  have hrd := rdb_new w3 [y] #[.int .u8 (y : Int)] 1 (0, 0) rfl rfl
  have ho3a := hca.own ho3 (by simp)
  have o3a := o3.kept hca (by simp)
  have hlt3 := ho3.lt
  have HRD := Lib.hid hrd; have HO3 := Lib.hid ho3a; have HCA := Lib.hid hca; have O3 := Lib.hid o3a; have HLT3 := Lib.hid hlt3
  have z3a : w2.heap.size ≤ (w3.alloc (.cells #[.int .u8 (y : Int)] 5)).heap.size := Nat.le_trans z3 hca.size
  have Z3A := Lib.hid z3a
  clear hca hrd ho3 ho3a o3 o3a hlt3 z3a
  go_wp2_with (at_builtin; refine wpList_append_bytes rfl (.tmp 18) (.tmp 20) rfl w2.heap.size v3 xs rfl HO3.out _ [y] rfl HRD.out Z3A.out (by simp; omega) ?_)
  intro v4 w4 ho4 hc4
  have hc4' : Chg (fun _ => False) w w4 := (hc3'.trans HCA.out (fun _ _ h => h)).trans hc4 (fun k hk hx => by have := (HLT3.out k hx.symm).1; omega)
  have o4 := Lib.hid (O3.out.kept hc4 (fun k hk hx => by have := H2LT.out k hk; have := (HLT3.out k hx.symm).1; omega))
  have rd4 := RdB.of_own ho4
  clear ho4 hc4 hc3' hc2' HLT3 Z3A z2 z3 O3 HRD HO3 HCA
  go_wp2_with fail
  refine (hof_any _ (xs ++ [y]) w4 rd4 HXY.out HL.out).mono ?_
  rintro e w5 ⟨v5, rfl, ho5, hc5⟩
  have o5 := o4.out.kept hc5 (by simp)
  have hc5' := hc4'.trans hc5 (fun _ _ h => h)
  have hs5 := hc5'.size
  have d5 : ∀ k, v5.ownBlock = some k → w4.heap.size ≤ k := by
    obtain ⟨g, off, cap, rfl, hg, hl, _⟩ := ho5
    intro k hk
    simp [Value.ownBlock] at hk
    omega
  have d2 : ∀ k, v2.ownBlock = some k → w.heap.size ≤ k ∧ k < w4.heap.size := by
    obtain ⟨g, off, cap, rfl, hg, hl, _⟩ := o4.out
    intro k hk
    have := H2LT.out k hk
    simp [Value.ownBlock] at hk
    omega
  clear hc5 hc4' rd4 o4 H2LT
  obtain ⟨g2, off2, cap2, rfl, hg2, hl2, hcell2, hfr2⟩ := id o5
  obtain ⟨g5, off5, cap5, rfl, hg5, hl5, hcell5, -⟩ := id ho5
  have e2 := d2 g2 rfl
  have e5 := d5 g5 rfl
  have hcy := hcell2 y (by rw [cnt_length]; exact hy)
  have hfy := hfr2 y
  have hst := o5.store y (by rw [cnt_length]; exact hy) ((cnt xs).getD y 0 + 1)
  rw [← HCS.out] at hst
  have hcs := Chg.setCell w5 ⟨g2, off2 + y, none⟩ (.int .i64 ((cnt xs).getD y 0 + 1))
  have ho5s := ho5.kept hcs (fun k hk hx => by simp [Value.ownBlock] at hk; simp at hx; omega)
  have hcw := hc5'.trans hcs (S := fun _ => False) (fun k hk hx => by simp at hx; omega)
  have hrd5 := o5.rd
  rw [cnt_length] at hrd5 hst ho5s ⊢
  rw [cnt_length]
  have HRD5 := Lib.hid hrd5
  clear hcell2 hfr2 hcell5 hrd5 o5 ho5 d5 d2
  have hms := HMS.out
  obtain ⟨z, hz⟩ : ∃ z, (cnt xs).getD y 0 = z := ⟨_, rfl⟩
  obtain ⟨m, hm⟩ : ∃ m, manyI (cnt xs) = m := ⟨_, rfl⟩
  rw [hz] at hcy hst hcs ho5s hcw hbd hms
  rw [hm] at hml hms
  have HMM := Lib.hid hm
  obtain ⟨hz0, hz1⟩ := hbd
  have HST := Lib.hid hst; have HO5S := Lib.hid ho5s; have HCW := Lib.hid hcw
  have HBX := Lib.hid (cnt_bounds xs hxl)
  have LEN := Lib.hid (show (cnt (xs ++ [y])).length < 100000000000 by rw [cnt_length]; omega)
  obtain ⟨S, hS⟩ : ∃ S, cnt (xs ++ [y]) = S := ⟨_, rfl⟩
  rw [hS] at HST HO5S HCB HTS hms LEN
  clear hst hcs ho5s hcw hz hm hS HMS HCS hg5 hg2 hl2 hl5
  go_wp2_with fail
  refine (hmany_any _ (cnt xs) w5 HRD5.out HBX.out (by rw [cnt_length]; omega)).mono ?_
  rintro e w6 ⟨rfl, m6, rfl⟩
  rw [HMM.out]
  clear HMM HRD5
  have HS2 := Lib.hid (HST.out.kept ((Chg.refl (fun _ => False) _).drewN m6) (by simp))
  have HO2 := Lib.hid (HO5S.out.kept ((Chg.refl (fun _ => False) _).drewN m6) (by simp))
  have HC2 := Lib.hid (HCW.out.drewN m6)
  clear HST HO5S HCW
  have hfin : ∀ M : Nat, manyI S = M → (M : Int) = if z = 0 then (m : Int) + 1 else (m : Int) := by
    intro M hM
    rw [← hM, hms]
    split <;> simp
  have HFIN := Lib.hid hfin
  clear hfin hms
  by_cases hz' : z = 0
  · subst hz'
    go_wp2_with fail
    refine (ints_c _ _ S S _ HS2.out.rd HO2.out.rd LEN.out LEN.out).mono ?_
    rintro e w7 ⟨rfl, hc7⟩
    rw [decide_eq_true rfl]
    have hc7' := HC2.out.trans hc7 (fun _ _ h => h)
    have O7 := Lib.hid (HO2.out.kept hc7 (by simp))
    clear hc7 HC2 HO2 HS2
    go_wp2_with fail
    refine (hmany_c _ S w7 O7.out.rd HCB.out LEN.out).mono ?_
    rintro e w8 ⟨rfl, hc8⟩
    rw [HFIN.out _ rfl, if_pos (by trivial)]
    have hc8' := hc7'.trans hc8 (fun _ _ h => h)
    have O8 := Lib.hid (O7.out.kept hc8 (by simp))
    clear hc7' hc8 O7
    go_wp2_with fail
    refine (htotal_c _ S w8 O8.out.rd HCB.out LEN.out).mono ?_
    rintro e w9 ⟨rfl, hc9⟩
    rw [HTS.out]
    have hc9' := hc8'.trans hc9 (fun _ _ h => h)
    clear hc8' hc9 O8
    go_wp2
    go_ret
    exact ⟨rfl, hc9'⟩
  · have hne : (z == 0) = false := by simp [hz']
    go_wp2_with fail
    refine (ints_c _ _ S S _ HS2.out.rd HO2.out.rd LEN.out LEN.out).mono ?_
    rintro e w7 ⟨rfl, hc7⟩
    rw [decide_eq_true rfl]
    have hc7' := HC2.out.trans hc7 (fun _ _ h => h)
    have O7 := Lib.hid (HO2.out.kept hc7 (by simp))
    clear hc7 HC2 HO2 HS2
    go_wp2_with fail
    refine (hmany_c _ S w7 O7.out.rd HCB.out LEN.out).mono ?_
    rintro e w8 ⟨rfl, hc8⟩
    rw [HFIN.out _ rfl, if_neg hz']
    have hc8' := hc7'.trans hc8 (fun _ _ h => h)
    have O8 := Lib.hid (O7.out.kept hc8 (by simp))
    clear hc7' hc8 O7
    go_wp2_with fail
    refine (htotal_c _ S w8 O8.out.rd HCB.out LEN.out).mono ?_
    rintro e w9 ⟨rfl, hc9⟩
    rw [HTS.out]
    have hc9' := hc8'.trans hc9 (fun _ _ h => h)
    clear hc8' hc9 O8
    go_wp2
    go_ret
    exact ⟨rfl, hc9'⟩

end Go.Proofs.Ytkgipdkaidjgiaa
