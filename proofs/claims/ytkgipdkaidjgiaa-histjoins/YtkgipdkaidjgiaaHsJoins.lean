/- The walk of HistJoins. -/
import Derived.Test.YtkgipdkaidjgiaaHsAwake
import Derived.Test.YtkgipdkaidjgiaaHsAdd
import Derived.Test.YtkgipdkaidjgiaaApBytes
namespace Go.Proofs.Ytkgipdkaidjgiaa
open Go.RowKit

set_option maxHeartbeats 4000000 in
set_option maxRecDepth 100000 in
theorem hjoins_any (v u : Value) (xs ys : List Nat) (w : World) (h : RdB w v xs) (hx : ∀ x ∈ xs, x < 256) (hu : RdB w u ys) (hy : ∀ y ∈ ys, y < 256) :
    Calls Try.prog 5 #[v, u] w fun e w' => Says w e w' := by
  obtain ⟨ao, cap, rfl⟩ := h.form
  obtain ⟨au, capu, rfl⟩ := hu.form
  have H := Lib.hid h; have HX := Lib.hid hx; have HU := Lib.hid hu; have HY := Lib.hid hy
  clear h hx hu hy
  by_cases hbig : 200 < xs.length
  · have hb' : decide (200 < (xs.length : Int)) = true := by simp; omega
    go_enter Try.func5, Try.ntmps5
    go_wp2_with fail
    refine (awake5_any w).mono ?_
    rintro e w1 ⟨rfl, hc1⟩
    go_wp2
    go_ret
    exact ⟨rfl, hc1⟩
  have hb' : decide (200 < (xs.length : Int)) = false := by simp; omega
  by_cases hbig2 : 200 < ys.length
  · have hb2' : decide (200 < (ys.length : Int)) = true := by simp; omega
    go_enter Try.func5, Try.ntmps5
    go_wp2_with fail
    refine (awake5_any w).mono ?_
    rintro e w1 ⟨rfl, hc1⟩
    go_wp2
    go_ret
    exact ⟨rfl, hc1⟩
  have hb2' : decide (200 < (ys.length : Int)) = false := by simp; omega
  have HL := Lib.hid (show (xs ++ ys).length < 100000000000 by rw [List.length_append]; omega)
  have HL2 := Lib.hid (show (ys ++ xs).length < 100000000000 by rw [List.length_append]; omega)
  have HXY : Hid (∀ x ∈ xs ++ ys, x < 256) := Lib.hid fun x hx => by
    rcases List.mem_append.1 hx with hx | hx
    · exact HX.out x hx
    · exact HY.out x hx
  have HYX : Hid (∀ x ∈ ys ++ xs, x < 256) := Lib.hid fun x hx => by
    rcases List.mem_append.1 hx with hx | hx
    · exact HY.out x hx
    · exact HX.out x hx
  have HADD := Lib.hid (addOk_cnt xs ys HX.out HY.out (by omega))
  have E1 := Lib.hid (cnt_append xs ys)
  have E2 := Lib.hid ((cnt_append ys xs).trans (addL_comm _ _))
  have HTOT : Hid (totalI (addL (cnt xs) (cnt ys)) = ((xs.length : Int) + (ys.length : Int))) := Lib.hid (by
    rw [← cnt_append, total_cnt _ HXY.out (by rw [List.length_append]; omega), List.length_append]; simp)
  have HCX := Lib.hid (cnt_bounds xs (by omega)); have HCY := Lib.hid (cnt_bounds ys (by omega))
  have LCX := Lib.hid (show (cnt xs).length < 100000000000 by rw [cnt_length]; omega)
  have LCY := Lib.hid (show (cnt ys).length < 100000000000 by rw [cnt_length]; omega)
  have hxl : xs.length < 100000000000 := by omega
  have hyl : ys.length < 100000000000 := by omega
  go_enter Try.func5, Try.ntmps5
  go_wp2_with fail
  refine (awake5_any w).mono ?_
  rintro e w2 ⟨rfl, hc2'⟩
  have hca := Chg.alloc (fun _ => False) w2 (.cells #[] 5)
  have hrx := H.out.kept (hc2'.trans hca (fun _ _ h => h)) (by simp)
  have HRX := Lib.hid hrx; have HCA := Lib.hid hca
  have z2 := hc2'.size
  clear hrx hca
  go_wp2_with (at_builtin; refine wpList_append_bytes rfl (.tmp 20) (.tmp 21) rfl w2.heap.size _ [] rfl (own_empty w2) _ xs rfl HRX.out (by simp) (by simp; omega) ?_)
  intro v3 w3 ho3 hc3
  have hc3' : Chg (fun _ => False) w w3 := (hc2'.trans HCA.out (fun _ _ h => h)).trans hc3 (fun k hk hx => by simp [Value.ownBlock] at hx; omega)
  have z3 : w2.heap.size ≤ w3.heap.size := Nat.le_trans HCA.out.size hc3.size
  have hlt3 := ho3.lt
  have hru := HU.out.kept hc3' (by simp)
  clear hc3 HCA HRX
  go_wp2_with (at_builtin; refine wpList_append_bytes rfl (.tmp 22) (.tmp 23) rfl w2.heap.size v3 xs rfl ho3 _ ys rfl hru z3 (by omega) ?_)
  intro v4 w4 ho4 hc4
  have hc4' : Chg (fun _ => False) w w4 := hc3'.trans hc4 (fun k hk hx => by have := (hlt3 k hx.symm).1; omega)
  have rd4 := RdB.of_own ho4
  clear ho4 hc4 hru ho3 hc3' hc2' hlt3 z2 z3
  go_wp2_with fail
  refine (hof_any _ (xs ++ ys) w4 rd4 HXY.out HL.out).mono ?_
  rintro e w5 ⟨v5, rfl, ho5, hc5⟩
  rw [E1.out] at ho5
  have hc5' := hc4'.trans hc5 (fun _ _ h => h)
  have z5 := hc5'.size
  clear hc5 hc4' rd4
  have hca := Chg.alloc (fun _ => False) w5 (.cells #[] 5)
  have hrx := HU.out.kept (hc5'.trans hca (fun _ _ h => h)) (by simp)
  have ho5a := ho5.kept hca (by simp)
  have HRX := Lib.hid hrx; have HCA := Lib.hid hca; have HO5 := Lib.hid ho5a
  have h5lt : ∀ k, v5.ownBlock = some k → k < w5.heap.size := by
    obtain ⟨g, off, cap, rfl, _, hl, _⟩ := ho5
    intro k hk
    simp [Value.ownBlock] at hk
    omega
  have H5LT := Lib.hid h5lt
  clear hrx hca ho5 ho5a h5lt
  go_wp2_with (at_builtin; refine wpList_append_bytes rfl (.tmp 26) (.tmp 27) rfl w5.heap.size _ [] rfl (own_empty w5) _ ys rfl HRX.out (by simp) (by simp; omega) ?_)
  intro v6 w6 ho6 hc6
  have hc6' : Chg (fun _ => False) w w6 := (hc5'.trans HCA.out (fun _ _ h => h)).trans hc6 (fun k hk hx => by simp [Value.ownBlock] at hx; omega)
  have o6 := HO5.out.kept hc6 (fun k hk hx => by have := H5LT.out k hk; simp [Value.ownBlock] at hx; omega)
  have z6 : w5.heap.size ≤ w6.heap.size := Nat.le_trans HCA.out.size hc6.size
  have hlt6 := ho6.lt
  have hru := H.out.kept hc6' (by simp)
  clear hc6 HCA HRX HO5
  go_wp2_with (at_builtin; refine wpList_append_bytes rfl (.tmp 28) (.tmp 29) rfl w5.heap.size v6 ys rfl ho6 _ xs rfl hru z6 (by omega) ?_)
  intro v7 w7 ho7 hc7
  have hc7' : Chg (fun _ => False) w w7 := hc6'.trans hc7 (fun k hk hx => by have := (hlt6 k hx.symm).1; omega)
  have o7 := Lib.hid (o6.kept hc7 (fun k hk hx => by have := H5LT.out k hk; have := (hlt6 k hx.symm).1; omega))
  have rd7 := RdB.of_own ho7
  clear ho7 hc7 hru ho6 hc6' hc5' hlt6 z5 z6 o6 H5LT
  go_wp2_with fail
  refine (hof_any _ (ys ++ xs) w7 rd7 HYX.out HL2.out).mono ?_
  rintro e w8 ⟨v8, rfl, ho8, hc8⟩
  rw [E2.out] at ho8
  have o8 := Lib.hid (o7.out.kept hc8 (by simp))
  have hc8' := hc7'.trans hc8 (fun _ _ h => h)
  have O8 := Lib.hid ho8
  clear hc8 hc7' rd7 o7 ho8
  go_wp2_with fail
  refine (hof_any _ xs w8 (H.out.kept hc8' (by simp)) HX.out hxl).mono ?_
  rintro e w9 ⟨v9, rfl, ho9, hc9⟩
  have o9 := Lib.hid (o8.out.kept hc9 (by simp)); have O9 := Lib.hid (O8.out.kept hc9 (by simp))
  have hc9' := hc8'.trans hc9 (fun _ _ h => h)
  have A9 := Lib.hid ho9
  clear hc9 hc8' o8 O8 ho9
  go_wp2_with fail
  refine (hof_any _ ys w9 (HU.out.kept hc9' (by simp)) HY.out hyl).mono ?_
  rintro e w10 ⟨v10, rfl, ho10, hc10⟩
  have o10 := Lib.hid (o9.out.kept hc10 (by simp)); have O10 := Lib.hid (O9.out.kept hc10 (by simp)); have A10 := Lib.hid (A9.out.kept hc10 (by simp))
  have hc10' := hc9'.trans hc10 (fun _ _ h => h)
  have B10 := Lib.hid ho10
  clear hc10 hc9' o9 O9 A9 ho10
  go_wp2_with fail
  refine (hadd_any _ _ (cnt xs) (cnt ys) w10 A10.out.rd HCX.out LCX.out B10.out.rd HCY.out LCY.out).mono ?_
  rintro e w11 ⟨v11, rfl, hyes, -, hc11⟩
  rw [decide_eq_true HADD.out]
  have o11 := Lib.hid (o10.out.kept hc11 (by simp)); have O11 := Lib.hid (O10.out.kept hc11 (by simp))
  have hc11' := hc10'.trans hc11 (fun _ _ h => h)
  have S11 := Lib.hid (hyes HADD.out)
  have hbd := addL_bounds HADD.out.1 HADD.out.2.1
  have hln : (addL (cnt xs) (cnt ys)).length < 100000000000 := by rw [HADD.out.2.2.1]; omega
  have HRS := Lib.hid HADD.out.2.2
  have HBD := Lib.hid hbd; have HLN := Lib.hid hln
  clear hyes hc11 hc10' o10 O10 A10 B10 hbd hln HADD
  obtain ⟨S, hS⟩ : ∃ S, addL (cnt xs) (cnt ys) = S := ⟨_, rfl⟩
  rw [hS] at o11 O11 S11 HBD HLN HTOT HRS
  clear hS E1 E2
  go_wp2_with fail
  refine (ints_c _ _ S S w11 o11.out.rd S11.out.rd HLN.out HLN.out).mono ?_
  rintro e w12 ⟨rfl, hc12⟩
  rw [decide_eq_true rfl]
  have o12 := Lib.hid (o11.out.kept hc12 (by simp)); have O12 := Lib.hid (O11.out.kept hc12 (by simp)); have S12 := Lib.hid (S11.out.kept hc12 (by simp))
  have hc12' := hc11'.trans hc12 (fun _ _ h => h)
  clear hc12 hc11' o11 O11 S11
  go_wp2_with fail
  refine (ints_c _ _ S S w12 O12.out.rd S12.out.rd HLN.out HLN.out).mono ?_
  rintro e w13 ⟨rfl, hc13⟩
  rw [decide_eq_true rfl]
  have o13 := Lib.hid (o12.out.kept hc13 (by simp))
  have hc13' := hc12'.trans hc13 (fun _ _ h => h)
  clear hc13 hc12' o12 O12 S12
  go_wp2_with fail
  refine (htotal_c _ S w13 o13.out.rd HBD.out HLN.out).mono ?_
  rintro e w14 ⟨rfl, hc14⟩
  rw [HTOT.out]
  have o14 := Lib.hid (o13.out.kept hc14 (by simp))
  have hc14' := hc13'.trans hc14 (fun _ _ h => h)
  clear hc14 hc13' o13
  go_wp2_with fail
  refine (hright_c _ S w14 o14.out.rd HBD.out HLN.out).mono ?_
  rintro e w15 ⟨rfl, hc15⟩
  rw [decide_eq_true HRS.out]
  have hc15' := hc14'.trans hc15 (fun _ _ h => h)
  clear hc15 hc14' o14
  go_wp2
  go_ret
  exact ⟨rfl, hc15'⟩

end Go.Proofs.Ytkgipdkaidjgiaa
