/- What puncheonlaw05.awake tells: the chapter's example holds. Contracts of hist, as the laws use them. -/
import Derived.Test.YtkgipdkaidjgiaaHsHist
namespace Go.Proofs.Ytkgipdkaidjgiaa
open Go.RowKit

theorem cnt_bounds (xs : List Nat) (h : xs.length < 100000000000) : ∀ z ∈ cnt xs, -9223372036854775808 ≤ z ∧ z ≤ 9223372036854775807 := by
  intro z hz
  obtain ⟨i, hi, rfl⟩ := List.mem_iff_getElem.1 hz
  rw [cnt_length] at hi
  have := cnt_bound xs i hi
  rw [List.getD_eq_getElem?_getD, List.getElem?_eq_getElem (by rw [cnt_length]; exact hi)] at this
  simp only [Option.getD_some] at this
  omega

theorem hright_c (v : Value) (cs : List Int) (w : World) (h : RdI w v cs) (hb : ∀ z ∈ cs, -9223372036854775808 ≤ z ∧ z ≤ 9223372036854775807) (hl : cs.length < 100000000000) :
    Calls Try.prog 12 #[v] w fun e w' => e = .returned (.bool (decide (isRight cs))) ∧ Chg (fun _ => False) w w' :=
  (hright_any v cs w h hb hl).mono fun e w' ⟨h1, m, h2⟩ => ⟨h1, by rw [h2]; exact (Chg.refl _ _).drewN m⟩
theorem hmany_c (v : Value) (cs : List Int) (w : World) (h : RdI w v cs) (hb : ∀ z ∈ cs, -9223372036854775808 ≤ z ∧ z ≤ 9223372036854775807) (hl : cs.length < 100000000000) :
    Calls Try.prog 14 #[v] w fun e w' => e = .returned (.int .i64 ((manyI cs : Nat) : Int)) ∧ Chg (fun _ => False) w w' :=
  (hmany_any v cs w h hb hl).mono fun e w' ⟨h1, m, h2⟩ => ⟨h1, by rw [h2]; exact (Chg.refl _ _).drewN m⟩
theorem htotal_c (v : Value) (cs : List Int) (w : World) (h : RdI w v cs) (hb : ∀ z ∈ cs, -9223372036854775808 ≤ z ∧ z ≤ 9223372036854775807) (hl : cs.length < 100000000000) :
    Calls Try.prog 16 #[v] w fun e w' => e = .returned (.int .i64 (totalI cs)) ∧ Chg (fun _ => False) w w' :=
  (htotal_any v cs w h hb hl).mono fun e w' ⟨h1, m, h2⟩ => ⟨h1, by rw [h2]; exact (Chg.refl _ _).drewN m⟩

theorem ex_cnt : ∃ C : List Int, cnt [1, 1, 0] = C ∧ C.length = 256 ∧ C.getD 0 0 = 1 ∧ C.getD 1 0 = 2 ∧ C.getD 255 0 = 0 ∧ isRight C ∧ manyI C = 2 ∧ totalI C = 3 := by
  refine ⟨_, rfl, cnt_length _, ?_, ?_, ?_, ?_, ?_, ?_⟩ <;> decide +kernel

set_option maxHeartbeats 1000000 in
set_option maxRecDepth 100000 in
theorem awake5_any (w : World) : Calls Try.prog 8 #[] w fun e w' => e = .returned (.bool true) ∧ Chg (fun _ => False) w w' := by
  obtain ⟨C, hC, hlen, e0, e1, e255, hr, hm, ht⟩ := ex_cnt
  have HRR := Lib.hid hr; have HM := Lib.hid hm; have HT := Lib.hid ht; have HLEN := Lib.hid hlen
  have HBD := Lib.hid (hC ▸ cnt_bounds [1, 1, 0] (by decide))
  have hrd := rdb_new w [1, 1, 0] #[.int .u8 1, .int .u8 1, .int .u8 0] 3 (0, 0) rfl rfl
  have hca := Chg.alloc (fun _ => False) w (.cells #[.int .u8 1, .int .u8 1, .int .u8 0] 5)
  have HR := Lib.hid hrd; have HCA := Lib.hid hca; have HC := Lib.hid hC; have E0 := Lib.hid e0; have E1 := Lib.hid e1; have E255 := Lib.hid e255
  clear hrd hca hC hlen e0 e1 e255 hr hm ht
  go_enter Try.func8, Try.ntmps8
  go_wp2_with fail
  refine (hof_any _ [1, 1, 0] _ HR.out (by decide) (by decide)).mono ?_
  rintro e w1 ⟨v1, rfl, ho1, hc1⟩
  rw [HC.out] at ho1
  have hc1' := HCA.out.trans hc1 (fun _ _ h => h)
  clear hc1 HR HCA HC
  have hrd1 := ho1.rd
  obtain ⟨g, off, cap, rfl, _, _, hcell, _⟩ := ho1
  have k0 := hcell 0 (by rw [HLEN.out]; omega)
  have k1 := hcell 1 (by rw [HLEN.out]; omega)
  have k255 := hcell 255 (by rw [HLEN.out]; omega)
  rw [E0.out, Nat.add_zero] at k0
  rw [E1.out] at k1
  rw [E255.out] at k255
  rw [HLEN.out] at hrd1 ⊢
  have HRD := Lib.hid hrd1
  have HL := Lib.hid (show C.length < 100000000000 by rw [HLEN.out]; omega)
  clear hcell hrd1 HLEN
  go_wp2_with fail
  refine (hright_c _ C w1 HRD.out HBD.out HL.out).mono ?_
  rintro e w2 ⟨rfl, hc2⟩
  rw [decide_eq_true HRR.out]
  have hc2' := hc1'.trans hc2 (fun _ _ h => h)
  have HRD2 := Lib.hid (HRD.out.kept hc2 (by simp))
  clear hc2 HRD hc1' k0 k1 k255
  go_wp2_with fail
  refine (hmany_c _ C w2 HRD2.out HBD.out HL.out).mono ?_
  rintro e w3 ⟨rfl, hc3⟩
  rw [HM.out]
  have hc3' := hc2'.trans hc3 (fun _ _ h => h)
  have HRD3 := Lib.hid (HRD2.out.kept hc3 (by simp))
  clear hc3 HRD2 hc2'
  go_wp2_with fail
  refine (htotal_c _ C w3 HRD3.out HBD.out HL.out).mono ?_
  rintro e w4 ⟨rfl, hc4⟩
  rw [HT.out]
  have hc4' := hc3'.trans hc4 (fun _ _ h => h)
  clear hc4 HRD3 hc3'
  go_wp2
  go_ret
  exact ⟨rfl, hc4'⟩

end Go.Proofs.Ytkgipdkaidjgiaa
