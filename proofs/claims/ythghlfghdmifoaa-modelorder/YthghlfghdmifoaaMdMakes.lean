/- ModelMakes: the models of any bytes, or that there are none, are as the document says. -/
import Derived.Test.YthghlfghdmifoaaBase4
namespace Go.Proofs.Ythghlfghdmifoaa
open Go.RowKit

theorem zero_fit64 (xs : List Nat) (hx : ∀ x ∈ xs, x < 256) (hl : xs.length ≤ 1000000) (h0 : 0 < xs.length) : (zeroM xs).fit64 := (zero_right xs hx (by omega) h0).fit64
theorem first_fit64 (xs : List Nat) (hx : ∀ x ∈ xs, x < 256) (hl : xs.length ≤ 1000000) (h0 : 0 < xs.length) : (firstM xs).fit64 := (first_right xs hx (by omega) h0).fit64
theorem RdM.form {w : World} {v : Value} {m : Md} (h : RdM w v m) : ∃ ao cap, v = .agg #[.int .i64 m.log, .bool m.one, .slice ao m.cs.length cap] ∧ RdLL w (.slice ao m.cs.length cap) m.cs := by
  obtain ⟨cv, rfl, h1⟩ := h
  obtain ⟨ao, cap, rfl⟩ := h1.form
  exact ⟨ao, cap, rfl, h1⟩
theorem rdm_nil (w : World) (ao : Option Addr) (cap : Nat) : RdM w (.agg #[.int .i64 0, .bool false, .slice ao 0 cap]) md0 := ⟨_, rfl, .inl ⟨rfl, _, _, rfl⟩⟩
theorem RdLL.rdm {w : World} {ao : Option Addr} {n cap : Nat} {m : Md} {log : Int} {one : Bool} (h : RdLL w (.slice ao n cap) m.cs) (hl : m.log = log) (ho : m.one = one) : RdM w (.agg #[.int .i64 log, .bool one, .slice ao n cap]) m := ⟨_, by rw [← hl, ← ho]; rfl, h⟩

set_option maxHeartbeats 4000000 in
theorem mmakes_any (v : Value) (xs : List Nat) (w : World) (h : RdB w v xs) (hx : ∀ x ∈ xs, x < 256) (hr : RoomOk v) :
    Calls Try.prog 3 #[v] w fun e w' => Says w e w' := by
  have HAW := Lib.hid (awake16_any w)
  obtain ⟨ao, cap, rfl⟩ := h.form
  have H := Lib.hid h; have HX := Lib.hid hx; have HRM := Lib.hid hr
  clear h hx hr
  go_enter Try.func3, Try.ntmps3
  go_wp2_with fail
  refine HAW.out.mono ?_
  rintro e w1 ⟨rfl, hc1⟩
  have HC1 := Lib.hid hc1
  clear hc1 HAW
  by_cases hbig : 80 < xs.length
  · have d1 : decide (80 < (xs.length : Int)) = true := decide_eq_true (by omega)
    go_wp2
    go_ret
    exact ⟨rfl, HC1.out⟩
  · have d1 : decide (80 < (xs.length : Int)) = false := decide_eq_false (by omega)
    have hz := mzero_any _ xs w1 (H.out.kept HC1.out (by simp)) HX.out (by omega) HRM.out
    have HZ := Lib.hid hz
    have HF := Lib.hid (show ∀ W, Chg (fun _ => False) w W → _ from fun W hW => mfirst_any _ xs W (H.out.kept hW (by simp)) HX.out (by omega) HRM.out)
    clear hz
    by_cases h0 : xs = []
    · subst h0
      rw [if_pos rfl, if_pos rfl] at HZ
      rw [if_pos rfl, if_pos rfl] at HF
      go_wp2_with fail
      refine HZ.out.mono ?_
      rintro e w2 ⟨u, rfl, hm2, hc2⟩
      have hm2 := hm2.rd
      obtain ⟨a2, p2, rfl, hl2⟩ := hm2.form
      rw [show md0.log = 0 from rfl, show md0.one = false from rfl, show md0.cs.length = 0 from rfl]
      have hca := Chg.alloc (fun _ => False) w2 (.cells #[.int .i64 0, .bool false, .slice a2 0 p2] 26)
      have hmb : Mb _ _ 0 false (.slice a2 0 p2) := heap_alloc_new w2 (.cells #[.int .i64 0, .bool false, .slice a2 0 p2] 26)
      obtain ⟨W2, hW2⟩ : ∃ W2, w2.alloc (.cells #[.int .i64 0, .bool false, .slice a2 0 p2] 26) = W2 := ⟨_, rfl⟩
      rw [hW2] at hca hmb
      have hcw := (HC1.out.trans hc2 fun _ _ h => h).trans hca fun _ _ h => h
      have HF2 := Lib.hid (HF.out W2 hcw); have HMB := Lib.hid hmb; have HCW := Lib.hid hcw
      clear hm2 hl2 hc2 hca hmb hcw HZ HF
      go_wp2_with fail
      refine HF2.out.mono ?_
      rintro e w3 ⟨u, rfl, hm3, hc3⟩
      have hm3 := hm3.rd
      obtain ⟨a3, p3, rfl, hl3⟩ := hm3.form
      rw [show md0.log = 0 from rfl, show md0.one = false from rfl, show md0.cs.length = 0 from rfl]
      have hca := Chg.alloc (fun _ => False) w3 (.cells #[.int .i64 0, .bool false, .slice a3 0 p3] 26)
      have hmb3 : Mb _ _ 0 false (.slice a3 0 p3) := heap_alloc_new w3 (.cells #[.int .i64 0, .bool false, .slice a3 0 p3] 26)
      obtain ⟨W3, hW3⟩ : ∃ W3, w3.alloc (.cells #[.int .i64 0, .bool false, .slice a3 0 p3] 26) = W3 := ⟨_, rfl⟩
      rw [hW3] at hca hmb3
      have hmb2 := (HMB.out.kept hc3 (by simp)).kept hca (by simp)
      have hcw := (HCW.out.trans hc3 fun _ _ h => h).trans hca fun _ _ h => h
      obtain ⟨b0, b1, b2⟩ := hmb2.cells
      obtain ⟨c0, c1, c2⟩ := hmb3.cells
      have HS := Lib.hid (show ∀ (W : World) a p b q, Calls Try.prog 11 #[.agg #[.int .i64 0, .bool false, .slice a 0 p], .agg #[.int .i64 0, .bool false, .slice b 0 q]] W fun e w' => e = .returned (.bool true) ∧ Chg (fun _ => False) W w' from fun W a p b q => by
        have := r16same_any _ _ md0 md0 W (rdm_nil W a p) (rdm_nil W b q) md0_fit64 md0_fit64
        rw [decide_eq_true rfl] at this
        exact this)
      have hzm := zeroModel
      have HMB2 := Lib.hid hmb2; have HMB3 := Lib.hid hmb3; have HCW3 := Lib.hid hcw
      clear hm3 hl3 hc3 hca hmb2 hmb3 hcw HMB HCW HF2 hW2
      go_wp2_with fail
      refine (HS.out _ _ _ _ _).mono ?_
      rintro e w4 ⟨rfl, hc4⟩
      obtain ⟨d0, d1, d2⟩ := (HMB3.out.kept hc4 (by simp)).cells
      have HC4 := Lib.hid (HCW3.out.trans hc4 fun _ _ h => h)
      clear hc4 b0 b1 b2 c0 c1 c2 hW3
      go_wp2_with fail
      refine (HS.out _ _ _ _ _).mono ?_
      rintro e w5 ⟨rfl, hc5⟩
      have HC5 := Lib.hid (HC4.out.trans hc5 fun _ _ h => h)
      clear hc5
      go_wp2
      go_ret
      exact ⟨rfl, HC5.out⟩
    · have hpos : 0 < xs.length := List.length_pos_iff.2 h0
      have hne0 : ((xs.length : Int) == 0) = false := by simp; omega
      rw [if_neg h0, if_neg h0] at HZ
      rw [if_neg h0, if_neg h0] at HF
      have hfz := zero_fit64 xs HX.out (by omega) hpos
      have hff := first_fit64 xs HX.out (by omega) hpos
      have HRZ := Lib.hid (show ∀ W, Chg (fun _ => False) w W → _ from fun W hW => r16zero_any _ xs W (H.out.kept hW (by simp)) HX.out (by omega) hpos)
      have HRF := Lib.hid (show ∀ W, Chg (fun _ => False) w W → _ from fun W hW => r16first_any _ xs W (H.out.kept hW (by simp)) HX.out (by omega) hpos)
      obtain ⟨mz, hmz⟩ : ∃ mz, zeroM xs = mz := ⟨_, rfl⟩
      obtain ⟨mf, hmf⟩ : ∃ mf, firstM xs = mf := ⟨_, rfl⟩
      rw [hmz] at HZ HRZ hfz
      rw [hmf] at HF HRF hff
      have HSZ := Lib.hid (show ∀ (W : World) a b, RdM W a mz → RdM W b mz → Calls Try.prog 11 #[a, b] W fun e w' => e = .returned (.bool true) ∧ Chg (fun _ => False) W w' from fun W a b h1 h2 => by
        have := r16same_any a b mz mz W h1 h2 hfz hfz
        rw [decide_eq_true rfl] at this
        exact this)
      have HSF := Lib.hid (show ∀ (W : World) a b, RdM W a mf → RdM W b mf → Calls Try.prog 11 #[a, b] W fun e w' => e = .returned (.bool true) ∧ Chg (fun _ => False) W w' from fun W a b h1 h2 => by
        have := r16same_any a b mf mf W h1 h2 hff hff
        rw [decide_eq_true rfl] at this
        exact this)
      clear hmz hmf hfz hff
      go_wp2_with fail
      refine HZ.out.mono ?_
      rintro e w2 ⟨u, rfl, hm2, hc2⟩
      have hm2 := hm2.rd
      obtain ⟨a2, p2, rfl, hl2⟩ := hm2.form
      obtain ⟨lz, oz, cz⟩ := mz
      simp only [] at hl2 ⊢
      have hca := Chg.alloc (fun _ => False) w2 (.cells #[.int .i64 lz, .bool oz, .slice a2 cz.length p2] 26)
      have hmb : Mb _ _ lz oz (.slice a2 cz.length p2) := heap_alloc_new w2 (.cells #[.int .i64 lz, .bool oz, .slice a2 cz.length p2] 26)
      obtain ⟨n2, hn2⟩ : ∃ n2, cz.length = n2 := ⟨_, rfl⟩
      rw [hn2] at hca hmb hl2 ⊢
      obtain ⟨W2, hW2⟩ : ∃ W2, w2.alloc (.cells #[.int .i64 lz, .bool oz, .slice a2 n2 p2] 26) = W2 := ⟨_, rfl⟩
      rw [hW2] at hca hmb
      have hcw := (HC1.out.trans hc2 fun _ _ h => h).trans hca fun _ _ h => h
      have HF2 := Lib.hid (HF.out W2 hcw); have HMB := Lib.hid hmb; have HCW := Lib.hid hcw; have HL2 := Lib.hid (hl2.kept hca)
      clear hm2 hl2 hc2 hca hmb hcw HZ HF hn2
      go_wp2_with fail
      refine HF2.out.mono ?_
      rintro e w3 ⟨u, rfl, hm3, hc3⟩
      have hm3 := hm3.rd
      obtain ⟨a3, p3, rfl, hl3⟩ := hm3.form
      obtain ⟨lf, of, cf⟩ := mf
      simp only [] at hl3 ⊢
      have hca := Chg.alloc (fun _ => False) w3 (.cells #[.int .i64 lf, .bool of, .slice a3 cf.length p3] 26)
      have hmb3 : Mb _ _ lf of (.slice a3 cf.length p3) := heap_alloc_new w3 (.cells #[.int .i64 lf, .bool of, .slice a3 cf.length p3] 26)
      obtain ⟨n3, hn3⟩ : ∃ n3, cf.length = n3 := ⟨_, rfl⟩
      rw [hn3] at hca hmb3 hl3 ⊢
      obtain ⟨W3, hW3⟩ : ∃ W3, w3.alloc (.cells #[.int .i64 lf, .bool of, .slice a3 n3 p3] 26) = W3 := ⟨_, rfl⟩
      rw [hW3] at hca hmb3
      have hc23 := hc3.trans hca fun _ _ h => h
      have hmb2 := HMB.out.kept hc23 (by simp)
      have hcw := HCW.out.trans hc23 fun _ _ h => h
      have hl2 := HL2.out.kept hc23
      have hl3' := hl3.kept hca
      obtain ⟨b0, b1, b2⟩ := hmb2.cells
      obtain ⟨c0, c1, c2⟩ := hmb3.cells
      have HS0 := Lib.hid (show Mb W3.drew w2.heap.size lz oz (.slice a2 n2 p2) ∧ Mb W3.drew w3.heap.size lf of (.slice a3 n3 p3) ∧ RdLL W3.drew (.slice a2 n2 p2) cz ∧ RdLL W3.drew (.slice a3 n3 p3) cf ∧ Chg (fun _ => False) w W3.drew from ⟨hmb2, hmb3, hl2.kept ((Chg.refl _ _).drew), hl3'.kept ((Chg.refl _ _).drew), hcw.drew⟩)
      have HK := Lib.hid (show ∀ W W' : World, (Mb W w2.heap.size lz oz (.slice a2 n2 p2) ∧ Mb W w3.heap.size lf of (.slice a3 n3 p3) ∧ RdLL W (.slice a2 n2 p2) cz ∧ RdLL W (.slice a3 n3 p3) cf ∧ Chg (fun _ => False) w W) → Chg (fun _ => False) W W' → (Mb W' w2.heap.size lz oz (.slice a2 n2 p2) ∧ Mb W' w3.heap.size lf of (.slice a3 n3 p3) ∧ RdLL W' (.slice a2 n2 p2) cz ∧ RdLL W' (.slice a3 n3 p3) cf ∧ Chg (fun _ => False) w W') from fun W W' ⟨h1, h2, h3, h4, h5⟩ hc => ⟨h1.kept hc (by simp), h2.kept hc (by simp), h3.kept hc, h4.kept hc, h5.trans hc fun _ _ h => h⟩)
      clear hm3 hl3 hl3' hl2 hc3 hca hmb2 hmb3 hcw hc23 HMB HCW HF2 HL2 hW2 hn3
      go_wp2
      go_region_held3 (fun W => (W.cell? ⟨w2.heap.size, 0, none⟩ = some (.int .i64 lz) ∧ W.cell? ⟨w2.heap.size, 1, none⟩ = some (.bool oz) ∧ W.cell? ⟨w2.heap.size, 2, none⟩ = some (.slice a2 n2 p2)) ∧ W.cell? ⟨w3.heap.size, 0, none⟩ = some (.int .i64 lf) ∧ W.cell? ⟨w3.heap.size, 1, none⟩ = some (.bool of) ∧ W.cell? ⟨w3.heap.size, 2, none⟩ = some (.slice a3 n3 p3)) (first | exact ⟨⟨b0, b1, b2⟩, c0, c1, c2⟩ | exact ⟨HS4.out.1.cells, HS4.out.2.1.cells⟩ | exact ⟨HS5.out.1.cells, HS5.out.2.1.cells⟩ | exact ⟨HS6.out.1.cells, HS6.out.2.1.cells⟩ | exact ⟨HS7.out.1.cells, HS7.out.2.1.cells⟩) (first
        | (go_at_call 12; refine (HRZ.out _ HS0.out.2.2.2.2).mono ?_; rintro e w4 ⟨z4, rfl, hz4, hc4⟩; have HS4 := Lib.hid (HK.out _ w4 HS0.out hc4); have HZ4 := Lib.hid hz4; have HM4 := Lib.hid (show RdM w4 (.agg #[.int .i64 lz, .bool oz, .slice a2 n2 p2]) ⟨lz, oz, cz⟩ from RdLL.rdm HS4.out.2.2.1 rfl rfl); clear hz4 hc4)
        | (go_at_call 11; with_reducible refine Calls.mono (HSZ.out w4 _ _ HM4.out HZ4.out) ?_; rintro e w5 ⟨rfl, hc5⟩; have HS5 := Lib.hid (HK.out _ w5 HS4.out hc5); clear hc5)
        | (go_at_call 13; refine (HRF.out _ HS5.out.2.2.2.2).mono ?_; rintro e w6 ⟨z6, rfl, hz6, hc6⟩; have HS6 := Lib.hid (HK.out _ w6 HS5.out hc6); have HZ6 := Lib.hid hz6; have HM6 := Lib.hid (show RdM w6 (.agg #[.int .i64 lf, .bool of, .slice a3 n3 p3]) ⟨lf, of, cf⟩ from RdLL.rdm HS6.out.2.2.2.1 rfl rfl); clear hz6 hc6)
        | (go_at_call 11; with_reducible refine Calls.mono (HSF.out w6 _ _ HM6.out HZ6.out) ?_; rintro e w7 ⟨rfl, hc7⟩; have HS7 := Lib.hid (HK.out _ w7 HS6.out hc7); clear hc7))
      go_wp2
      go_ret
      exact ⟨rfl, HS7.out.2.2.2.2⟩

end Go.Proofs.Ythghlfghdmifoaa
