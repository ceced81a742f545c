/- The walks of NormOrder and NormTimes. -/
import Derived.Test.YtnijfkbnggdbnaaNmAwake
import Derived.Test.YtnijfkbnggdbnaaNmSome
namespace Go.Proofs.Ytnijfkbnggdbnaa
open Go.RowKit

theorem right_bnd {c : List Int} (h : isRight c) : ∀ z ∈ c, -9223372036854775808 ≤ z ∧ z ≤ 9223372036854775807 := by
  intro z hz
  obtain ⟨i, hi, rfl⟩ := List.mem_iff_getElem.1 hz
  have := h.one i hi
  rw [List.getD_eq_getElem?_getD, List.getElem?_eq_getElem hi] at this
  simp only [Option.getD_some] at this
  omega

set_option maxHeartbeats 4000000 in
set_option maxRecDepth 100000 in
theorem norder_any (v : Value) (xs : List Nat) (r a b : Nat) (w : World) (h : RdH w v xs) (hx : ∀ x ∈ xs, x < 65536) (hr : r < 256) (ha : a < 256) (hb : b < 256) :
    Calls Try.prog 6 #[v, .int .u8 (r : Int), .int .u8 (a : Int), .int .u8 (b : Int)] w fun e w' => Says w e w' := by
  obtain ⟨ao, cap, rfl⟩ := h.form
  have H := Lib.hid h; have HX := Lib.hid hx
  clear h hx
  by_cases hbig : 80 < xs.length
  · have hb' : decide (80 < (xs.length : Int)) = true := by simp; omega
    go_enter Try.func6, Try.ntmps6
    go_wp2_with fail
    refine (awake8_any w).mono ?_
    rintro e w1 ⟨rfl, q1⟩
    go_wp2
    go_ret
    exact ⟨rfl, q1⟩
  have hb' : decide (80 < (xs.length : Int)) = false := by simp; omega
  have hrt := (someC_right xs HX.out).1
  obtain ⟨C, hC⟩ : ∃ C, someC xs = C := ⟨_, rfl⟩
  rw [hC] at hrt
  have HC := Lib.hid hC; have HRT := Lib.hid hrt; have HCB := Lib.hid (right_bnd hrt)
  have HCL := Lib.hid hrt.1
  obtain ⟨rr, hrr⟩ : ∃ rr, r % 12 = rr := ⟨_, rfl⟩
  have hrr' : (r : Int) % 12 = (rr : Int) := by omega
  have hrr12 : rr < 12 := by omega
  clear hC hrt hrr
  go_enter Try.func6, Try.ntmps6
  go_wp2_with fail
  refine (awake8_any w).mono ?_
  rintro e w1 ⟨rfl, q1⟩
  go_wp2_with fail
  refine (r5some_any _ xs w1 (H.out.kept q1 (by simp)) HX.out (by omega)).mono ?_
  rintro e w2 ⟨v2, rfl, ho2, hc2⟩
  rw [HC.out] at ho2
  have q2 := q1.trans hc2 (fun _ _ h => h)
  clear q1 hc2
  go_wp2_with fail
  refine (ncounts_any _ C (1 + (rr : Int)) w2 ho2.rd HCB.out (by rw [HCL.out]; omega) (by omega)).mono ?_
  rintro e w3 ⟨v3, rfl, y3, n3, hc3⟩
  have q3 := q2.trans hc3 (fun _ _ h => h)
  have o2 := ho2.kept hc3 (by simp)
  clear q2 hc3 ho2
  by_cases hok : normOk C (1 + (rr : Int))
  · rw [if_pos hok]
    have o3 := y3 hok
    have hnl : (normR C (1 + (rr : Int))).length = 256 := norm_len hok.fit
    have hord := norm_order hok.fit a b ha hb
    rw [show normC C ((2 ^ (1 + (rr : Int)).toNat : Nat) : Int) = normR C (1 + (rr : Int)) from rfl] at hord
    obtain ⟨Q, hQ⟩ : ∃ Q, normR C (1 + (rr : Int)) = Q := ⟨_, rfl⟩
    rw [hQ] at o3 hnl hord
    obtain ⟨g2, o2', k2, rfl, -, -, cl2, -⟩ := o2
    obtain ⟨g3, o3', k3, rfl, -, -, cl3, -⟩ := o3
    have ca := cl2 a (by rw [HCL.out]; exact ha)
    have cb := cl2 b (by rw [HCL.out]; exact hb)
    have qa := cl3 a (by rw [hnl]; exact ha)
    have qb := cl3 b (by rw [hnl]; exact hb)
    rw [HCL.out, hnl]
    have haI : (a : Int) < 256 := by omega
    have hbI : (b : Int) < 256 := by omega
    generalize C.getD a 0 = x at *
    generalize C.getD b 0 = y at *
    generalize Q.getD a 0 = p at *
    generalize Q.getD b 0 = q at *
    clear cl2 cl3 y3 n3 hQ hnl hok
    by_cases hxy : x ≤ y
    · have d1 : decide (x ≤ y) = true := decide_eq_true hxy
      clear hord
      go_wp2
      go_quiet (fail)
      go_wp2
      go_ret
      exact ⟨rfl, q3.drewN _⟩
    · have d1 : decide (x ≤ y) = false := decide_eq_false hxy
      have hpq : q ≤ p := hord (by omega)
      have d2 : decide (q ≤ p) = true := decide_eq_true hpq
      clear hord
      go_wp2
      go_quiet (fail)
      go_wp2
      go_ret
      exact ⟨rfl, q3.drewN _⟩
  · rw [if_neg hok]
    obtain ⟨a3, k3, rfl⟩ := (n3 hok).form
    rw [List.length_nil]
    clear y3 n3 hok o2
    go_wp2
    go_ret
    exact ⟨rfl, q3⟩

theorem pos_times (c : List Int) (f : Int) (hf : 0 < f) : pos (c.map (· * f)) = pos c := by
  induction c with
  | nil => rfl
  | cons x r ih =>
    simp only [List.map_cons, pos, ih]
    by_cases hx : 0 < x
    · rw [if_pos hx, if_pos (Int.mul_pos hx hf)]
    · rw [if_neg hx, if_neg (by
        have : x * f ≤ 0 := Int.mul_nonpos_of_nonpos_of_nonneg (by omega) (by omega)
        omega)]

theorem times_right {c : List Int} (h : isRight c) (ht : tot c ≤ 2621400) (f : Int) (hf : 0 < f) (hf2 : f ≤ 256) : isRight (c.map (· * f)) := by
  refine ⟨by rw [List.length_map]; exact h.1, fun z hz => ?_, ?_⟩
  · obtain ⟨x, hx, rfl⟩ := List.mem_map.1 hz
    exact Int.mul_nonneg (h.2.1 x hx) (by omega)
  · rw [tot_times]
    have := Int.mul_le_mul ht hf2 (by omega) (by omega)
    omega

theorem times_ok {c : List Int} (h : isRight c) (ht : tot c ≤ 2621400) (f : Int) (hf : 0 < f) (hf2 : f ≤ 256) (r : Int) : normOk (c.map (· * f)) r ↔ normOk c r := by
  unfold normOk
  rw [pos_times c f hf, tot_times]
  have hp : 0 < tot c * f ↔ 0 < tot c := by
    constructor
    · intro h0
      rcases Int.lt_or_le 0 (tot c) with h1 | h1
      · exact h1
      · have := Int.mul_nonpos_of_nonpos_of_nonneg h1 (show 0 ≤ f by omega); omega
    · intro h0; exact Int.mul_pos h0 hf
  rw [hp]
  exact ⟨fun hh => ⟨h, hh.2⟩, fun hh => ⟨times_right h ht f hf hf2, hh.2⟩⟩

set_option maxHeartbeats 4000000 in
set_option maxRecDepth 100000 in
theorem ntimes_any (v : Value) (xs : List Nat) (r f : Nat) (w : World) (h : RdH w v xs) (hx : ∀ x ∈ xs, x < 65536) (hr : r < 256) (hf : f < 256) :
    Calls Try.prog 8 #[v, .int .u8 (r : Int), .int .u8 (f : Int)] w fun e w' => Says w e w' := by
  obtain ⟨ao, cap, rfl⟩ := h.form
  have H := Lib.hid h; have HX := Lib.hid hx
  clear h hx
  by_cases hbig : 80 < xs.length
  · have hb' : decide (80 < (xs.length : Int)) = true := by simp; omega
    go_enter Try.func8, Try.ntmps8
    go_wp2_with fail
    refine (awake8_any w).mono ?_
    rintro e w1 ⟨rfl, q1⟩
    go_wp2
    go_ret
    exact ⟨rfl, q1⟩
  have hb' : decide (80 < (xs.length : Int)) = false := by simp; omega
  obtain ⟨hrt, htot⟩ := someC_right xs HX.out
  obtain ⟨C, hC⟩ : ∃ C, someC xs = C := ⟨_, rfl⟩
  rw [hC] at hrt htot
  have hrt2 := times_right hrt htot ((f : Int) + 1) (by omega) (by omega)
  have hokk := fun k => times_ok hrt htot ((f : Int) + 1) (by omega) (by omega) k
  have hnm : ∀ k, normR (C.map (· * ((f : Int) + 1))) k = normR C k := fun k => norm_times hrt.2.1 (by omega)
  have hone : ∀ s, s < 256 → 0 ≤ C.getD s 0 ∧ C.getD s 0 ≤ 1073741824 := fun s hs => hrt.one s (by rw [hrt.1]; exact hs)
  have hfall : fillI (fun i => C.getD i 0 * ((f : Int) + 1)) 256 = C.map (· * ((f : Int) + 1)) := fillI_all _ _ (by rw [List.length_map]; exact hrt.1) (fun s hs => mapI_getD C _ s (by rw [hrt.1]; exact hs))
  obtain ⟨D, hD⟩ : ∃ D, C.map (· * ((f : Int) + 1)) = D := ⟨_, rfl⟩
  rw [hD] at hrt2 hfall
  have hokD : ∀ k, normOk D k ↔ normOk C k := fun k => by rw [← hD]; exact hokk k
  have hnmD : ∀ k, normR D k = normR C k := fun k => by rw [← hD]; exact hnm k
  have HC := Lib.hid hC; have HCB := Lib.hid (right_bnd hrt); have HDB := Lib.hid (right_bnd hrt2)
  have HCL := Lib.hid hrt.1; have HDL := Lib.hid hrt2.1; have HONE := Lib.hid hone; have HFA := Lib.hid hfall; have HOKD := Lib.hid hokD; have HNMD := Lib.hid hnmD
  obtain ⟨rr, hrr⟩ : ∃ rr, r % 12 = rr := ⟨_, rfl⟩
  have hrr' : (r : Int) % 12 = (rr : Int) := by omega
  have hrr12 : rr < 12 := by omega
  clear hC hrt hrr htot hrt2 hokk hnm hone hfall hD hokD hnmD
  go_enter Try.func8, Try.ntmps8
  go_wp2_with fail
  refine (awake8_any w).mono ?_
  rintro e w1 ⟨rfl, q1⟩
  go_wp2_with fail
  refine (r5some_any _ xs w1 (H.out.kept q1 (by simp)) HX.out (by omega)).mono ?_
  rintro e w2 ⟨v2, rfl, ho2, hc2⟩
  rw [HC.out] at ho2
  have q2 := q1.trans hc2 (fun _ _ h => h)
  obtain ⟨g2, o2, k2, rfl, hg2, hgl2, cl2, -⟩ := id ho2
  have hrd2 := ho2.rd
  rw [HCL.out] at hrd2 ⊢
  have RD2 := Lib.hid hrd2; have Q2 := Lib.hid q2; have CL2 := Lib.hid cl2; have HGL2 := Lib.hid hgl2
  have HWS := Lib.hid (show w.heap.size ≤ w2.heap.size from q2.size)
  clear q1 hc2 ho2 hrd2 q2 cl2 hgl2 hg2
  go_wp2_with (at_make; refine wpList_make_ints rfl _ _ rfl 256 256 256 rfl rfl rfl rfl (by omega) (fillI (fun i => C.getD i 0 * ((f : Int) + 1)) 0) (fillI_zero _) ?_)
  intro w3 r3 c3
  obtain ⟨gd, hgd⟩ : ∃ gd, gd = w2.heap.size := ⟨_, rfl⟩
  rw [← hgd] at r3 ⊢
  have R3 := Lib.hid r3; have C3 := Lib.hid c3
  have HGD := Lib.hid hgd
  clear r3 c3 hgd
  go_wp2
  go_loopw [10] (fun o10 wr => ∃ s : Nat, s ≤ 256 ∧ o10 = .int .i64 (s : Int) ∧ RowI wr gd 3 (fillI (fun i => C.getD i 0 * ((f : Int) + 1)) s) ∧ Chg (fun _ => False) w2 wr) (fun o10 _ => 256 - (intOf o10).toNat)
  case atStart => exact ⟨0, Nat.zero_le _, rfl, R3.out, C3.out⟩
  case round =>
    obtain ⟨s, hs, rfl, row, hc⟩ := hrel
    clear R3 C3
    by_cases hlt : s < 256
    · have d8 : decide ((s : Int) < 256) = true := by simp; omega
      have hsI : (s : Int) < 256 := by omega
      have cx := CL2.out s (by rw [HCL.out]; exact hlt)
      have cxw : wr.cell? ⟨g2, o2 + s, none⟩ = some (.int .i64 (C.getD s 0)) := by rw [World.cell?_of_block (w := w2) (hc.block g2 HGL2.out (by simp))]; exact cx
      have hb := HONE.out s hlt
      have a0 := row.cell s (by rw [fillI_length]; exact hlt)
      have f0 := row.free s
      have fs := fillI_set (fun i => C.getD i 0 * ((f : Int) + 1)) s hlt
      obtain ⟨x, hx⟩ : ∃ x, C.getD s 0 = x := ⟨_, rfl⟩
      rw [hx] at cxw hb
      simp only [hx] at fs
      obtain ⟨hx0, hx1⟩ := hb
      have hm0 : 0 ≤ x * ((f : Int) + 1) := Int.mul_nonneg hx0 (by omega)
      have hm1 : x * ((f : Int) + 1) ≤ 1073741824 * 256 := Int.mul_le_mul hx1 (by omega) (by omega) (by omega)
      obtain ⟨P, hP⟩ : ∃ P, x * ((f : Int) + 1) = P := ⟨_, rfl⟩
      rw [hP] at fs hm0 hm1
      have r2 := row.set s P
      rw [fs] at r2
      have c2 : Chg (fun _ => False) w2 (wr.setCell ⟨gd, s, none⟩ (.int .i64 P)) := hc.trans (Chg.setCell wr ⟨gd, s, none⟩ _) (fun q hq hh => by have := HGD.out; simp at hh; omega)
      generalize (fillI (fun i => C.getD i 0 * ((f : Int) + 1)) s).getD s 0 = old at a0
      have hm2 : P ≤ 274877906944 := by omega
      have R2 := Lib.hid r2; have C2 := Lib.hid c2
      clear r2 c2 row hc cx fs hx hm1
      go_wp2
      go_roundw
      case rel => exact ⟨s + 1, by omega, by go_num, R2.out, C2.out⟩
      case measure => simp [intOf]; omega
    · have hse : s = 256 := by omega
      have hsI : (s : Int) = 256 := by omega
      rw [hse, HFA.out] at row
      rw [hsI]
      have rdD := row.rd 256
      rw [HDL.out] at rdD
      have rdC := RD2.out.kept hc (by simp)
      have qq := Q2.out.trans hc (fun _ _ h => h)
      have RDD := Lib.hid rdD; have RDC := Lib.hid rdC; have QQ := Lib.hid qq
      clear hse hsI hs hlt row rdD rdC qq hc
      go_wp2_with fail
      refine (ncounts_any _ C (1 + (rr : Int)) wr RDC.out HCB.out (by rw [HCL.out]; omega) (by omega)).mono ?_
      rintro e w5 ⟨v5, rfl, y5, n5, hc5⟩
      have q5 := Lib.hid (QQ.out.trans hc5 (fun _ _ h => h))
      have rd5 := Lib.hid (RDD.out.kept hc5 (by simp))
      have hE : ∃ E : Int, (if normOk C (1 + (rr : Int)) then (0 : Int) else 1) = E := ⟨_, rfl⟩
      obtain ⟨E, hE⟩ := hE
      rw [hE]
      clear hc5
      go_wp2_with fail
      refine (ncounts_any _ D (1 + (rr : Int)) w5 rd5.out HDB.out (by rw [HDL.out]; omega) (by omega)).mono ?_
      rintro e w6 ⟨v6, rfl, y6, n6, hc6⟩
      have hE2 : (if normOk D (1 + (rr : Int)) then (0 : Int) else 1) = E := by
        rw [← hE]
        by_cases hk : normOk C (1 + (rr : Int))
        · rw [if_pos hk, if_pos ((HOKD.out _).2 hk)]
        · rw [if_neg hk, if_neg (fun hh => hk ((HOKD.out _).1 hh))]
      rw [hE2]
      have q6 := q5.out.trans hc6 (fun _ _ h => h)
      by_cases hok : normOk C (1 + (rr : Int))
      · have o5 := ((y5 hok).kept hc6 (by simp)).rd
        have o6 := (y6 ((HOKD.out _).2 hok)).rd
        rw [HNMD.out] at o6
        have hlen : (normR C (1 + (rr : Int))).length < 100000000000 := by rw [show (normR C (1 + (rr : Int))).length = 256 from norm_len hok.fit]; omega
        have O5 := Lib.hid o5; have O6 := Lib.hid o6; have HLEN := Lib.hid hlen
        clear y5 n5 y6 n6 hc6 hE hE2 o5 o6 hlen hok q5 rd5
        go_wp2_with fail
        refine (ints_c _ _ (normR C (1 + (rr : Int))) (normR C (1 + (rr : Int))) w6 O6.out O5.out HLEN.out HLEN.out).mono ?_
        rintro e w7 ⟨rfl, hc7⟩
        rw [decide_eq_true rfl]
        have q7 := q6.trans hc7 (fun _ _ h => h)
        clear q6 hc7
        go_wp2
        go_ret
        exact ⟨rfl, q7⟩
      · have o5 := (n5 hok).kept hc6 (by simp)
        have o6 := n6 (fun hh => hok ((HOKD.out _).1 hh))
        have O5 := Lib.hid o5; have O6 := Lib.hid o6
        clear y5 n5 y6 n6 hc6 hE hE2 o5 o6 hok q5 rd5
        go_wp2_with fail
        refine (ints_c _ _ [] [] w6 O6.out O5.out (by simp) (by simp)).mono ?_
        rintro e w7 ⟨rfl, hc7⟩
        rw [decide_eq_true rfl]
        have q7 := q6.trans hc7 (fun _ _ h => h)
        clear q6 hc7
        go_wp2
        go_ret
        exact ⟨rfl, q7⟩

end Go.Proofs.Ytnijfkbnggdbnaa
