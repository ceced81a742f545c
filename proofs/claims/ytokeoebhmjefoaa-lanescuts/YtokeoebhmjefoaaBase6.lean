/- Texts that other texts of this claim rest on, one behind the other (LnTk LnProg LnEx LnAwake LnEnc LnDecB NmRefC CxRefW MdRefD CxMathB MdRefE MdOff MdOf OpInts OpIntsC MdFew OpModel SlUpto). -/
import Derived.Test.YtokeoebhmjefoaaBase5
import Derived.Deep.CutRange
import Derived.Lib.SmallJoins
import Derived.Deep.Slices
/- What takeStates tells. THIS SPEAKS OF THE PROGRAM'S OWN TEXT. -/
namespace Go.Proofs.Ytokeoebhmjefoaa
open Go.RowKit

set_option maxRecDepth 100000 in
set_option maxHeartbeats 1000000 in
theorem ltakest_any (b g : Nat) (bs : List Bool) (R : Nat) (w : World) (h : Rr w b g bs) (hR : R ≤ 12) :
    Calls Try.prog 30 #[.pointer (some ⟨b, 0, none⟩), .int .i64 (R : Int)] w fun e w' => ∃ x y : Nat, e = .returned (.tuple #[.agg #[.int .i64 (x : Int), .int .i64 (y : Int)], .bool (decide (2 * R ≤ bs.length))]) ∧ (2 * R ≤ bs.length → x = takeV bs R ∧ y = takeV (takeR bs R) R ∧ Rr w' b g (takeR (takeR bs R) R)) ∧ Chg (fun k => k = b) w w' := by
  have h2 := pow12 (k := R) hR
  have ca := Chg.alloc (fun _ => False) w (.cells #[.int .i64 0, .int .i64 0] 58)
  have hst : (w.alloc (.cells #[.int .i64 0, .int .i64 0] 58)).heap[w.heap.size]? = some (.cells #[.int .i64 0, .int .i64 0] 58 (0, 0)) := heap_alloc_new w _
  have hlt := h.lt
  have hra := h.kept ca (by simp) (by simp)
  obtain ⟨W, hW⟩ : ∃ W, w.alloc (.cells #[.int .i64 0, .int .i64 0] 58) = W := ⟨_, rfl⟩
  rw [hW] at ca hst hra
  obtain ⟨A, hA⟩ : ∃ A, w.heap.size = A := ⟨_, rfl⟩
  rw [hA] at hst hlt
  have HW := Lib.hid hW; have CA := Lib.hid ca; have HA := Lib.hid hA; have HST := Lib.hid hst; have HLT := Lib.hid hlt
  have HT := Lib.hid fun V (bs : List Bool) (hV : Rr V b g bs) => take_any b g bs (R : Int) V hV
  have hRI : (R : Int) ≤ 12 := by omega
  have fin : ∀ V, Chg (fun k => k = b) W V → V.cell? ⟨A, 0, none⟩ = some (.int .i64 0) ∧ V.cell? ⟨A, 1, none⟩ = some (.int .i64 0) ∧ V.frozen? ⟨A, 0, none⟩ = false ∧ V.frozen? ⟨A, 1, none⟩ = false ∧ V.heap[A]? = some (.cells #[.int .i64 0, .int .i64 0] 58 (0, 0)) ∧ b ≠ A ∧ g ≠ A ∧ Chg (fun k => k = b) w V := fun V hc => by
    have hr := (hc.block A (lt_of_block hst) (by omega)).trans hst
    exact ⟨by rw [cell_of_row V _ 0 _ _ _ hr]; rfl, by rw [cell_of_row V _ 1 _ _ _ hr]; rfl, frozen_of_row V _ 0 _ _ hr, frozen_of_row V _ 1 _ _ hr, hr, by omega, by omega, (ca.mono fun _ _ h => h.elim).trans hc fun _ _ h => h⟩
  have FIN := Lib.hid fin
  have HR := Lib.hid hra
  clear h hW ca hA hst hlt hra fin
  by_cases h1 : R ≤ bs.length
  · have hx := takeV_lt bs R
    obtain ⟨x, hxe⟩ : ∃ x, takeV bs R = x := ⟨_, rfl⟩
    obtain ⟨cs, hcs⟩ : ∃ cs, takeR bs R = cs := ⟨_, rfl⟩
    have hlen : cs.length = bs.length - R := by rw [← hcs]; exact takeR_length bs R
    have T1 := Lib.hid (show Calls Try.prog 54 #[.pointer (some ⟨b, 0, none⟩), .int .i64 (R : Int)] W fun e w' => e = .returned (.tuple #[.int .u32 (x : Int), .bool true]) ∧ Rr w' b g cs ∧ Chg (fun k => k = b) W w' from (HT.out W bs HR.out).mono fun e w' hh => by
      rcases hh with ⟨q, e1, -, -, e2, e3, e4⟩ | ⟨e1, -, -⟩
      · obtain rfl : R = q := by omega
        rw [hxe, hcs] at *
        exact ⟨e2, e3, e4⟩
      · omega)
    rw [hxe] at hx
    rw [hcs]
    have hxI : (x : Int) < 4096 := by omega
    have HXE := Lib.hid hxe
    by_cases h3 : R ≤ cs.length
    · have hy := takeV_lt cs R
      obtain ⟨y, hye⟩ : ∃ y, takeV cs R = y := ⟨_, rfl⟩
      obtain ⟨ds, hds⟩ : ∃ ds, takeR cs R = ds := ⟨_, rfl⟩
      rw [hye] at hy
      have hyI : (y : Int) < 4096 := by omega
      rw [hds, hye, hxe, decide_eq_true (show 2 * R ≤ bs.length by omega)]
      have T2 := Lib.hid (show ∀ V, Rr V b g cs → Calls Try.prog 54 #[.pointer (some ⟨b, 0, none⟩), .int .i64 (R : Int)] V fun e w' => e = .returned (.tuple #[.int .u32 (y : Int), .bool true]) ∧ Rr w' b g ds ∧ Chg (fun k => k = b) V w' from fun V hV => (HT.out V cs hV).mono fun e w' hh => by
        rcases hh with ⟨q, e1, -, -, e2, e3, e4⟩ | ⟨e1, -, -⟩
        · obtain rfl : R = q := by omega
          rw [hye, hds] at *
          exact ⟨e2, e3, e4⟩
        · omega)
      clear HT HR hx hy hxe hcs hye hds h2 h1 h3 hlen
      go_enter Try.func30, Try.ntmps30
      go_upto_region 1 with fail
      rw [HW.out, HA.out]
      go_wp2_with fail
      refine T1.out.mono ?_
      rintro e W2 ⟨rfl, hr2, c2⟩
      have HR2 := Lib.hid hr2; have C2 := Lib.hid c2
      clear hr2 c2 T1
      go_wp2_with fail
      refine (T2.out W2 HR2.out).mono ?_
      rintro e W3 ⟨rfl, hr3, c3⟩
      have C3 := Lib.hid (C2.out.trans c3 fun _ _ h => h); have HR3 := Lib.hid hr3
      clear hr3 c3 T2
      obtain ⟨q0, q1, f0, f1, hrow, hbA, hgA, hcw⟩ := FIN.out W3 (C3.out)
      have HROW := Lib.hid hrow; have HCW := Lib.hid hcw; have HBA := Lib.hid hbA; have HGA := Lib.hid hgA
      clear hrow hcw hbA hgA
      go_wp2
      have ca := Chg.setCell W3 ⟨A, 0, none⟩ (.int .i64 (x : Int))
      have cb := Chg.setCell (W3.setCell ⟨A, 0, none⟩ (.int .i64 (x : Int))) ⟨A, 1, none⟩ (.int .i64 (y : Int))
      have hcab : Chg (fun q => q = A) W3 ((W3.setCell ⟨A, 0, none⟩ (.int .i64 (x : Int))).setCell ⟨A, 1, none⟩ (.int .i64 (y : Int))) := ca.trans cb fun _ _ h => h
      have hrow : ((W3.setCell ⟨A, 0, none⟩ (.int .i64 (x : Int))).setCell ⟨A, 1, none⟩ (.int .i64 (y : Int))).heap[A]? = some (.cells #[.int .i64 (x : Int), .int .i64 (y : Int)] 58 (0, 0)) := by
        have h1 := heap_setCell_same W3 A 0 _ _ (.int .i64 (x : Int)) HROW.out
        rw [heap_setCell_same _ A 1 _ _ _ h1]; rfl
      obtain ⟨W7, hW7⟩ : ∃ U, ((W3.setCell ⟨A, 0, none⟩ (.int .i64 (x : Int))).setCell ⟨A, 1, none⟩ (.int .i64 (y : Int))) = U := ⟨_, rfl⟩
      rw [hW7] at hcab hrow ⊢
      have K5 : W7.cell? ⟨A, 0, none⟩ = some (.int .i64 (x : Int)) := by rw [cell_of_row W7 _ 0 _ _ _ hrow]; rfl
      have K6 : W7.cell? ⟨A, 1, none⟩ = some (.int .i64 (y : Int)) := by rw [cell_of_row W7 _ 1 _ _ _ hrow]; rfl
      have hcw7 : Chg (fun k => k = b) w W7 := HCW.out.trans hcab fun q hq he => by have := HA.out; omega
      clear q0 q1 f0 f1 ca cb
      refine bodyPost_ret (v := .tuple #[.agg #[.int .i64 (x : Int), .int .i64 (y : Int)], .bool true]) (by simp [results, Try.results30, go_sem, K5, K6]) rfl ?_
      exact ⟨x, y, rfl, fun _ => ⟨rfl, rfl, HR3.out.kept hcab HBA.out HGA.out⟩, hcw7⟩
    · rw [decide_eq_false (show ¬ 2 * R ≤ bs.length by omega)]
      have HNO := Lib.hid (show ¬ 2 * R ≤ bs.length by omega)
      have T2 := Lib.hid (show ∀ V, Rr V b g cs → Calls Try.prog 54 #[.pointer (some ⟨b, 0, none⟩), .int .i64 (R : Int)] V fun e w' => e = .returned (.tuple #[.int .u32 0, .bool false]) ∧ V = w' from fun V hV => (HT.out V cs hV).mono fun e w' hh => by
        rcases hh with ⟨q, e1, -, e0, -, -, -⟩ | ⟨-, e2, e3⟩
        · omega
        · exact ⟨e2, e3⟩)
      clear HT HR hx hxe hcs h2 h1 h3 hlen
      go_enter Try.func30, Try.ntmps30
      go_upto_region 1 with fail
      rw [HW.out, HA.out]
      go_wp2_with fail
      refine T1.out.mono ?_
      rintro e W2 ⟨rfl, hr2, c2⟩
      have HR2 := Lib.hid hr2; have C2 := Lib.hid c2
      clear hr2 c2 T1
      go_wp2_with fail
      refine (T2.out W2 HR2.out).mono ?_
      rintro e W3 ⟨rfl, rfl⟩
      clear T2
      obtain ⟨q0, q1, f0, f1, hrow, hbA, hgA, hcw⟩ := FIN.out W2 (C2.out)
      have HROW := Lib.hid hrow; have HCW := Lib.hid hcw; have HBA := Lib.hid hbA; have HGA := Lib.hid hgA
      clear hrow hcw hbA hgA
      go_wp2
      have ca := Chg.setCell W2 ⟨A, 0, none⟩ (.int .i64 (x : Int))
      have cb := Chg.setCell (W2.setCell ⟨A, 0, none⟩ (.int .i64 (x : Int))) ⟨A, 1, none⟩ (.int .i64 0)
      have hcab : Chg (fun q => q = A) W2 ((W2.setCell ⟨A, 0, none⟩ (.int .i64 (x : Int))).setCell ⟨A, 1, none⟩ (.int .i64 0)) := ca.trans cb fun _ _ h => h
      have hrow : ((W2.setCell ⟨A, 0, none⟩ (.int .i64 (x : Int))).setCell ⟨A, 1, none⟩ (.int .i64 0)).heap[A]? = some (.cells #[.int .i64 (x : Int), .int .i64 0] 58 (0, 0)) := by
        have h1 := heap_setCell_same W2 A 0 _ _ (.int .i64 (x : Int)) HROW.out
        rw [heap_setCell_same _ A 1 _ _ _ h1]; rfl
      obtain ⟨W7, hW7⟩ : ∃ U, ((W2.setCell ⟨A, 0, none⟩ (.int .i64 (x : Int))).setCell ⟨A, 1, none⟩ (.int .i64 0)) = U := ⟨_, rfl⟩
      rw [hW7] at hcab hrow ⊢
      have K5 : W7.cell? ⟨A, 0, none⟩ = some (.int .i64 (x : Int)) := by rw [cell_of_row W7 _ 0 _ _ _ hrow]; rfl
      have K6 : W7.cell? ⟨A, 1, none⟩ = some (.int .i64 0) := by rw [cell_of_row W7 _ 1 _ _ _ hrow]; rfl
      have hcw7 : Chg (fun k => k = b) w W7 := HCW.out.trans hcab fun q hq he => by have := HA.out; omega
      clear q0 q1 f0 f1 ca cb
      refine bodyPost_ret (v := .tuple #[.agg #[.int .i64 (x : Int), .int .i64 0], .bool false]) (by simp [results, Try.results30, go_sem, K5, K6]) rfl ?_
      exact ⟨x, 0, rfl, fun hh => absurd hh HNO.out, hcw7⟩
  · rw [decide_eq_false (show ¬ 2 * R ≤ bs.length by omega)]
    have HNO := Lib.hid (show ¬ 2 * R ≤ bs.length by omega)
    have T2 := Lib.hid (show ∀ V, Rr V b g bs → Calls Try.prog 54 #[.pointer (some ⟨b, 0, none⟩), .int .i64 (R : Int)] V fun e w' => e = .returned (.tuple #[.int .u32 0, .bool false]) ∧ V = w' from fun V hV => (HT.out V bs hV).mono fun e w' hh => by
      rcases hh with ⟨q, e1, -, e0, -, -, -⟩ | ⟨-, e2, e3⟩
      · omega
      · exact ⟨e2, e3⟩)
    clear HT h2 h1
    go_enter Try.func30, Try.ntmps30
    go_upto_region 1 with fail
    rw [HW.out, HA.out]
    go_wp2_with fail
    refine (T2.out W HR.out).mono ?_
    rintro e W2 ⟨rfl, rfl⟩
    go_wp2_with fail
    refine (T2.out W HR.out).mono ?_
    rintro e W3 ⟨rfl, rfl⟩
    clear T2
    obtain ⟨q0, q1, f0, f1, hrow, hbA, hgA, hcw⟩ := FIN.out W (Chg.refl _ _)
    have HROW := Lib.hid hrow; have HCW := Lib.hid hcw; have HBA := Lib.hid hbA; have HGA := Lib.hid hgA
    clear hrow hcw hbA hgA
    go_wp2
    have ca := Chg.setCell W ⟨A, 0, none⟩ (.int .i64 0)
    have cb := Chg.setCell (W.setCell ⟨A, 0, none⟩ (.int .i64 0)) ⟨A, 1, none⟩ (.int .i64 0)
    have hcab : Chg (fun q => q = A) W ((W.setCell ⟨A, 0, none⟩ (.int .i64 0)).setCell ⟨A, 1, none⟩ (.int .i64 0)) := ca.trans cb fun _ _ h => h
    have hrow : ((W.setCell ⟨A, 0, none⟩ (.int .i64 0)).setCell ⟨A, 1, none⟩ (.int .i64 0)).heap[A]? = some (.cells #[.int .i64 0, .int .i64 0] 58 (0, 0)) := by
      have h1 := heap_setCell_same W A 0 _ _ (.int .i64 0) HROW.out
      rw [heap_setCell_same _ A 1 _ _ _ h1]; rfl
    obtain ⟨W7, hW7⟩ : ∃ U, ((W.setCell ⟨A, 0, none⟩ (.int .i64 0)).setCell ⟨A, 1, none⟩ (.int .i64 0)) = U := ⟨_, rfl⟩
    rw [hW7] at hcab hrow ⊢
    have K5 : W7.cell? ⟨A, 0, none⟩ = some (.int .i64 0) := by rw [cell_of_row W7 _ 0 _ _ _ hrow]; rfl
    have K6 : W7.cell? ⟨A, 1, none⟩ = some (.int .i64 0) := by rw [cell_of_row W7 _ 1 _ _ _ hrow]; rfl
    have hcw7 : Chg (fun k => k = b) w W7 := HCW.out.trans hcab fun q hq he => by have := HA.out; omega
    clear q0 q1 f0 f1 ca cb
    refine bodyPost_ret (v := .tuple #[.agg #[.int .i64 0, .int .i64 0], .bool false]) (by simp [results, Try.results30, go_sem, K5, K6]) rfl ?_
    exact ⟨0, 0, rfl, fun hh => absurd hh HNO.out, hcw7⟩

end Go.Proofs.Ytokeoebhmjefoaa

/- What lanes' Decode tells (Encode's and Bits' contracts stand in LnProgA). THIS SPEAKS OF THE PROGRAM'S OWN TEXT. -/
namespace Go.Proofs.Ytokeoebhmjefoaa
open Go.RowKit

theorem two_new (W : World) (x y : Nat) : ∃ V, W.alloc (.cells #[.int .i64 (x : Int), .int .i64 (y : Int)] 58) = V ∧ Chg (fun _ => False) W V ∧ Stt V W.heap.size x y :=
  ⟨_, rfl, Chg.alloc _ W _, heap_alloc_new W _⟩

set_option maxRecDepth 100000 in
set_option maxHeartbeats 4000000 in
theorem ldecode_says (v u : Value) (m : Md) (ps : List Nat) (n : Int) (w : World) (h : RdM w v m) (hf : m.fit64) (hb : RdB w u ps) (hx : ∀ x ∈ ps, x < 256) (hl : ps.length < 1000000) (hn : -9223372036854775808 ≤ n ∧ n ≤ 9223372036854775807) :
    Calls Try.prog 16 #[v, u, .int .i64 n] w fun e w' => ForSays (lnRes m ps n) w e w' := by
  obtain ⟨cv, rfl, h1⟩ := h
  obtain ⟨ao, cap, rfl⟩ := h1.form
  obtain ⟨ab, capb, rfl⟩ := hb.form
  obtain ⟨res, hres⟩ : ∃ res, lnRes m ps n = res := ⟨_, rfl⟩
  rw [hres]
  have hca := Chg.alloc (fun _ => False) w (.cells #[.int .i64 m.log, .bool m.one, .slice ao m.cs.length cap] 24)
  have hmb : Mb _ _ m.log m.one (.slice ao m.cs.length cap) := heap_alloc_new w (.cells #[.int .i64 m.log, .bool m.one, .slice ao m.cs.length cap] 24)
  have hll := h1.kept hca
  have hbl := hb.kept hca (by simp)
  obtain ⟨W1, hW1⟩ : ∃ W, w.alloc (.cells #[.int .i64 m.log, .bool m.one, .slice ao m.cs.length cap] 24) = W := ⟨_, rfl⟩
  rw [hW1] at hca hmb hll hbl
  obtain ⟨b0, b1, b2⟩ := hmb.cells
  have hri := mright_any (mdv m (.slice ao m.cs.length cap)) m W1 ⟨_, rfl, hll⟩ hf
  unfold mdv at hri ⊢
  obtain ⟨N, hN⟩ : ∃ N, ps.length = N := ⟨_, rfl⟩
  have HRES := Lib.hid hres; have HW1 := Lib.hid hW1; have HCA := Lib.hid hca; have HMB := Lib.hid hmb; have HLL := Lib.hid hll; have HBL := Lib.hid hbl; have HRI := Lib.hid hri; have HX := Lib.hid hx; have HN := Lib.hid hN; have HLN := Lib.hid hl
  rw [hN]
  obtain ⟨hn0, hn1⟩ := hn
  clear hres hW1 hca hmb hll hbl hri hx hN hl h1 hb hf
  by_cases hn2 : n < 0
  · have d1 : decide (n < 0) = true := decide_eq_true hn2
    have HE := Lib.hid (show lnRes m ps n = .error 1 from by unfold lnRes; rw [if_neg fun hh => by omega])
    go_enter Try.func16, Try.ntmps16
    go_upto_region 1 with fail
    rw [HW1.out]
    go_wp2
    go_ret2
    exact forSays_err (HRES.out.symm.trans HE.out) rfl HCA.out
  · have d1 : decide (n < 0) = false := decide_eq_false hn2
    by_cases hn3 : 131072 < n
    · have d2 : decide (131072 < n) = true := decide_eq_true hn3
      have HE := Lib.hid (show lnRes m ps n = .error 1 from by unfold lnRes; rw [if_neg fun hh => by omega])
      go_enter Try.func16, Try.ntmps16
      go_upto_region 1 with fail
      rw [HW1.out]
      go_wp2
      go_ret2
      exact forSays_err (HRES.out.symm.trans HE.out) rfl HCA.out
    · have d2 : decide (131072 < n) = false := decide_eq_false hn3
      by_cases hr : m.right
      · rw [decide_eq_true hr] at HRI
        obtain ⟨-, hR2, hR3⟩ := RM_le hr
        obtain ⟨K, rfl⟩ := Int.eq_ofNat_of_zero_le (show 0 ≤ n by omega)
        have hok : m.right ∧ 0 ≤ (K : Int) ∧ (K : Int) ≤ 131072 := ⟨hr, by omega, by omega⟩
        have HR := Lib.hid hr; have HR2 := Lib.hid hR2; have HR3 := Lib.hid hR3; have HOK := Lib.hid hok
        clear hr hR2 hR3 hok
        by_cases hm : Marked ps
        · have HM := Lib.hid hm
          have hmf : ∀ (fn : Fn) (first cap : Array Value) (w : World), (Instr.makeFunc fn first cap).run Try.prog w = .ok (.func fn first cap) w := fun _ _ _ _ => rfl
          clear hm
          go_enter Try.func16, Try.ntmps16
          go_upto_region 1 with fail
          rw [HW1.out]
          go_wp2_with fail
          refine HRI.out.mono ?_
          rintro e W2 ⟨rfl, hc2⟩
          have hmb2 := HMB.out.kept hc2 (by simp)
          have HMB2 := Lib.hid hmb2; have C2 := Lib.hid hc2
          have hb2 := HBL.out.kept hc2 (by simp)
          have HNEW := Lib.hid (rnew_ok _ ps W2 hb2 HM.out (by have := HLN.out; omega) HX.out)
          rw [HN.out] at HNEW
          clear hc2 hb2 HRI b0 b1 b2 hmb2
          go_wp2_with fail
          refine HNEW.out.mono ?_
          rintro e W3 ⟨rb, rg, rfl, hr3, hlb, hlg, hc3⟩
          have hmb3 := HMB2.out.kept hc3 (by simp)
          obtain ⟨b0, b1, b2⟩ := hmb3.cells
          have hts := ltakest_any rb rg (openB ps) (RM m) W3 hr3 HR2.out
          rw [HR3.out] at hts
          have HTS := Lib.hid hts; have C3 := Lib.hid (C2.out.trans hc3 fun _ _ h => h); have HMB3 := Lib.hid hmb3; have HLB := Lib.hid (Nat.le_trans C2.out.size hlb); have HLG := Lib.hid (Nat.le_trans C2.out.size hlg)
          clear hr3 hlb hlg hc3 hmb3 hts HNEW
          go_wp2_with fail
          refine HTS.out.mono ?_
          rintro e W4 ⟨x, y, rfl, htk, hc4⟩
          have hbm : ¬ (w.heap.size = rb) := by have := HLB.out; have := lt_of_block HMB.out; omega
          have C4 := Lib.hid (C3.out.trans hc4 fun k hk he => by subst he; have := HLB.out; omega)
          have hmb4 := HMB3.out.kept hc4 hbm
          by_cases hlen : 2 * RM m ≤ (openB ps).length
          · obtain ⟨hx1, hy1, hr4⟩ := htk hlen
            have HE := Lib.hid (show lnRes m ps (K : Int) = finD (decG (tabM m) K 0 0 (takeR (takeR (openB ps) (RM m)) (RM m)) (x, y)) from by
              unfold lnRes
              rw [if_pos HOK.out, if_pos HM.out, Int.toNat_natCast, lnDec_fin (by omega), hx1, hy1])
            have hxl : x < 2 ^ RM m := by rw [hx1]; exact takeV_lt _ _
            have hyl : y < 2 ^ RM m := by rw [hy1]; exact takeV_lt _ _
            rw [decide_eq_true hlen]
            obtain ⟨W5, hW5, c5, st5⟩ := two_new W4 x y
            have hmb5 := hmb4.kept c5 (by simp)
            have hr5 := hr4.kept c5 (by simp) (by simp)
            have HW5 := Lib.hid hW5; have ST5 := Lib.hid st5; have HMB5 := Lib.hid hmb5; have HR5 := Lib.hid hr5; have C5 := Lib.hid (C4.out.trans c5 fun _ _ h => h); have HXL := Lib.hid (And.intro hxl hyl)
            clear htk hc4 hbm hmb4 hlen HTS b0 b1 b2 hx1 hy1 hr4 hxl hyl hW5 c5 st5 hmb5 hr5
            go_upto_region 7 with fail
            rw [HW5.out]
            obtain ⟨b0, b1, b2⟩ := HMB5.out.cells
            obtain ⟨s0, s1⟩ := ST5.out.cells
            obtain ⟨Z, hZ, hzero⟩ := zeroLsC
            have HZ := Lib.hid hZ
            clear hZ
            go_upto_region 10 with (first
              | (refine wpList_listsC rfl _ rfl _ _ _ rfl ?_)
              | (refine wpList_store_row rfl 66 _ _ rfl W5.heap.size _ rfl rfl _ _ (heap_alloc_new W5 (.cells Z 66)) (by rw [lsZ_size]; exact infoLsC) (by rw [lsZ_size]; exact HZ.out) (lsZ_one _ rfl rfl rfl rfl) ?_))
            try simp only [Act.put]
            rw [World.setRow_alloc_new]
            obtain ⟨W6, hW6⟩ : ∃ V, W5.alloc (.cells (lsZ 31 (.int .i64 m.log) (.bool m.one) (.slice ao m.cs.length cap) (.slice none 0 0)) 66) = V := ⟨_, rfl⟩
            rw [hW6]
            have hc6 : Chg (fun _ => False) W5 W6 := hW6 ▸ Chg.alloc _ W5 _
            have hrl := HR5.out.lt
            have hls : LsC W1 W5.heap.size m (.slice ao m.cs.length cap) W6 (fun k => k = rb) := LsJ.new C5.out hW6.symm (fun k hk => by
              subst hk
              exact ⟨HLB.out, hrl.1⟩)
            have hfo := lforth_any W1 W5.heap.size rb rg m (.slice ao m.cs.length cap) K (takeR (takeR (openB ps) (RM m)) (RM m)) x y W6 hls HLL.out (HR5.out.kept hc6 (by simp) (by simp)) (by omega) HR.out (by omega) HXL.out.1 HXL.out.2
            rw [← HE.out, HRES.out] at hfo
            have HFO := Lib.hid hfo
            obtain ⟨t0, t1⟩ := (ST5.out.kept hc6 (by simp)).cells
            clear hc6 hrl hls hfo hW6 hzero b0 b1 b2 s0 s1
            go_wp2_with fail
            refine HFO.out.mono ?_
            rintro e W7 ⟨q, rfl, hq, hc7⟩
            have HQ := Lib.hid hq; have C7 := Lib.hid (HCA.out.trans hc7 fun _ _ h => h)
            clear hq hc7 HFO t0 t1
            go_wp2
            go_ret2
            exact ⟨q, rfl, HQ.out, C7.out⟩
          · have HE := Lib.hid (show lnRes m ps (K : Int) = .error 3 from by
              unfold lnRes
              rw [if_pos HOK.out, if_pos HM.out]
              unfold lnDec
              rw [if_pos (by omega)])
            rw [decide_eq_false hlen]
            have HMB4 := Lib.hid hmb4
            obtain ⟨W5, hW5, c5, -⟩ := two_new W4 x y
            have HW5 := Lib.hid hW5; have C5 := Lib.hid c5
            clear htk hc4 hbm hmb4 hlen HTS b0 b1 b2 hW5 c5
            go_upto_region 7 with fail
            rw [HW5.out]
            go_wp2
            go_ret2
            exact forSays_err (HRES.out.symm.trans HE.out) rfl ((HCA.out.trans C4.out fun _ _ h => h).trans C5.out fun _ _ h => h)
        · have HM := Lib.hid hm
          have HE := Lib.hid (show lnRes m ps (K : Int) = .error 2 from by unfold lnRes; rw [if_pos HOK.out, if_neg hm])
          clear hm
          go_enter Try.func16, Try.ntmps16
          go_upto_region 1 with fail
          rw [HW1.out]
          go_wp2_with fail
          refine HRI.out.mono ?_
          rintro e W2 ⟨rfl, hc2⟩
          have C2 := Lib.hid hc2
          have hb2 := HBL.out.kept hc2 (by simp)
          have HNEW := Lib.hid (rnew_no _ ps W2 hb2 HM.out (by have := HLN.out; omega))
          rw [HN.out] at HNEW
          clear hc2 hb2 HRI b0 b1 b2
          go_wp2_with fail
          refine HNEW.out.mono ?_
          rintro e W3 ⟨rfl, rfl⟩
          clear HNEW
          go_wp2
          go_ret2
          exact forSays_err (HRES.out.symm.trans HE.out) rfl (HCA.out.trans C2.out fun _ _ h => h)
      · rw [decide_eq_false hr] at HRI
        have HE := Lib.hid (show lnRes m ps n = .error 1 from by unfold lnRes; rw [if_neg fun hh => hr hh.1])
        clear hr
        go_enter Try.func16, Try.ntmps16
        go_upto_region 1 with fail
        rw [HW1.out]
        go_wp2_with fail
        refine HRI.out.mono ?_
        rintro e W2 ⟨rfl, hc2⟩
        have C2 := Lib.hid hc2
        clear hc2 HRI
        go_wp2
        go_ret2
        exact forSays_err (HRES.out.symm.trans HE.out) rfl (HCA.out.trans C2.out fun _ _ h => h)

theorem ldecode_any (v u : Value) (m : Md) (ps : List Nat) (n : Int) (w : World) (h : RdM w v m) (hf : m.fit64) (hb : RdB w u ps) (hx : ∀ x ∈ ps, x < 256) (hl : ps.length < 1000000) (hn : -9223372036854775808 ≤ n ∧ n ≤ 9223372036854775807) :
    Calls Try.prog 16 #[v, u, .int .i64 n] w fun e w' => ∃ y, e = .returned (.tuple #[y, .int .i64 ((errOf (lnRes m ps n) : Nat) : Int)]) ∧ RdB w' y (outOf (lnRes m ps n)) ∧ Chg (fun _ => False) w w' :=
  ldecode_says v u m ps n w h hf hb hx hl hn

end Go.Proofs.Ytokeoebhmjefoaa

/- Plain: the example of chapter 17. -/
namespace Go.Proofs.Ytokeoebhmjefoaa
open Go

def ex7 : List Int := (List.replicate 256 0).set 7 32
def m7 : Md := ⟨5, true, [ex7]⟩
set_option maxRecDepth 100000 in
theorem m7_fits : m7.fits [7, 7, 7] := by decide +kernel
theorem m7_atC (c : Int) (h0 : 0 ≤ c) (h1 : c ≤ 255) : m7.atL c = ex7 := by
  unfold Md.atL
  rw [if_pos (show m7.right ∧ 0 ≤ c ∧ c ≤ 255 from ⟨m7_fits.1, h0, h1⟩), if_pos (show m7.one = true from rfl)]
  unfold m7
  rfl
theorem m7_at : m7.atL 0 = ex7 ∧ m7.atL 7 = ex7 := ⟨m7_atC 0 (by omega) (by omega), m7_atC 7 (by omega) (by omega)⟩
set_option maxRecDepth 100000 in
theorem ex7_seven : fq ex7 7 = 32 ∧ countTo (fun t => decide (0 < fq ex7 t)) 7 = 0 := by decide +kernel
theorem ex7_place : placeF (fq ex7) 256 7 32 = 0 := by
  have := place_first (f := fq ex7) (N := 256) (s := 7) (by omega) (by rw [ex7_seven.1]; omega)
  rw [ex7_seven.1, ex7_seven.2] at this
  exact this
theorem m7_step {i c : Nat} {P : List (Nat × Nat)} (hc : fM m7 c = fq ex7) (h : Enc 5 (fM m7) (i + 1) P [] (0, 0)) : Enc 5 (fM m7) i ((c, 7) :: P) [] (0, 0) := by
  have h0 : lane i (0, 0) = 0 := by unfold lane; split <;> rfl
  have hl : lefts (fM m7 c 7) (2 ^ 5 + lane i (0, 0)) 0 := by rw [hc, h0, ex7_seven.1]; unfold lefts; decide
  have := Enc.cons (c := c) (s := 7) h hl
  rw [h0, hc] at this
  have e1 : bitsOf ((2 ^ 5 + 0) % 2 ^ 0) 0 = [] := rfl
  rw [e1, List.append_nil, show (2 ^ 5 + 0) / 2 ^ 0 = 32 from rfl, ex7_place] at this
  have e2 : setLane i (0, 0) 0 = (0, 0) := by unfold setLane; split <;> rfl
  rw [e2] at this
  exact this
theorem m7_pay : payL m7 [7, 7, 7] = [false, false, false, false, false, false, false, false, false, false] := by
  have h0 : fM m7 0 = fq ex7 := by funext s; unfold fM; rw [show ((0 : Nat) : Int) = 0 from rfl, m7_at.1]
  have h7 : fM m7 7 = fq ex7 := by funext s; unfold fM; rw [show ((7 : Nat) : Int) = 7 from rfl, m7_at.2]
  have he : Enc 5 (fM m7) 0 (prs 0 [7, 7, 7]) [] (0, 0) := m7_step h0 (m7_step h7 (m7_step h7 (.nil 3)))
  rw [payL_of (m := m7) (xs := [7, 7, 7]) (bs := []) (st := (0, 0)) he]
  decide
theorem m7_ok : lnOk m7 [7, 7, 7] := ⟨m7_fits, by decide⟩
theorem m7_enc : lnEnc m7 [7, 7, 7] = [0, 4] := by
  unfold lnEnc
  rw [if_pos m7_ok, m7_pay]
  decide +kernel
theorem m7_err : lnErr m7 [7, 7, 7] = 0 := by unfold lnErr; rw [if_pos m7_ok]
theorem m7_bits : lnBits m7 [7, 7, 7] = 10 := by unfold lnBits; rw [if_pos m7_ok, m7_pay]; rfl
theorem m7_back : lnRes m7 [0, 4] 3 = .ok [7, 7, 7] := by
  have := ln_back m7_ok (by decide)
  rw [m7_enc] at this
  exact this

end Go.Proofs.Ytokeoebhmjefoaa

/- What puncheonlaw17.awake tells: the chapter's example holds. -/
namespace Go.Proofs.Ytokeoebhmjefoaa
open Go.RowKit

theorem str04 : ((strB [0, 4]).toList == [0, 4]) = true := by decide +kernel
theorem str777 : ((strB [7, 7, 7]).toList == (strB [7, 7, 7]).toList) = true := by decide +kernel

set_option maxHeartbeats 2000000 in
set_option maxRecDepth 100000 in
theorem awake17_any (w : World) : Calls Try.prog 9 #[] w fun e w' => e = .returned (.bool true) ∧ Chg (fun _ => False) w w' := by
  obtain ⟨Z, hZ⟩ : ∃ Z : List Int, Z = List.replicate 256 0 := ⟨_, rfl⟩
  have hZl : Z.length = 256 := by rw [hZ]; exact List.length_replicate
  have hE : Z.set 7 32 = ex7 := by rw [hZ]; rfl
  have HZL := Lib.hid hZl; have HE := Lib.hid hE; have HZ := Lib.hid hZ
  have hfit := m7_fits.1.fit64
  have HEN := Lib.hid fun W cv u hW hb => lencode_any (mdv m7 cv) u m7 [7, 7, 7] W ⟨cv, rfl, hW⟩ hfit hb (by decide) (by decide)
  have HDE := Lib.hid fun W cv u hW hb => ldecode_any (mdv m7 cv) u m7 [0, 4] 3 W ⟨cv, rfl, hW⟩ hfit hb (by decide) (by decide) (by decide)
  have HBI := Lib.hid fun W cv u hW hb => lbits_any (mdv m7 cv) u m7 [7, 7, 7] W ⟨cv, rfl, hW⟩ hfit hb (by decide) (by decide)
  rw [m7_enc, m7_err] at HEN
  rw [m7_back] at HDE
  rw [m7_bits] at HBI
  clear hZl hE hZ hfit
  go_enter Try.func9, Try.ntmps9
  go_wp2_with (at_make; refine wpList_make_ints rfl _ _ rfl 256 256 256 rfl rfl rfl rfl (by omega) Z HZ.out ?_)
  intro w1 r1 c1
  obtain ⟨g, hg⟩ : ∃ g, g = w.heap.size := ⟨_, rfl⟩
  rw [← hg] at r1 ⊢
  have s0 := Chg.setCell w1 ⟨g, 7, none⟩ (.int .i64 32)
  have r2 := r1.set 7 32
  have a0 := r1.cell 7 (by rw [HZL.out]; omega)
  have f0 := r1.free 7
  obtain ⟨W1, hW1⟩ : ∃ W1, w1.setCell ⟨g, 7, none⟩ (.int .i64 32) = W1 := ⟨_, rfl⟩
  rw [hW1] at s0 r2
  rw [HE.out] at r2
  have hc1 : Chg (fun _ => False) w W1 := c1.trans s0 fun q hq he => by simp at he; omega
  have s2 := Chg.alloc (fun _ => False) W1 (.cells #[.slice (some ⟨g, 0, none⟩) 256 256] 41)
  have n2 := heap_alloc_new W1 (.cells #[.slice (some ⟨g, 0, none⟩) 256 256] 41)
  obtain ⟨W2, hW2⟩ : ∃ W2, W1.alloc (.cells #[.slice (some ⟨g, 0, none⟩) 256 256] 41) = W2 := ⟨_, rfl⟩
  rw [hW2] at s2 n2
  obtain ⟨gl, hgl⟩ : ∃ gl, W1.heap.size = gl := ⟨_, rfl⟩
  rw [hgl] at n2
  have hrow : RdI W2 (.slice (some ⟨g, 0, none⟩) 256 256) ex7 := by
    have := (r2.kept s2 (by simp)).rd 256
    rwa [show ex7.length = 256 by decide +kernel] at this
  have hll : RdLL W2 (.slice (some ⟨gl, 0, none⟩) 1 1) m7.cs := .inr ⟨gl, 0, 1, rfl, fun j hj => by
    have : j = 0 := by have : m7.cs.length = 1 := rfl; omega
    subst this
    exact ⟨_, by rw [cell_of_row W2 gl (0 + 0) _ _ _ n2]; rfl, hrow, .of (Nat.le_refl _)⟩⟩
  have s3 := Chg.alloc (fun _ => False) W2 (.cells #[.int .i64 5, .bool true, .slice (some ⟨gl, 0, none⟩) 1 1] 24)
  have n3 : Mb _ _ 5 true (.slice (some ⟨gl, 0, none⟩) 1 1) := heap_alloc_new W2 (.cells #[.int .i64 5, .bool true, .slice (some ⟨gl, 0, none⟩) 1 1] 24)
  obtain ⟨W3, hW3⟩ : ∃ W3, W2.alloc (.cells #[.int .i64 5, .bool true, .slice (some ⟨gl, 0, none⟩) 1 1] 24) = W3 := ⟨_, rfl⟩
  rw [hW3] at s3 n3
  obtain ⟨gm, hgm⟩ : ∃ gm, W2.heap.size = gm := ⟨_, rfl⟩
  rw [hgm] at n3
  have s4 := Chg.alloc (fun _ => False) W3 (.cells #[.int .u8 7, .int .u8 7, .int .u8 7] 5)
  have hrd : RdB (W3.alloc (.cells #[.int .u8 7, .int .u8 7, .int .u8 7] 5)) (.slice (some ⟨W3.heap.size, 0, none⟩) 3 3) [7, 7, 7] := rdb_new W3 [7, 7, 7] #[.int .u8 7, .int .u8 7, .int .u8 7] 3 (0, 0) rfl rfl
  obtain ⟨W4, hW4⟩ : ∃ W4, W3.alloc (.cells #[.int .u8 7, .int .u8 7, .int .u8 7] 5) = W4 := ⟨_, rfl⟩
  rw [hW4] at s4 hrd
  obtain ⟨gb, hgb⟩ : ∃ gb, W3.heap.size = gb := ⟨_, rfl⟩
  rw [hgb] at hrd
  have hl4 := (hll.kept s3).kept s4
  have hmb := n3.kept s4 (by simp)
  have hcw := ((hc1.trans s2 fun _ _ h => h).trans s3 fun _ _ h => h).trans s4 fun _ _ h => h
  have HL := Lib.hid hl4; have HB := Lib.hid hrd; have HMB := Lib.hid hmb; have HC := Lib.hid hcw
  obtain ⟨b0, b1, b2⟩ := hmb.cells
  generalize Z.getD 7 0 = z0 at a0
  clear s0 r2 s2 n2 s3 n3 s4 hrd hl4 hmb hcw hll hrow hc1 c1 r1 hg HE HZ HZL
  go_wp2_with fail
  refine (HEN.out W4 _ _ HL.out HB.out).mono ?_
  rintro e w5 ⟨p, rfl, hp, _, hc5⟩
  obtain ⟨ap, cp, rfl⟩ := hp.form
  have HL5 := Lib.hid (HL.out.kept hc5); have HB5 := Lib.hid (HB.out.kept hc5 (by simp)); have HMB5 := Lib.hid (HMB.out.kept hc5 (by simp)); have HC5 := Lib.hid (HC.out.trans hc5 fun _ _ h => h); have HP := Lib.hid hp
  clear b0 b1 b2 hW1 hW2 hW3 hW4 hgl hgm hgb a0 f0 hp hc5 HL HB HMB HC HEN
  obtain ⟨b0, b1, b2⟩ := HMB5.out.cells
  go_wp2_with fail
  refine (HDE.out w5 _ _ HL5.out HP.out).mono ?_
  rintro e w6 ⟨y, rfl, hy, hc6⟩
  simp only [outOf, errOf] at hy ⊢
  obtain ⟨ay, cy, rfl⟩ := hy.form
  have HL6 := Lib.hid (HL5.out.kept hc6); have HB6 := Lib.hid (HB5.out.kept hc6 (by simp)); have HMB6 := Lib.hid (HMB5.out.kept hc6 (by simp)); have HC6 := Lib.hid (HC5.out.trans hc6 fun _ _ h => h); have HP6 := Lib.hid (HP.out.kept hc6 (by simp)); have HY6 := Lib.hid hy
  clear b0 b1 b2 hy hc6 HL5 HB5 HMB5 HC5 HP HDE
  obtain ⟨b0, b1, b2⟩ := HMB6.out.cells
  have k1 := run_conv HP6.out
  have k2 := run_conv HY6.out
  have k3 := run_conv HB6.out
  rw [show strB [0, 4] = ⟨#[0, 4]⟩ from rfl, show ([0, 4] : List Nat).length = 2 from rfl] at k1
  rw [show strB [7, 7, 7] = ⟨#[7, 7, 7]⟩ from rfl, show ([7, 7, 7] : List Nat).length = 3 from rfl] at k2
  rw [show strB [7, 7, 7] = ⟨#[7, 7, 7]⟩ from rfl] at k3
  go_wp2_with fail
  refine (HBI.out w6 _ _ HL6.out HB6.out).mono ?_
  rintro e w7 ⟨rfl, hc7⟩
  have HC7 := Lib.hid (HC6.out.trans hc7 fun _ _ h => h)
  clear hc7 k1 k2 k3 b0 b1 b2
  go_wp2
  go_ret
  exact ⟨rfl, HC7.out⟩

end Go.Proofs.Ytokeoebhmjefoaa

/- What the document's own lanes (puncheonref17) tell: Encode. -/
namespace Go.Proofs.Ytokeoebhmjefoaa
open Go.RowKit

theorem payL_len {m : Md} {xs : List Nat} (h : m.fits xs) (hx : ∀ x ∈ xs, x < 256) (hl : xs.length ≤ 60000) : (payL m xs).length < 900000 := by
  have h1 := (payL_bounds h hx).2
  have h2 := (RM_le h.1).2.1
  have h3 : xs.length * RM m ≤ 60000 * 12 := Nat.mul_le_mul hl h2
  omega

set_option maxHeartbeats 2000000 in
theorem r17encode_any (v u : Value) (m : Md) (xs : List Nat) (w : World) (h : RdM w v m) (hf : m.fit64) (hb : RdB w u xs) (hx : ∀ x ∈ xs, x < 256) (hl : xs.length ≤ 60000) :
    Calls Try.prog 12 #[v, u] w fun e w' => ∃ p, e = .returned (.tuple #[p, .int .i64 (lnErr m xs)]) ∧ RdB w' p (lnEnc m xs) ∧ Chg (fun _ => False) w w' := by
  obtain ⟨cv, rfl, h1⟩ := h
  have HFI := Lib.hid (show ∀ W, RdLL W cv m.cs → RdB W u xs → Calls Try.prog 21 #[mdv m cv, u] W fun e w' => e = .returned (.bool (decide (m.fits xs))) ∧ Chg (fun _ => False) W w' from fun W hW hB => r16fits_any _ _ m xs W ⟨cv, rfl, hW⟩ hf hB hx (by omega))
  have HBI := Lib.hid (show ∀ W, m.fits xs → RdLL W cv m.cs → RdB W u xs → Calls Try.prog 13 #[mdv m cv, u] W fun e w' => ∃ v', e = .returned v' ∧ Bools w' v' (payL m xs) ∧ Chg (fun _ => False) W w' from fun W hft hW hB => r17bits_any _ _ m xs W ⟨cv, rfl, hW⟩ hft hB hx hl)
  have hen : m.fits xs → lnErr m xs = 0 ∧ lnEnc m xs = pack (payL m xs ++ [true]) ∧ (payL m xs).length < 900000 := fun hft => by
    have hok : lnOk m xs := ⟨hft, by omega⟩
    unfold lnErr lnEnc
    rw [if_pos hok, if_pos hok]
    exact ⟨rfl, rfl, payL_len hft hx hl⟩
  have hno : ¬ m.fits xs → lnErr m xs = 1 ∧ lnEnc m xs = [] := fun hft => by
    have hok : ¬ lnOk m xs := fun hh => hft hh.1
    unfold lnErr lnEnc
    rw [if_neg hok, if_neg hok]
    exact ⟨rfl, rfl⟩
  have HEN := Lib.hid hen; have HNO := Lib.hid hno
  obtain ⟨ab, capb, rfl⟩ := hb.form
  obtain ⟨MM, hMM⟩ : ∃ MM, m = MM := ⟨_, rfl⟩
  rw [hMM] at HFI HBI HEN HNO
  rw [show lnErr m xs = lnErr MM xs by rw [hMM], show lnEnc m xs = lnEnc MM xs by rw [hMM]]
  obtain ⟨log, one, cs⟩ := m
  simp only [] at h1
  obtain ⟨ao, cap, rfl⟩ := h1.form
  have hca := Chg.alloc (fun _ => False) w (.cells #[.int .i64 log, .bool one, .slice ao cs.length cap] 24)
  have hnew : Mb _ _ log one (.slice ao cs.length cap) := heap_alloc_new w (.cells #[.int .i64 log, .bool one, .slice ao cs.length cap] 24)
  have hll := h1.kept hca
  have hbl := hb.kept hca (by simp)
  have hmdv : mdv MM (.slice ao cs.length cap) = .agg #[.int .i64 log, .bool one, .slice ao cs.length cap] := by rw [← hMM]; rfl
  have hcs : MM.cs = cs := by rw [← hMM]
  rw [hmdv, hcs] at HFI HBI
  unfold mdv
  simp only []
  obtain ⟨n, hn⟩ : ∃ n, cs.length = n := ⟨_, rfl⟩
  rw [hn] at hca hnew hll hbl HFI HBI ⊢
  obtain ⟨W, hW⟩ : ∃ W, w.alloc (.cells #[.int .i64 log, .bool one, .slice ao n cap] 24) = W := ⟨_, rfl⟩
  rw [hW] at hca hnew hll hbl
  obtain ⟨b0, b1, b2⟩ := hnew.cells
  obtain ⟨N, hNx⟩ : ∃ N, xs.length = N := ⟨_, rfl⟩
  rw [hNx] at hbl hl HFI HBI ⊢
  have HCA := Lib.hid hca; have HNEW := Lib.hid hnew; have HL := Lib.hid hll; have HB := Lib.hid hbl
  have hNb : (N : Int) ≤ 60000 := by omega
  clear h1 hf hca hnew hll hbl hn hNx hx hb hMM hmdv hcs hl hen hno
  go_enter Try.func12, Try.ntmps12
  go_wp2_with fail
  refine (HFI.out W HL.out HB.out).mono ?_
  rintro e w2 ⟨rfl, hc2⟩
  have HC2 := Lib.hid (HCA.out.trans hc2 fun _ _ h => h)
  have hnew2 := HNEW.out.kept hc2 (by simp)
  have HL2 := Lib.hid (HL.out.kept hc2)
  have HB2 := Lib.hid (HB.out.kept hc2 (by simp))
  clear hc2 b0 b1 b2 hW HNEW HCA HL HB HFI
  obtain ⟨b0, b1, b2⟩ := hnew2.cells
  clear hnew2
  by_cases hft : MM.fits xs
  · rw [decide_eq_true hft]
    have HE3 := Lib.hid (HEN.out hft)
    have HFT := Lib.hid hft
    clear hft HEN HNO
    go_wp2_with fail
    refine (HBI.out w2 HFT.out HL2.out HB2.out).mono ?_
    rintro e w3 ⟨v3, rfl, hbo, hc3⟩
    have HBO := Lib.hid hbo; have HC3 := Lib.hid (HC2.out.trans hc3 fun _ _ h => h)
    clear hbo hc3 b0 b1 b2 HBI
    go_wp2_with fail
    refine (rclose_any v3 _ w3 HBO.out HE3.out.2.2).mono ?_
    rintro e w4 ⟨w5, hc5, g, cap4, rfl, hown, hc4⟩
    have HO := Lib.hid (RdB.of_own hown)
    have HC4 := Lib.hid ((HC3.out.trans hc5 fun _ _ h => h).trans hc4 fun _ _ h => h)
    clear hown hc4 hc5
    go_wp2
    go_returns
    exact ⟨_, by rw [HE3.out.1]; rfl, by rw [HE3.out.2.1]; exact HO.out, HC4.out⟩
  · rw [decide_eq_false hft]
    have HE3 := Lib.hid (HNO.out hft)
    clear hft HEN HNO HBI
    go_wp2
    go_returns
    exact ⟨_, by rw [HE3.out.1]; rfl, by rw [HE3.out.2]; exact .inl ⟨rfl, none, 0, rfl⟩, HC2.out⟩

end Go.Proofs.Ytokeoebhmjefoaa

/- What the document's own lanes (puncheonref17) tell: Decode, its walk. -/
namespace Go.Proofs.Ytokeoebhmjefoaa
open Go.RowKit

/-- what Decode tells -/
def DecSays (m : Md) (ps : List Nat) (n : Int) (w : World) (e : Ending) (w' : World) : Prop :=
  ∃ y, e = .returned (.tuple #[y, .int .i64 ((errOf (lnRes m ps n) : Nat) : Int)]) ∧ RdB w' y (outOf (lnRes m ps n)) ∧ Chg (fun _ => False) w w'
theorem decSays_err {m : Md} {ps : List Nat} {n : Int} {w w' : World} {k : Nat} {z : Int} (h : lnRes m ps n = .error k) (hz : z = (k : Int)) (hc : Chg (fun _ => False) w w') : DecSays m ps n w (.returned (.tuple #[.slice none 0 0, .int .i64 z])) w' :=
  ⟨_, by rw [h, hz]; rfl, by rw [h]; exact .inl ⟨rfl, none, 0, rfl⟩, hc⟩

set_option maxRecDepth 20000 in
set_option maxHeartbeats 8000000 in
theorem r17decode_any (v u : Value) (m : Md) (ps : List Nat) (n : Int) (w : World) (h : RdM w v m) (hf : m.fit64) (hb : RdB w u ps) (hx : ∀ x ∈ ps, x < 256) (hl : ps.length ≤ 1000000) (hn : -9223372036854775808 ≤ n ∧ n ≤ 9223372036854775807) :
    Calls Try.prog 17 #[v, u, .int .i64 n] w fun e w' => DecSays m ps n w e w' := by
  obtain ⟨cv, rfl, h1⟩ := h
  have HRI := Lib.hid (show ∀ W, RdLL W cv m.cs → Calls Try.prog 34 #[mdv m cv] W fun e w' => e = .returned (.bool (decide m.right)) ∧ Chg (fun _ => False) W w' from fun W hW => r16right_any _ m W ⟨cv, rfl, hW⟩ hf)
  have HAT := Lib.hid (show ∀ W (c : Int), RdLL W cv m.cs → Calls Try.prog 23 #[mdv m cv, .int .i64 c] W fun e w' => ∃ q, e = .returned q ∧ RdI w' q (m.atL c) ∧ Chg (fun _ => False) W w' from fun W c hW => r16at_any _ m c W ⟨cv, rfl, hW⟩ hf)
  obtain ⟨ab, capb, rfl⟩ := hb.form
  obtain ⟨ao, cap, rfl⟩ := h1.form
  have hca := Chg.alloc (fun _ => False) w (.cells #[.int .i64 m.log, .bool m.one, .slice ao m.cs.length cap] 24)
  have hnew : Mb _ _ m.log m.one (.slice ao m.cs.length cap) := heap_alloc_new w (.cells #[.int .i64 m.log, .bool m.one, .slice ao m.cs.length cap] 24)
  have hll := h1.kept hca
  have hbl := hb.kept hca (by simp)
  have hmdv : mdv m (.slice ao m.cs.length cap) = .agg #[.int .i64 m.log, .bool m.one, .slice ao m.cs.length cap] := rfl
  rw [hmdv] at HRI HAT ⊢
  obtain ⟨nc, hnc⟩ : ∃ nc, m.cs.length = nc := ⟨_, rfl⟩
  obtain ⟨lg, hlg⟩ : ∃ lg, m.log = lg := ⟨_, rfl⟩
  obtain ⟨on, hon⟩ : ∃ on, m.one = on := ⟨_, rfl⟩
  rw [hnc, hlg, hon] at hca hnew HRI HAT ⊢
  rw [hnc, hlg, hon] at hll hbl
  obtain ⟨W, hW⟩ : ∃ W, w.alloc (.cells #[.int .i64 lg, .bool on, .slice ao nc cap] 24) = W := ⟨_, rfl⟩
  rw [hW] at hca hnew hll hbl
  obtain ⟨b0, b1, b2⟩ := hnew.cells
  obtain ⟨N, hNx⟩ : ∃ N, ps.length = N := ⟨_, rfl⟩
  rw [hNx] at hbl hl ⊢
  have HCA := Lib.hid hca; have HNEW := Lib.hid hnew; have HL := Lib.hid hll; have HB := Lib.hid hbl; have HNX := Lib.hid hNx; have HX := Lib.hid hx; have HLG := Lib.hid hlg; have HL0 := Lib.hid h1; have HON := Lib.hid hon; have HLN := Lib.hid hl
  obtain ⟨hn0, hn1⟩ := hn
  rw [hnc] at HL0
  clear h1 hf hca hnew hll hbl hnc hlg hon hmdv hNx hx hb hl
  go_enter Try.func17, Try.ntmps17
  go_wp2_with fail
  refine (HRI.out W HL.out).mono ?_
  rintro e w2 ⟨rfl, hc2⟩
  have HC2 := Lib.hid (HCA.out.trans hc2 fun _ _ h => h)
  have HNEW2 := Lib.hid (HNEW.out.kept hc2 (by simp))
  have HL2 := Lib.hid (HL.out.kept hc2)
  have HB2 := Lib.hid (HB.out.kept hc2 (by simp))
  clear hc2 b0 b1 b2 hW HNEW HCA HL HB HRI
  by_cases hr : m.right
  · rw [decide_eq_true hr]
    have HR := Lib.hid hr
    clear hr
    by_cases hn2 : n < 0
    · have d1 : decide (n < 0) = true := decide_eq_true hn2
      have HE := Lib.hid (show lnRes m ps n = .error 1 from by unfold lnRes; rw [if_neg fun hh => by omega])
      go_wp2
      go_returns
      exact decSays_err HE.out rfl HC2.out
    · have d1 : decide (n < 0) = false := decide_eq_false hn2
      by_cases hn3 : 131072 < n
      · have d2 : decide (131072 < n) = true := decide_eq_true hn3
        have HE := Lib.hid (show lnRes m ps n = .error 1 from by unfold lnRes; rw [if_neg fun hh => by omega])
        go_wp2
        go_returns
        exact decSays_err HE.out rfl HC2.out
      · have d2 : decide (131072 < n) = false := decide_eq_false hn3
        have hok : m.right ∧ 0 ≤ n ∧ n ≤ 131072 := ⟨HR.out, by omega, by omega⟩
        have HOK := Lib.hid hok
        clear hok
        by_cases hm : Marked ps
        · have hop := ropen_ok _ ps w2 HB2.out hm (by rw [HNX.out]; exact HLN.out) HX.out
          obtain ⟨hR1, hR2, hR3⟩ := RM_le HR.out
          obtain ⟨R, hR⟩ : ∃ R, RM m = R := ⟨_, rfl⟩
          rw [hR] at hR1 hR2 hR3
          rw [HLG.out] at hR3
          subst hR3
          have HOP := Lib.hid hop; have HRE := Lib.hid hR; have HM := Lib.hid hm
          clear hop hR hm
          go_wp2_with fail
          refine HOP.out.mono ?_
          rintro e w3 ⟨v3, gl, rfl, hbits, hgl, hc3⟩
          obtain ⟨c3, rfl, hlc, hcm, hcell⟩ := hbits
          have hbits : RdL w3 (.slice (some ⟨gl, 0, none⟩) (openB ps).length c3) gl 0 (openB ps) := ⟨c3, rfl, hlc, hcm, hcell⟩
          have hmb3 := HNEW2.out.kept hc3 (by simp)
          have hl3 := HL2.out.kept hc3
          have hcw3 := HC2.out.trans hc3 fun _ _ h => h
          obtain ⟨b0, b1, b2⟩ := hmb3.cells
          have hres : lnRes m ps n = lnDec R (tabM m) (openB ps) n.toNat := by unfold lnRes; rw [if_pos HOK.out, if_pos HM.out, HRE.out]
          have HRES := Lib.hid hres
          obtain ⟨bs0, hbs0⟩ : ∃ bs0, openB ps = bs0 := ⟨_, rfl⟩
          rw [hbs0] at hbits HRES ⊢
          have HBITS := Lib.hid hbits; have HMB3 := Lib.hid hmb3; have HL3 := Lib.hid hl3; have HCW3 := Lib.hid hcw3; have HGL := Lib.hid hgl
          clear hres hbits hmb3 hl3 hcw3 hc3 hgl hlc hcm hcell hbs0 HOP HC2 HNEW2 HL2 HB2 HOK HM
          by_cases hlen : bs0.length < R
          · have ht1 := rtake_no _ gl 0 bs0 ((R : Nat) : Int) w3 HBITS.out (by omega)
            have HE := Lib.hid (show lnRes m ps n = .error 3 from by rw [HRES.out]; unfold lnDec; rw [if_pos (by omega)])
            have HT1 := Lib.hid ht1
            clear ht1 hlen
            go_wp2_with fail
            refine HT1.out.mono ?_
            rintro e w4 ⟨rfl, rfl⟩
            go_wp2_with fail
            refine HT1.out.mono ?_
            rintro e w5 ⟨rfl, rfl⟩
            go_wp2
            go_returns
            exact decSays_err HE.out rfl HCW3.out
          · have ht1 := rtake_yes _ gl 0 bs0 R w3 HBITS.out (by omega) (by omega)
            have HT1 := Lib.hid ht1
            have hglt : gl < w3.heap.size := by
              obtain ⟨_, _, _, _, hc⟩ := HBITS.out
              exact block_lt_of_cell (hc 0 (by omega))
            have HGLT := Lib.hid hglt
            clear ht1 hglt
            go_wp2_with fail
            refine HT1.out.mono ?_
            rintro e w4 ⟨v4, rfl, hbits4, hc4⟩
            obtain ⟨c4, rfl, hlc, hcm, hcell⟩ := hbits4
            have hbits4 : RdL w4 (.slice (some ⟨gl, 0, none⟩) (takeR bs0 R).length c4) gl 0 (takeR bs0 R) := ⟨c4, rfl, hlc, hcm, hcell⟩
            have hmb4 := HMB3.out.kept hc4 (by simp)
            have hl4 := HL3.out.kept hc4
            have hcw4 := HCW3.out.trans hc4 fun _ _ h => h
            replace HGLT := Lib.hid (Nat.lt_of_lt_of_le HGLT.out hc4.size)
            have htl := takeR_length bs0 R
            have hv1 := takeV_lt bs0 R
            obtain ⟨bs1, hbs1⟩ : ∃ bs1, takeR bs0 R = bs1 := ⟨_, rfl⟩
            obtain ⟨y0, hy0⟩ : ∃ y0, takeV bs0 R = y0 := ⟨_, rfl⟩
            rw [hbs1] at hbits4 htl ⊢
            rw [hy0] at hv1 ⊢
            have HBS1 := Lib.hid hbs1; have HY0 := Lib.hid hy0
            clear b0 b1 b2
            obtain ⟨b0, b1, b2⟩ := hmb4.cells
            have HBITS4 := Lib.hid hbits4; have HMB4 := Lib.hid hmb4; have HL4 := Lib.hid hl4; have HCW4 := Lib.hid hcw4
            clear hbits4 hmb4 hl4 hcw4 hc4 hbs1 hy0 hlc hcm hcell HBITS HMB3 HL3 HCW3 HT1
            by_cases hlen2 : bs1.length < R
            · have ht1 := rtake_no _ gl 0 bs1 ((R : Nat) : Int) w4 HBITS4.out (by omega)
              have HE := Lib.hid (show lnRes m ps n = .error 3 from by rw [HRES.out]; unfold lnDec; rw [if_pos (by omega)])
              have HT1 := Lib.hid ht1
              clear ht1 hlen hlen2 htl
              go_wp2_with fail
              refine HT1.out.mono ?_
              rintro e w5 ⟨rfl, rfl⟩
              go_wp2
              go_returns
              exact decSays_err HE.out rfl HCW4.out
            · have ht1 := rtake_yes _ gl 0 bs1 R w4 HBITS4.out (by omega) (by omega)
              have HT1 := Lib.hid ht1; have HTL := Lib.hid htl
              clear ht1 htl
              have hR12 : 2 ^ R ≤ 4096 := pow12 (by omega)
              have hy0I : (y0 : Int) < 4096 := by omega
              go_wp2_with fail
              refine HT1.out.mono ?_
              rintro e w5 ⟨v5, rfl, hbits5, hc5⟩
              obtain ⟨c5, rfl, hlc, hcm, hcell⟩ := hbits5
              have hbits5 : RdL w5 (.slice (some ⟨gl, 0, none⟩) (takeR bs1 R).length c5) gl 0 (takeR bs1 R) := ⟨c5, rfl, hlc, hcm, hcell⟩
              have hv2 := takeV_lt bs1 R
              obtain ⟨bs2, hbs2⟩ : ∃ bs2, takeR bs1 R = bs2 := ⟨_, rfl⟩
              obtain ⟨y1, hy1⟩ : ∃ y1, takeV bs1 R = y1 := ⟨_, rfl⟩
              rw [hbs2] at hbits5 ⊢
              rw [hy1] at hv2 ⊢
              have hy1I : (y1 : Int) < 4096 := by omega
              have HBS2 := Lib.hid hbs2; have HY1 := Lib.hid hy1
              have hmb5 := HMB4.out.kept hc5 (by simp)
              have hl5 := HL4.out.kept hc5
              have hcw5 := HCW4.out.trans hc5 fun _ _ h => h
              replace HGLT := Lib.hid (Nat.lt_of_lt_of_le HGLT.out hc5.size)
              have HBITS5 := Lib.hid hbits5; have HMB5 := Lib.hid hmb5; have HL5 := Lib.hid hl5; have HCW5 := Lib.hid hcw5
              clear b0 b1 b2 hbits5 hmb5 hl5 hcw5 hc5 hbs2 hy1 hlc hcm hcell HBITS4 HMB4 HL4 HCW4 HT1
              obtain ⟨Z, hZ, hmk⟩ := makeCells
              have HZ := Lib.hid hZ
              clear hZ
              obtain ⟨K, hK⟩ : ∃ K : Nat, n = (K : Int) := ⟨n.toNat, by omega⟩
              subst hK
              have hdec : lnRes m ps (K : Int) = finD (decG (tabM m) K 0 0 bs2 (y0, y1)) := by
                rw [HRES.out, Int.toNat_natCast, lnDec_fin (by have := HTL.out; omega), HBS1.out, HBS2.out, HY0.out, HY1.out]
              have HDEC := Lib.hid hdec
              have hKb : (K : Int) ≤ 131072 := by omega
              clear hdec hn0 hn1 hn2 hn3 d1 d2 HRES HTL
              obtain ⟨X, hX⟩ : ∃ X, w5.heap.size = X := ⟨_, rfl⟩
              have hx1 := heap_alloc_new w5 (.cells #[.int .i64 (y0 : Int), .int .i64 (y1 : Int)] 3)
              have hx2 := Chg.alloc (fun _ => False) w5 (.cells #[.int .i64 (y0 : Int), .int .i64 (y1 : Int)] 3)
              obtain ⟨W6, hW6⟩ : ∃ W6, w5.alloc (.cells #[.int .i64 (y0 : Int), .int .i64 (y1 : Int)] 3) = W6 := ⟨_, rfl⟩
              have hsz6 : W6.heap.size = X + 1 := by rw [← hW6, ← hX]; simp
              rw [hW6] at hx1 hx2
              rw [hX] at hx1
              have hx3 := heap_alloc_new W6 (.cells Z 62)
              have hx4 := Chg.alloc (fun _ => False) W6 (.cells Z 62)
              have hx5 : (W6.alloc (.cells Z 62)).heap.size = X + 2 := by simp [hsz6]
              rw [hsz6] at hx3
              have hS0 : DecS w (W6.alloc (.cells Z 62)) gl X (X + 1) (X + 2) m (.slice ao nc cap) bs2 c5 (.slice none ([] : List Nat).length 0) [] y0 y1 Z.toList := by
                have hcc := hx2.trans hx4 fun _ _ h => h
                refine ⟨HBITS5.out.kept hcc (by simp), ⟨rfl, .inl ⟨rfl, rfl⟩⟩, RowX.kept hx1 hx4 (by simp), ⟨by rw [hx3], by rw [HZ.out]; exact List.length_replicate, fun c hc => .inl ?_⟩, ?_, HCW5.out.trans hcc fun _ _ h => h, by rw [hx5]; exact Nat.le_refl _⟩
                · rw [HZ.out, List.getD_eq_getElem?_getD, List.getElem?_replicate, if_pos hc]; rfl
                · rw [HLG.out, HON.out]; exact HMB5.out.kept hcc (by simp)
              have hP0 : DecP m K bs2 (y0, y1) 0 0 bs2 [] y0 y1 := by
                refine ⟨by omega, by rw [HRE.out]; exact hv1, by rw [HRE.out]; exact hv2, rfl, by simp, ?_⟩
                rw [preO_nil, Nat.sub_zero]
              have HS0 := Lib.hid hS0; have HP0 := Lib.hid hP0
              have HGX := Lib.hid (show gl < X from by rw [← hX]; exact HGLT.out)
              have HWX := Lib.hid (show w.heap.size < X from by rw [← hX]; exact HMB5.out.lt)
              clear hS0 hP0 hx1 hx2 hx3 hx4 hx5 HBITS5 HMB5 HL5 HCW5 HGLT HZ hv1 hv2 hlen hlen2 HBS1 HBS2 HY0 HY1
              go_wp2
              clear hW6 hsz6 hX
              go_loopw [9, 17, 18, 19] (fun o9 o17 o18 o19 wr => ∃ (k last c9 c18 : Nat) (bs : List Bool) (a18 : Option Addr) (o : List Nat) (x0 x1 : Nat) (vs : List Value), k ≤ K ∧ o9 = .slice (some ⟨gl, 0, none⟩) bs.length c9 ∧ o17 = .int .i64 (last : Int) ∧ o18 = .slice a18 o.length c18 ∧ o19 = .int .i64 (k : Int) ∧ DecS w wr gl X (X + 1) (X + 2) m (.slice ao nc cap) bs c9 (.slice a18 o.length c18) o x0 x1 vs ∧ DecP m K bs2 (y0, y1) k last bs o x0 x1) (fun _ _ _ o19 _ => K - (intOf o19).toNat)
              case atStart => exact ⟨0, 0, c5, 0, bs2, none, [], y0, y1, _, Nat.zero_le _, rfl, rfl, rfl, rfl, HS0.out, HP0.out⟩
              case round =>
                clear HS0 HP0 hy0I hy1I
                obtain ⟨k, last, c9, c18, bs, a18, o, x0, x1, vs, hk, rfl, rfl, rfl, rfl, hS, hP⟩ := hrel
                have HS := Lib.hid hS; have HP := Lib.hid hP
                clear hS hP
                by_cases hlt : k < K
                · have hcg := HS.out.cells.cell last HP.out.lastLt
                  have hlast : (last : Int) < 256 := by have := HP.out.lastLt; omega
                  obtain ⟨al, nl, pl, hvl⟩ : ∃ al nl pl, vs.getD last undef = .slice al nl pl := by
                    rcases HS.out.cells.2.2 last HP.out.lastLt with h0 | ⟨l, g, n, e1, _⟩
                    · exact ⟨_, _, _, h0⟩
                    · exact ⟨_, _, _, e1⟩
                  rw [hvl] at hcg
                  have HVL := Lib.hid hvl
                  have hkI : (k : Int) < (K : Int) := by omega
                  clear hvl
                  go_upto_if 84 with fail
                  go_cut [20, 21] from 74 to 136 (fun _ _ wx => ∃ (vs2 : List Value) (l : List Cl) (g n : Nat), DecS w wx gl X (X + 1) (X + 2) m (.slice ao nc cap) bs c9 (.slice a18 o.length c18) o x0 x1 vs2 ∧ vs2.getD last undef = .slice (some ⟨g, 0, none⟩) l.length n ∧ RowC wx g 76 l ∧ IsDtab (fM m last) (RM m) l ∧ m.atL (last : Int) ≠ [] ∧ X + 2 ≤ g)
                  case first =>
                    rcases HS.out.cells.2.2 last HP.out.lastLt with h0 | ⟨l, g, n, e1, e2, e3, e4, e5⟩
                    · rw [HVL.out] at h0
                      simp only [Value.slice.injEq] at h0
                      obtain ⟨rfl, rfl, rfl⟩ := h0
                      have hmb := HS.out.mb
                      rw [HLG.out, HON.out] at hmb
                      obtain ⟨b0, b1, b2⟩ := hmb.cells
                      clear hmb
                      go_wp2_with fail
                      refine (HAT.out wr (last : Int) (HL0.out.kept HS.out.chg)).mono ?_
                      rintro e w7 ⟨q, rfl, hq, hc7⟩
                      obtain ⟨aq, cq, rfl⟩ := hq.form
                      have hof := r11of_own _ (m.atL (last : Int)) w7 hq (by
                        by_cases hz : m.atL (last : Int) = []
                        · rw [hz]; simp
                        · exact (norm_at HR.out _ hz).bnd) (by
                        by_cases hz : m.atL (last : Int) = []
                        · rw [hz]; simp
                        · rw [(norm_at HR.out _ hz).1]; omega)
                      have hlog : m.atL (last : Int) ≠ [] → logI (totalI (m.atL (last : Int))) = R := fun hz => by rw [(norm_at HR.out _ hz).log, HRE.out]
                      have hlog0 : m.atL (last : Int) = [] → logI (totalI (m.atL (last : Int))) = 0 := fun hz => by rw [hz]; decide
                      obtain ⟨ql, hql⟩ : ∃ ql, m.atL (last : Int) = ql := ⟨_, rfl⟩
                      rw [hql] at hof hlog hlog0 ⊢
                      have HOF := Lib.hid hof; have HC7 := Lib.hid hc7; have HQL := Lib.hid hql; have HLO := Lib.hid hlog; have HLO0 := Lib.hid hlog0
                      clear hof hc7 hql hq b0 b1 b2 hlog hlog0
                      go_wp2_with fail
                      refine HOF.out.mono ?_
                      rintro e w8 ⟨v8, rfl, h81, h82, hc8⟩
                      have hc78 := HC7.out.trans hc8 fun _ _ h => h
                      by_cases hz : ql = []
                      · rw [if_pos (HLO0.out hz)]
                        have HE := Lib.hid (show lnRes m ps (K : Int) = .error 13 from by
                          rw [HDEC.out, HP.out.rest, show K - k = (K - k - 1) + 1 by omega, decG_none (tabM_none (by rw [HQL.out]; exact hz))]; rfl)
                        obtain ⟨a8, p8, rfl⟩ := (h82 (HLO0.out hz)).form
                        have HC8 := Lib.hid (HS.out.chg.trans hc78 fun _ _ h => h)
                        clear h81 h82 hc8 hc78 hz
                        go_wp2
                        go_returns
                        exact decSays_err HE.out rfl HC8.out
                      · have hl8 := HLO.out hz
                        rw [if_neg (by rw [hl8]; omega)]
                        obtain ⟨l, g, n, rfl, hg8, hrow8, hdt⟩ := h81 (by rw [hl8]; omega)
                        rw [hl8, ← HQL.out] at hdt
                        have hS8 := HS.out.still hc78
                        have hg8' : X + 2 ≤ g := by have h1 := HS.out.up; have h2 := HC7.out.size; omega
                        have hput := hS8.put HWX.out HGX.out last g n l HP.out.lastLt hrow8 (by rw [HRE.out]; exact hdt) (by rw [HQL.out]; exact hz) hg8'
                        have hcell8 := hS8.cells.cell last HP.out.lastLt
                        rw [HVL.out] at hcell8
                        have hfr := frozen_of_row w8 (X + 1) last _ _ hS8.cells.1
                        have hrow9 := hrow8.kept (Chg.setCell w8 ⟨X + 1, last, none⟩ (.slice (some ⟨g, 0, none⟩) l.length n)) (by simp; omega)
                        have HPUT := Lib.hid hput; have HROW9 := Lib.hid hrow9; have HDT := Lib.hid hdt; have HZ8 := Lib.hid hz; have HG8 := Lib.hid hg8'
                        have hln : vs.length = 256 := HS.out.cells.2.1
                        have HLN2 := Lib.hid hln
                        clear h82 hc8 hc78 hz hl8 hg8 hrow8 hdt hS8 hput hrow9 hg8' hln
                        go_wp2
                        go_meet
                        refine ⟨_, l, g, n, HPUT.out, ?_, HROW9.out, by rw [HRE.out]; exact HDT.out, by rw [HQL.out]; exact HZ8.out, HG8.out⟩
                        rw [List.getD_eq_getElem?_getD, List.getElem?_set_self (by rw [HLN2.out]; exact HP.out.lastLt)]; rfl
                    · rw [HVL.out] at e1
                      simp only [Value.slice.injEq] at e1
                      obtain ⟨rfl, rfl, rfl⟩ := e1
                      have hlen2 : l.length = 2 ^ R := by rw [e3.len, HRE.out]
                      have hne0 : ((l.length : Int) == 0) = false := by have := Nat.two_pow_pos R; simp; intro h0; rw [h0] at hlen2; simp at hlen2; omega
                      have HF := Lib.hid (show RowC wr g 76 l ∧ IsDtab (fM m last) (RM m) l ∧ m.atL (last : Int) ≠ [] ∧ X + 2 ≤ g from ⟨e2, e3, e4, e5⟩)
                      clear e2 e3 e4 e5 hlen2
                      go_wp2
                      go_meet
                      exact ⟨vs, l, g, pl, HS.out, HVL.out, HF.out⟩
                  case rest =>
                    clear HS HVL hcg al nl pl vs
                    obtain ⟨vs, l, g, nn, hS, hvl, hrow, hdt, hat, hgB⟩ := hcut
                    have hcg := hS.cells.cell last HP.out.lastLt
                    rw [hvl] at hcg
                    have hlen : l.length = 2 ^ R := by rw [hdt.len, HRE.out]
                    have hsum : sumTo (fM m last) 256 = 2 ^ R := by rw [← HRE.out]; exact (norm_at HR.out _ hat).sum
                    have htab : tabM m last = some l := tabM_one HR.out hat hdt
                    obtain ⟨x, hx⟩ : ∃ x, lane k (x0, x1) = x := ⟨_, rfl⟩
                    have hxl : x < 2 ^ R := by rw [← hx, ← HRE.out]; exact lane_lt ⟨HP.out.lt0, HP.out.lt1⟩
                    obtain ⟨rc0, rc1, rc2⟩ := hrow.cell x (by rw [hlen]; exact hxl)
                    obtain ⟨s, d, hs, hd, hpl, hcl⟩ := hdt.is (by rw [HRE.out]; exact hsum) (by rw [HRE.out]; exact hxl)
                    rw [HRE.out] at hcl
                    obtain ⟨bN, hbN⟩ : ∃ bN, bitsN R (fM m last s + d) = bN := ⟨_, rfl⟩
                    have hbR : bN ≤ R := by rw [← hbN]; unfold bitsN; omega
                    obtain ⟨Ba, hBa⟩ : ∃ Ba : Int, (((fM m last s + d) * 2 ^ bN : Nat) : Int) - ((2 ^ R : Nat) : Int) = Ba := ⟨_, rfl⟩
                    have hcz : cellOf R s (fM m last s + d) = ⟨s, (bN : Int), Ba⟩ := by unfold cellOf; rw [hbN, hBa]
                    have hba : ∀ mv : Nat, mv < 2 ^ bN → ∃ y : Nat, y < 2 ^ R ∧ Ba + (mv : Int) = (y : Int) := fun mv hmv => by
                      obtain ⟨y, hy1, hy2, _⟩ := dec_lefts (R := R) (q := fM m last s) (i := fM m last s + d) (m := mv) (by omega) (by omega) (by omega) (f_le hsum hs) (by rw [hbN]; exact hmv)
                      refine ⟨y, hy1, ?_⟩
                      rw [hbN] at hy2
                      omega
                    rw [hcz] at hcl
                    have hz : l.getD x cl0 = ⟨s, (bN : Int), Ba⟩ := hcl
                    rw [hz] at rc0 rc1 rc2
                    simp only [] at rc0 rc1 rc2
                    have hBb : -4096 ≤ Ba ∧ Ba < 4096 := by
                      obtain ⟨y, h1, h2⟩ := hba 0 (Nat.two_pow_pos _)
                      have : 2 ^ R ≤ 4096 := pow12 (by omega)
                      omega
                    obtain ⟨hBb0, hBb1⟩ := hBb
                    have hxx : (if (k : Int) % 2 = 1 then (x1 : Int) else (x0 : Int)) = (x : Int) := by
                      rw [← hx]; unfold lane
                      by_cases hp : k % 2 = 1
                      · rw [if_pos hp, if_pos (by omega)]
                      · rw [if_neg hp, if_neg (by omega)]
                    obtain ⟨q, hq⟩ : ∃ q, k % 2 = q := ⟨_, rfl⟩
                    have hq2 : q < 2 := by omega
                    have hqI : (k : Int) % 2 = (q : Int) := by omega
                    have hqT : (k : Int).tmod 2 = (q : Int) := by rw [Int.tmod_eq_emod_of_nonneg (by omega)]; exact hqI
                    have hrx : wc.cell? ⟨X, q, none⟩ = some (.int .i64 (x : Int)) := by
                      obtain ⟨r0, r1⟩ := hS.row.cells
                      rcases (show q = 0 ∨ q = 1 by omega) with rfl | rfl
                      · rw [r0]; unfold lane at hx; rw [if_neg (by omega)] at hx; rw [← hx]
                      · rw [r1]; unfold lane at hx; rw [if_pos (by omega)] at hx; rw [← hx]
                    have hk4 : ∀ (b : Nat) (a : Addr), a.block = b → b < wc.heap.size → ∀ ob, (wc.alloc ob).cell? a = wc.cell? a := fun b a ha hb ob => World.cell?_of_block (by rw [ha]; exact Below.heap_alloc wc ob b hb)
                    have hwg : g < wc.heap.size := hrow.lt
                    have hwx : X + 1 < wc.heap.size := by have := hS.up; omega
                    have ra0 := fun ob => (hk4 g ⟨g, x * 3, none⟩ rfl hwg ob).trans rc0
                    have ra1 := fun ob => (hk4 g ⟨g, x * 3 + 1, none⟩ rfl hwg ob).trans rc1
                    have ra2 := fun ob => (hk4 g ⟨g, x * 3 + 2, none⟩ rfl hwg ob).trans rc2
                    have rax := fun ob => (hk4 X ⟨X, q, none⟩ rfl (by omega) ob).trans hrx
                    have rag := fun ob => (hk4 (X + 1) ⟨X + 1, last, none⟩ rfl hwx ob).trans hcg
                    have hlenI : (x : Int) < (l.length : Int) := by omega
                    have HS := Lib.hid hS; have HVL := Lib.hid hvl; have HROW := Lib.hid hrow; have HDT := Lib.hid hdt; have HTAB := Lib.hid htab; have HZ2 := Lib.hid (show l.getD (lane k (x0, x1)) cl0 = ⟨s, (bN : Int), Ba⟩ from by rw [hx]; exact hz); have HS8 := Lib.hid hs; have HQ := Lib.hid hq; have HBA := Lib.hid hba
                    have hsI : (s : Int) < 256 := by omega
                    have hbI : (bN : Int) ≤ 12 := by omega
                    clear hS hvl hrow hdt hat hgB hlen hsum htab hx hxl hs hd hpl hcl hz hxx hq hk4 hwg hwx hbN hBa hcz hba
                    go_wp2
                    go_region
                    have hcA : Chg (fun _ => False) wc (wc.alloc (.cells #[.int .u8 (s : Int), .int .i64 (bN : Int), .int .i64 Ba] 76)).drew := (Chg.alloc (fun _ => False) wc _).drew
                    have hcC : (wc.alloc (.cells #[.int .u8 (s : Int), .int .i64 (bN : Int), .int .i64 Ba] 76)).drew.heap[wc.heap.size]? = some (.cells #[.int .u8 (s : Int), .int .i64 (bN : Int), .int .i64 Ba] 76 (0, 0)) := heap_alloc_new wc _
                    obtain ⟨WA, hWA⟩ : ∃ WA, (wc.alloc (.cells #[.int .u8 (s : Int), .int .i64 (bN : Int), .int .i64 Ba] 76)).drew = WA := ⟨_, rfl⟩
                    rw [hWA] at hcA hcC
                    have HCA := Lib.hid hcA; have HCC := Lib.hid hcC
                    have hbitsA := (HS.out.still hcA).bits
                    obtain ⟨C, hC⟩ : ∃ C, wc.heap.size = C := ⟨_, rfl⟩
                    rw [hC] at HCC
                    have yA1 : WA.cell? ⟨C, 1, none⟩ = some (.int .i64 (bN : Int)) := by rw [cell_of_row WA C 1 _ _ _ HCC.out]; rfl
                    clear hcA hcC ra0 ra1 ra2 rax rag rc0 rc1 rc2 hrx hcg
                    by_cases hsh : bs.length < bN
                    · have htk := rtake_no _ gl 0 bs (bN : Int) WA hbitsA (by omega)
                      have HE := Lib.hid (show lnRes m ps (K : Int) = .error 3 from by rw [HDEC.out]; exact HP.out.short hlt HTAB.out HZ2.out hsh)
                      have HTK := Lib.hid htk
                      have HCF := Lib.hid (HS.out.chg.trans HCA.out fun _ _ h => h)
                      clear htk hsh hbitsA
                      go_wp2_with fail
                      refine HTK.out.mono ?_
                      rintro e w9 ⟨rfl, rfl⟩
                      go_wp2
                      go_returns
                      exact decSays_err HE.out rfl HCF.out
                    · have htk := rtake_yes _ gl 0 bs bN WA hbitsA (by omega) (by omega)
                      have hmv := takeV_lt bs bN
                      obtain ⟨y, hy1, hy2⟩ := HBA.out _ hmv
                      have hPn := HP.out.step hlt HTAB.out HZ2.out HS8.out hsh hy2 (by rw [HRE.out]; exact hy1)
                      have hmv4 : takeV bs bN < 4096 := Nat.lt_of_lt_of_le hmv (pow12 (by omega))
                      obtain ⟨mv, hmve⟩ : ∃ mv, takeV bs bN = mv := ⟨_, rfl⟩
                      obtain ⟨bs', hbs'⟩ : ∃ bs', takeR bs bN = bs' := ⟨_, rfl⟩
                      rw [hmve, hbs'] at htk
                      rw [hmve] at hy2 hmv4
                      rw [hbs'] at hPn
                      have hmvI : (mv : Int) < 4096 := by omega
                      have hyI : (y : Int) < 4096 := by have : 2 ^ R ≤ 4096 := pow12 (by omega); omega
                      have HPN := Lib.hid hPn; have HTK := Lib.hid htk
                      clear hPn htk hmv hmve hbs' hbitsA hsh hy1 hmv4
                      go_wp2_with fail
                      refine HTK.out.mono ?_
                      rintro e w9 ⟨v9, rfl, hbits9, hc9⟩
                      clear yA1
                      obtain ⟨c', rfl, hlc, hcm, hcell⟩ := hbits9
                      have hbits9 : RdL w9 (.slice (some ⟨gl, 0, none⟩) bs'.length c') gl 0 bs' := ⟨c', rfl, hlc, hcm, hcell⟩
                      have hcw9 := HCA.out.trans hc9 fun _ _ h => h
                      have hS9 := HS.out.still hcw9
                      have hC9 := (hc9.block C (lt_of_block HCC.out) (by simp)).trans HCC.out
                      have hCX : X + 1 < C := by have := HS.out.up; omega
                      have y0c : w9.cell? ⟨C, 0, none⟩ = some (.int .u8 (s : Int)) := by rw [cell_of_row w9 C 0 _ _ _ hC9]; rfl
                      have y1c : w9.cell? ⟨C, 1, none⟩ = some (.int .i64 (bN : Int)) := by rw [cell_of_row w9 C 1 _ _ _ hC9]; rfl
                      have y2c : w9.cell? ⟨C, 2, none⟩ = some (.int .i64 Ba) := by rw [cell_of_row w9 C 2 _ _ _ hC9]; rfl
                      have hfx := frozen_of_row w9 X q _ _ hS9.row
                      have hxq : ∃ u, w9.cell? ⟨X, q, none⟩ = some u := by
                        obtain ⟨r0, r1⟩ := hS9.row.cells
                        rcases (show q = 0 ∨ q = 1 by omega) with h0 | h0
                        · rw [h0]; exact ⟨_, r0⟩
                        · rw [h0]; exact ⟨_, r1⟩
                      obtain ⟨ux, hux⟩ := hxq
                      have h10 := Chg.setCell w9 ⟨X, q, none⟩ (.int .i64 (y : Int))
                      have hC10 := (h10.block C (lt_of_block hC9) (by simp; omega)).trans hC9
                      have h11 := Chg.alloc (fun _ => False) (w9.setCell ⟨X, q, none⟩ (.int .i64 (y : Int))) (.cells #[.int .u8 (s : Int)] 5)
                      have hown11 := h11.own (h10.own hS9.own fun k hk he => by have := (own_ge hS9.own hk).1; simp at he; omega) (by simp)
                      have hrd11 : RdB _ _ [s] := RdB.of_own (own_oneB (w9.setCell ⟨X, q, none⟩ (.int .i64 (y : Int))) s)
                      have hC11 := (h11.block C (lt_of_block hC10) (by simp)).trans hC10
                      have hsz10 : (w9.setCell ⟨X, q, none⟩ (.int .i64 (y : Int))).heap.size = w9.heap.size := by simp [World.setCell]
                      have hup11 : X + 2 ≤ w9.heap.size := hS9.up
                      have z0c : (w9.setCell ⟨X, q, none⟩ (.int .i64 (y : Int))).cell? ⟨C, 0, none⟩ = some (.int .u8 (s : Int)) := by rw [cell_of_row _ C 0 _ _ _ hC10]; rfl
                      obtain ⟨W10, hW10⟩ : ∃ W10, w9.setCell ⟨X, q, none⟩ (.int .i64 (y : Int)) = W10 := ⟨_, rfl⟩
                      have HHN := Lib.hid (show ∀ wz out' sz, wz.ownsRow (X + 2) 5 1 out' (o ++ [sz]).length (bv (o ++ [sz])) → Chg (fun k => some k = Value.ownBlock (.slice a18 o.length c18)) (W10.alloc (.cells #[.int .u8 (s : Int)] 5)) wz → DecS w wz gl X (X + 1) (X + 2) m (.slice ao nc cap) bs' c' out' (o ++ [sz]) (setLane k (x0, x1) y).1 (setLane k (x0, x1) y).2 vs from fun wz out' sz h1 h2 => HS.out.step HWX.out HGX.out hcw9 hbits9 k y sz h1 (by rw [HQ.out, hW10]; exact h2))
                      rw [hW10] at hown11 hrd11 hC11 hsz10 z0c h11
                      rw [hsz10] at hrd11
                      have HOWN := Lib.hid hown11; have HRD := Lib.hid hrd11; have HC11 := Lib.hid hC11
                      have HUP := Lib.hid (show X + 2 ≤ (W10.alloc (.cells #[.int .u8 (s : Int)] 5)).heap.size from by have := h11.size; omega)
                      have HOL := Lib.hid HP.out.len
                      clear hbits9 hcw9 hS9 hC9 h10 hC10 h11 hown11 hrd11 hC11 hup11 hlc hcm hcell hc9 HTK HS HCA HCC HROW HDT HVL y1c
                      go_wp2_with (at_builtin; refine wpList_append_bytes rfl (.tmp 129) (.tmp 132) rfl (X + 2) (.slice a18 o.length c18) o rfl HOWN.out _ [s] rfl HRD.out HUP.out (by have := HOL.out; simp; omega) ?_)
                      intro v12 w12 hown12 hc12
                      rw [show o.length + 1 = (o ++ [s]).length by simp] at hown12
                      obtain ⟨a12, c12, hv12⟩ : ∃ a c, v12 = .slice a (o ++ [s]).length c := by
                        rcases hown12.2 with ⟨h1, h2⟩ | ⟨g', cap', _, h1, _⟩
                        · exact ⟨none, 0, by rw [h1, h2]⟩
                        · exact ⟨_, _, h1⟩
                      subst hv12
                      have hC12 := (hc12.block C (lt_of_block HC11.out) (fun he => by
                        obtain ⟨_, cur, hcur⟩ := own_ge HOWN.out he.symm
                        rw [HC11.out] at hcur
                        simp at hcur)).trans HC11.out
                      have y0z : w12.cell? ⟨C, 0, none⟩ = some (.int .u8 (s : Int)) := by rw [cell_of_row w12 C 0 _ _ _ hC12]; rfl
                      have HSN := Lib.hid (HHN.out w12 _ s hown12 hc12)
                      obtain ⟨xa, hxa⟩ : ∃ xa, (setLane k (x0, x1) y).1 = xa := ⟨_, rfl⟩
                      obtain ⟨xb, hxb⟩ : ∃ xb, (setLane k (x0, x1) y).2 = xb := ⟨_, rfl⟩
                      rw [hxa, hxb] at HSN HPN
                      clear hown12 hc12 hC12 HHN HOWN HRD HC11 HUP y0c y2c hfx hux z0c hW10 hsz10 hxa hxb
                      go_wp2
                      go_roundw
                      case rel => exact ⟨k + 1, s, c', c12, bs', a12, o ++ [s], xa, xb, vs, by omega, rfl, rfl, rfl, by go_num, HSN.out, HPN.out⟩
                      case measure => simp [intOf]; omega
                · have hkK : k = K := by omega
                  subst hkK
                  have hfin := HP.out.fin
                  rw [← HDEC.out] at hfin
                  obtain ⟨r0, r1⟩ := HS.out.row.cells
                  have HFIN := Lib.hid hfin; have HRDO := Lib.hid (RdB.of_own HS.out.own)
                  clear hfin
                  by_cases hx0 : x0 = 0
                  · subst hx0
                    by_cases hx1 : x1 = 0
                    · subst hx1
                      by_cases hb0 : bs = []
                      · have HE := Lib.hid (show lnRes m ps (k : Int) = .ok o from by rw [HFIN.out, if_pos ⟨rfl, rfl, hb0⟩])
                        subst hb0
                        go_wp2
                        go_returns
                        exact ⟨_, by rw [HE.out]; rfl, by rw [HE.out]; exact HRDO.out, HS.out.chg⟩
                      · have HE := Lib.hid (show lnRes m ps (k : Int) = .error 14 from by rw [HFIN.out, if_neg fun hh => hb0 hh.2.2])
                        have hbl := List.length_pos_iff.2 hb0
                        have hbl2 : (0 : Int) < (bs.length : Int) := by omega
                        obtain ⟨nb, hnb⟩ : ∃ nb, bs.length = nb := ⟨_, rfl⟩
                        rw [hnb] at hbl hbl2 ⊢
                        clear hb0 hnb
                        go_wp2
                        go_returns
                        exact decSays_err HE.out rfl HS.out.chg
                    · have HE := Lib.hid (show lnRes m ps (k : Int) = .error 14 from by rw [HFIN.out, if_neg fun hh => hx1 hh.2.1])
                      have hb1 : ((x1 : Int) != 0) = true := by simp; omega
                      have hb2 : ((x1 : Int) == 0) = false := by simp; omega
                      go_wp2
                      go_returns
                      exact decSays_err HE.out rfl HS.out.chg
                  · have HE := Lib.hid (show lnRes m ps (k : Int) = .error 14 from by rw [HFIN.out, if_neg fun hh => hx0 hh.1])
                    have hb1 : ((x0 : Int) != 0) = true := by simp; omega
                    have hb2 : ((x0 : Int) == 0) = false := by simp; omega
                    go_wp2
                    go_returns
                    exact decSays_err HE.out rfl HS.out.chg
        · have hop := ropen_no _ ps w2 HB2.out hm (by rw [HNX.out]; have := HLN.out; omega)
          have HE := Lib.hid (show lnRes m ps n = .error 2 from by unfold lnRes; rw [if_pos HOK.out, if_neg hm])
          have HOP := Lib.hid hop
          clear hm hop
          go_wp2_with fail
          refine HOP.out.mono ?_
          rintro e w3 ⟨rfl, rfl⟩
          clear HOP
          go_wp2
          go_returns
          exact decSays_err HE.out rfl HC2.out
  · rw [decide_eq_false hr]
    have HE := Lib.hid (show lnRes m ps n = .error 1 from by unfold lnRes; rw [if_neg fun hh => hr hh.1])
    clear hr
    go_wp2
    go_returns
    exact decSays_err HE.out rfl HC2.out

end Go.Proofs.Ytokeoebhmjefoaa

/- What the document's own Counts (puncheonref08) tells: the walk. -/
namespace Go.Proofs.Ytokeoebhmjefoaa
open Go.RowKit

/-- the sum of a row of numbers in memory -/
def sumAt (w : World) (g : Nat) : Int := match w.heap[g]? with
  | some (.cells a _ _) => tot (a.toList.map intOf)
  | _ => 0
theorem RowI.sumAt {w : World} {g : Nat} {t : TypeId} {zs : List Int} (h : RowI w g t zs) : sumAt w g = tot zs := by
  unfold Go.Proofs.Ytokeoebhmjefoaa.sumAt
  rw [show w.heap[g]? = _ from h]
  simp only [iw, List.map_map]
  congr 1
  rw [show (intOf ∘ fun z => Value.int IntKind.i64 z) = id from rfl, List.map_id]

def fQ (c : List Int) (S n : Int) (i : Nat) : Int := if c.getD i 0 * S / n = 0 then min (c.getD i 0) 1 else c.getD i 0 * S / n
def fR (c : List Int) (S n : Int) (i : Nat) : Int := c.getD i 0 * S % n
def fH (c : List Int) (S n : Int) (i : Nat) : Bool := decide (c.getD i 0 * S / n = 0)

theorem base_bound {c : List Int} {S : Int} (h : Fit c S) (hS : S ≤ 4096) (s : Nat) (hs : s < 256) : 0 ≤ (qBase c S (tot c)).getD s 0 ∧ (qBase c S (tot c)).getD s 0 ≤ 4096 := by
  have hl : s < c.length := by rw [h.len]; exact hs
  rw [base_at s hl]
  have hx := h.at s hs
  have hn := h.some
  have hle : c.getD s 0 ≤ tot c := by
    have h1 := tot_take_le c (s + 1) h.low
    rw [tot_take_succ c s hl] at h1
    have := tot_nonneg (c.take s) (fun y hy => h.low y (List.mem_of_mem_take hy))
    omega
  have d := div_parts (c.getD s 0) S (tot c) hn hx h.sz
  have h2 : c.getD s 0 * S / tot c ≤ S := by
    refine Int.ediv_le_of_le_mul hn ?_
    have := Int.mul_le_mul_of_nonneg_right hle (show 0 ≤ S by have := h.sz; omega)
    rw [Int.mul_comm S]; exact this
  split <;> omega

theorem mem_bound {l : List Int} {lo hi : Int} (hl : l.length = 256) (h : ∀ s, s < 256 → lo ≤ l.getD s 0 ∧ l.getD s 0 ≤ hi) : ∀ z ∈ l, lo ≤ z ∧ z ≤ hi := by
  intro z hz
  obtain ⟨i, hi', rfl⟩ := List.mem_iff_getElem.1 hz
  have := h i (by omega)
  rwa [List.getD_eq_getElem?_getD, List.getElem?_eq_getElem hi'] at this

theorem give_bound {c : List Int} {S : Int} (h : Fit c S) (hS : S ≤ 4096) {k : Nat} {p : List Int × List Bool} (g : Gave (rest0 c S (tot c)) (qBase c S (tot c)) (had0 c S (tot c)) k p) : ∀ z ∈ p.1, 0 ≤ z ∧ z ≤ 4294967296 := by
  refine mem_bound g.len1 fun s hs => ?_
  have h1 := g.val s hs
  have h2 := base_bound h hS s hs
  rw [h1]
  split <;> omega

theorem r8richest_l (g h o cap : Nat) (t : TypeId) (q c : List Int) (w : World) (hr : RowI w g t q) (hh : RdI w (.slice (some ⟨h, o, none⟩) c.length cap) c) (hl : q.length = 256) (hl2 : c.length = 256) :
    Calls Try.prog 93 #[.slice (some ⟨g, 0, none⟩) 256 256, .slice (some ⟨h, o, none⟩) c.length cap] w fun e w' => e = .returned (.int .i64 ((richTo q c 255 : Nat) : Int)) ∧ ∃ m, w' = w.drewN m := by
  rw [hl2] at hh ⊢
  exact r8richest_any g h o cap t q c w hr hh hl hl2

set_option maxHeartbeats 8000000 in
set_option maxRecDepth 100000 in
theorem r8counts_room (v : Value) (c : List Int) (r : Int) (w : World) (h : RdI w v c) (hb : ∀ z ∈ c, -9223372036854775808 ≤ z ∧ z ≤ 9223372036854775807) (hl : c.length < 100000000000) (hr : -9223372036854775808 ≤ r ∧ r ≤ 9223372036854775807) :
    Calls Try.prog 67 #[v, .int .i64 r] w fun e w' => NormSays w c r e w' ∧ RoomE e := by
  have HT := Lib.hid (r5total_any v c w h hb hl); have HM := Lib.hid (r5many_any v c w h hb hl)
  obtain ⟨ao, cap, rfl⟩ := h.form
  have H := Lib.hid h; have HB := Lib.hid hb
  clear h hb
  by_cases h0 : totalI c = 0
  · have hno : ¬ normOk c r := fun hk => (total_pos.1 h0) ⟨hk.1, hk.2.1⟩
    have HNO := Lib.hid hno
    rw [h0] at HT
    clear hno h0
    go_enter Try.func67, Try.ntmps67
    go_wp2_with fail
    refine HT.out.mono ?_
    rintro e w' ⟨rfl, rfl⟩
    go_wp2
    go_ret2
    exact ⟨⟨_, by rw [if_neg HNO.out]; rfl, fun hk => absurd hk HNO.out, fun _ => .inl ⟨rfl, _, _, rfl⟩, Chg.refl _ _⟩, .of (Nat.le_refl _)⟩
  have hpos : isRight c ∧ 0 < tot c := by
    rcases Decidable.em (isRight c ∧ 0 < tot c) with hh | hh
    · exact hh
    · exact absurd (total_pos.2 hh) h0
  have htn : totalI c = tot c := by unfold totalI; rw [if_pos hpos.1]
  have hmn : manyI c = pos c := by unfold manyI; rw [if_pos hpos.1]
  rw [htn] at HT h0
  rw [hmn] at HM
  have hn1 : 0 < tot c := hpos.2
  have hn2 : tot c ≤ 1073741824 := hpos.1.2.2
  have hp256 : pos c ≤ 256 := by have := pos_le c; rw [hpos.1.1] at this; exact this
  obtain ⟨n, hn⟩ : ∃ n, tot c = n := ⟨_, rfl⟩
  rw [hn] at HT hn1 hn2 h0
  have hn0 : (n == 0) = false := by simp; omega
  by_cases hr1 : r < 1
  · have HNO := Lib.hid (show ¬ normOk c r from fun hk => by have := hk.2.2.1; omega)
    clear hpos htn hmn
    go_enter Try.func67, Try.ntmps67
    go_wp2_with fail
    refine HT.out.mono ?_
    rintro e w' ⟨rfl, rfl⟩
    go_wp2
    go_ret2
    exact ⟨⟨_, by rw [if_neg HNO.out]; rfl, fun hk => absurd hk HNO.out, fun _ => .inl ⟨rfl, _, _, rfl⟩, Chg.refl _ _⟩, .of (Nat.le_refl _)⟩
  by_cases hr2 : 12 < r
  · have HNO := Lib.hid (show ¬ normOk c r from fun hk => by have := hk.2.2.2.1; omega)
    clear hpos htn hmn
    go_enter Try.func67, Try.ntmps67
    go_wp2_with fail
    refine HT.out.mono ?_
    rintro e w' ⟨rfl, rfl⟩
    go_wp2
    go_ret2
    exact ⟨⟨_, by rw [if_neg HNO.out]; rfl, fun hk => absurd hk HNO.out, fun _ => .inl ⟨rfl, _, _, rfl⟩, Chg.refl _ _⟩, .of (Nat.le_refl _)⟩
  obtain ⟨k, rfl⟩ : ∃ k : Nat, r = (k : Int) := ⟨r.toNat, by omega⟩
  have hk12 : k ≤ 12 := by omega
  have HPW := Lib.hid (r8power_any k w (by omega))
  have hS := pow12 hk12
  have hS1 := Nat.two_pow_pos k
  obtain ⟨S, hSe⟩ : ∃ S, 2 ^ k = S := ⟨_, rfl⟩
  rw [hSe] at HPW hS hS1
  have hokI : normOk c (k : Int) ↔ (pos c : Int) ≤ (S : Int) := by
    unfold normOk
    rw [Int.toNat_natCast, hSe]
    exact ⟨fun hh => hh.2.2.2.2, fun hh => ⟨hpos.1, hpos.2, by omega, by omega, hh⟩⟩
  have hnr : normR c (k : Int) = normC c (S : Int) := by unfold normR; rw [Int.toNat_natCast, hSe]
  by_cases hmany : (S : Int) < (pos c : Int)
  · have HNO := Lib.hid (show ¬ normOk c (k : Int) from fun hk => by have := hokI.1 hk; omega)
    obtain ⟨p, hp⟩ : ∃ p, pos c = p := ⟨_, rfl⟩
    rw [hp] at hmany HM
    have hmany' : S < p := by omega
    clear hpos htn hmn hokI hnr hp hp256 hn hSe
    go_enter Try.func67, Try.ntmps67
    go_wp2_with fail
    refine HT.out.mono ?_
    rintro e w' ⟨rfl, rfl⟩
    go_wp2_with fail
    refine HPW.out.mono ?_
    rintro e w' ⟨rfl, rfl⟩
    go_wp2_with fail
    refine HM.out.mono ?_
    rintro e w' ⟨rfl, rfl⟩
    go_wp2
    go_ret2
    exact ⟨⟨_, by rw [if_neg HNO.out]; rfl, fun hk => absurd hk HNO.out, fun _ => .inl ⟨rfl, _, _, rfl⟩, Chg.refl _ _⟩, .of (Nat.le_refl _)⟩
  have HOK := Lib.hid (show normOk c (k : Int) from hokI.2 (by omega))
  have hfit : Fit c (S : Int) := by have := HOK.out.fit; rw [Int.toNat_natCast, hSe] at this; exact this
  have HFIT := Lib.hid hfit; have HNR := Lib.hid hnr; have HNN := Lib.hid hn
  obtain ⟨p, hp⟩ : ∃ p, pos c = p := ⟨_, rfl⟩
  rw [hp] at hmany HM
  have hmany' : ¬ S < p := by omega
  have HLEN := Lib.hid hpos.1.1
  have HRG := Lib.hid hpos.1
  have hSI : (S : Int) ≤ 4096 := by omega
  clear hpos htn hmn hokI hnr hp hp256 hn hSe hfit
  go_enter Try.func67, Try.ntmps67
  go_wp2_with fail
  refine HT.out.mono ?_
  rintro e w' ⟨rfl, rfl⟩
  go_wp2_with fail
  refine HPW.out.mono ?_
  rintro e w' ⟨rfl, rfl⟩
  go_wp2_with fail
  refine HM.out.mono ?_
  rintro e w' ⟨rfl, rfl⟩
  clear HT HPW HM
  obtain ⟨w2, hw2⟩ : ∃ w2, w2 = w' := ⟨_, rfl⟩
  subst hw2
  go_wp2_with (at_make; refine wpList_make_ints rfl _ _ rfl 256 256 256 rfl rfl rfl rfl (by omega) (fillI (fQ c S n) 0) (fillI_zero _) ?_)
  intro w3 q3 c3
  go_wp2_with (at_make; refine wpList_make_ints rfl _ _ rfl 256 256 256 rfl rfl rfl rfl (by omega) (fillI (fR c S n) 0) (fillI_zero _) ?_)
  intro w4 q4 c4
  go_wp2_with (at_make; refine wpList_make_bools rfl _ _ rfl 256 256 256 rfl rfl rfl rfl (by omega) (fillB (fH c S n) 0) (fillB_zero _) ?_)
  intro w5 q5 c5
  obtain ⟨gq, hgq⟩ : ∃ gq, gq = w2.heap.size := ⟨_, rfl⟩
  obtain ⟨gr, hgr⟩ : ∃ gr, gr = w3.heap.size := ⟨_, rfl⟩
  obtain ⟨gh, hgh⟩ : ∃ gh, gh = w4.heap.size := ⟨_, rfl⟩
  rw [← hgq] at q3 ⊢
  rw [← hgr] at q4 ⊢
  rw [← hgh] at q5 ⊢
  have l1 : gq < gr := by rw [hgr]; exact q3.lt
  have l2 : gr < gh := by rw [hgh]; exact q4.lt
  have Q5 := Lib.hid ((q3.kept c4 (by simp)).kept c5 (by simp)); have R5 := Lib.hid (q4.kept c5 (by simp)); have T5 := Lib.hid q5
  have C5 := Lib.hid ((c3.trans c4 (fun _ _ h => h)).trans c5 (fun _ _ h => h))
  have LQ := Lib.hid (show w2.heap.size ≤ gq by omega); have L1 := Lib.hid l1; have L2 := Lib.hid l2
  clear q3 q4 q5 c3 c4 c5 l1 l2 hgq hgr hgh
  go_wp2
  go_loopw [11] (fun o11 wr => ∃ s : Nat, s ≤ 256 ∧ o11 = .int .i64 (s : Int) ∧ RowI wr gq 3 (fillI (fQ c S n) s) ∧ RowI wr gr 3 (fillI (fR c S n) s) ∧ RowT wr gh 4 (fillB (fH c S n) s) ∧ Chg (fun _ => False) w2 wr) (fun o11 _ => 256 - (intOf o11).toNat)
  case atStart => exact ⟨0, Nat.zero_le _, rfl, Q5.out, R5.out, T5.out, C5.out⟩
  case round =>
    obtain ⟨s, hs, rfl, rq, rr, rt, hc⟩ := hrel
    clear Q5 R5 T5 C5
    by_cases hlt : s < 256
    · have hsl : s < c.length := by rw [HLEN.out]; exact hlt
      obtain ⟨g0, o0, rfl, hx0⟩ := H.out.at s hsl
      have hg0 : g0 < w2.heap.size := block_lt_of_cell hx0
      have hlq := LQ.out; have hl1 := L1.out; have hl2 := L2.out
      have hxw : wr.cell? ⟨g0, o0 + s, none⟩ = some (.int .i64 (c.getD s 0)) := by rw [World.cell?_of_block (w := w2) (hc.block g0 hg0 (by simp))]; exact hx0
      have hone := HRG.out.one s hsl
      have eQ : fQ c S n s = if c.getD s 0 * (S : Int) / n = 0 then min (c.getD s 0) 1 else c.getD s 0 * (S : Int) / n := rfl
      have eR : fR c S n s = c.getD s 0 * (S : Int) % n := rfl
      have eH : fH c S n s = decide (c.getD s 0 * (S : Int) / n = 0) := rfl
      have fsQ := fillI_set (fQ c S n) s hlt
      have fsR := fillI_set (fR c S n) s hlt
      have fsH := fillB_set (fH c S n) s hlt
      have fkH := fillB_skip (fH c S n) s hlt
      obtain ⟨x, hx⟩ : ∃ x, c.getD s 0 = x := ⟨_, rfl⟩
      rw [hx] at hxw hone eQ eR eH
      obtain ⟨hx1, hx2⟩ := hone
      have hP0 : 0 ≤ x * (S : Int) := Int.mul_nonneg hx1 (by omega)
      have hP1 : x * (S : Int) ≤ 1073741824 * 4096 := Int.mul_le_mul hx2 (by omega) (by omega) (by omega)
      obtain ⟨P, hP⟩ : ∃ P, x * (S : Int) = P := ⟨_, rfl⟩
      rw [hP] at hP0 hP1 eQ eR eH
      have hP2 : P ≤ 4398046511104 := by omega
      have dQ := Int.ediv_nonneg hP0 (show 0 ≤ n by omega)
      have dQ2 := Int.ediv_le_self n hP0
      have dR := Int.emod_nonneg P (show n ≠ 0 by omega)
      have dR2 := Int.emod_lt_of_pos P hn1
      have tq : P.tdiv n = P / n := Int.tdiv_eq_ediv_of_nonneg hP0
      have tr : P.tmod n = P % n := Int.tmod_eq_emod_of_nonneg hP0
      obtain ⟨Q, hQ⟩ : ∃ Q, P / n = Q := ⟨_, rfl⟩
      obtain ⟨R, hR⟩ : ∃ R, P % n = R := ⟨_, rfl⟩
      rw [hQ] at eQ eH dQ dQ2 tq
      rw [hR] at eR dR dR2 tr
      have hwP : IntKind.i64.wrap P = P := by rw [IntKind.wrap_i64]; omega
      have hwQ : IntKind.i64.wrap Q = Q := by rw [IntKind.wrap_i64]; omega
      have hwR : IntKind.i64.wrap R = R := by rw [IntKind.wrap_i64]; omega
      have s1 := Chg.setCell wr ⟨gq, s, none⟩ (.int .i64 Q)
      have rq1 := rq.set s Q
      have rr1 := rr.kept s1 (by simp; omega)
      have rt1 := rt.kept s1 (by simp; omega)
      obtain ⟨W1, hW1⟩ : ∃ W1, wr.setCell ⟨gq, s, none⟩ (.int .i64 Q) = W1 := ⟨_, rfl⟩
      rw [hW1] at s1 rq1 rr1 rt1
      have s2 := Chg.setCell W1 ⟨gr, s, none⟩ (.int .i64 R)
      have rr2 := rr1.set s R
      have rq2 := rq1.kept s2 (by simp; omega)
      have rt2 := rt1.kept s2 (by simp; omega)
      obtain ⟨W2, hW2⟩ : ∃ W2, W1.setCell ⟨gr, s, none⟩ (.int .i64 R) = W2 := ⟨_, rfl⟩
      rw [hW2] at s2 rr2 rq2 rt2
      have c2 : Chg (fun _ => False) w2 W2 := (hc.trans s1 (S := fun _ => False) (fun q hq hh => by simp at hh; omega)).trans s2 (fun q hq hh => by simp at hh; omega)
      have a0 := rq.cell s (by rw [fillI_length]; exact hlt)
      have f0 := rq.free s
      have a1 := rr1.cell s (by rw [fillI_length]; exact hlt)
      have f1 := rr1.free s
      have kx1 : W1.cell? ⟨g0, o0 + s, none⟩ = some (.int .i64 x) := by rw [World.cell?_of_block (w := wr) (s1.block g0 (by have := hc.size; omega) (by simp; omega))]; exact hxw
      have aq2 := rq2.cell s (by rw [List.length_set, fillI_length]; exact hlt)
      rw [iset_getD _ _ _ _ (by rw [fillI_length]; exact hlt), if_pos rfl] at aq2
      have hsI : (s : Int) < 256 := by omega
      have hslI : (s : Int) < (c.length : Int) := by omega
      have d8 : decide ((s : Int) < 256) = true := by simp; omega
      generalize (fillI (fQ c S n) s).getD s 0 = ov at a0
      generalize (fillI (fR c S n) s).getD s 0 = ov2 at a1
      rw [eR] at fsR
      have FSR := Lib.hid fsR
      rw [← eR] at fsR
      by_cases hQ0 : Q = 0
      · subst hQ0
        rw [if_pos rfl] at eQ
        rw [eH, decide_eq_true rfl] at fsH
        rw [eQ] at fsQ
        have s3 := Chg.setCell W2 ⟨gh, s, none⟩ (.bool true)
        have rt3 := rt2.set s true
        have rq3 := rq2.kept s3 (by simp; omega)
        have rr3 := rr2.kept s3 (by simp; omega)
        have at2 := rt2.cell s (by rw [fillB_length]; exact hlt)
        have ft2 := rt2.free s
        obtain ⟨W3, hW3⟩ : ∃ W3, W2.setCell ⟨gh, s, none⟩ (.bool true) = W3 := ⟨_, rfl⟩
        rw [hW3] at s3 rt3 rq3 rr3
        have c3 : Chg (fun _ => False) w2 W3 := c2.trans s3 (fun q hq hh => by simp at hh; omega)
        have kx3 : W3.cell? ⟨g0, o0 + s, none⟩ = some (.int .i64 x) := by rw [World.cell?_of_block (w := w2) (c3.block g0 hg0 (by simp))]; rw [hx0, hx]
        have aq3 := rq3.cell s (by rw [List.length_set, fillI_length]; exact hlt)
        have fq3 := rq3.free s
        have rq4 : ∀ M, RowI (W3.setCell ⟨gq, s, none⟩ (.int .i64 M)) gq 3 ((fillI (fQ c S n) s).set s M) := fun M => by have := rq3.set s M; rw [setset] at this; exact this
        have s4 : ∀ M, Chg (fun k => k = gq) W3 (W3.setCell ⟨gq, s, none⟩ (.int .i64 M)) := fun M => Chg.setCell W3 ⟨gq, s, none⟩ _
        rw [fsH] at rt3
        rw [FSR.out] at rr3
        generalize (fillB (fH c S n) s).getD s false = ob at at2
        generalize ((fillI (fQ c S n) s).set s 0).getD s 0 = ov3 at aq3
        have RQ4 := Lib.hid rq4; have S4 := Lib.hid s4; have RR3 := Lib.hid rr3; have RT3 := Lib.hid rt3; have C3 := Lib.hid c3; have FSQ := Lib.hid fsQ; have TQ := Lib.hid tq; have TR := Lib.hid tr
        clear rq4 s4 rr3 rt3 c3 fsQ fsR fsH fkH rq rr rt hc rq1 rr1 rt1 rr2 rq2 rt2 rq3 s1 s2 s3 c2 eQ eR eH hx hx0 hQ hR FSR
        rcases (show x = 0 ∨ x = 1 ∨ 2 ≤ x by omega) with hx' | hx' | hx'
        · subst hx'
          go_wp2
          all_goals first
            | (exfalso; omega)
            | (go_roundw
               case rel => exact ⟨s + 1, by omega, by go_num, by rw [← FSQ.out]; exact RQ4.out 0, RR3.out.kept (S4.out 0) (by have := L1.out; omega), RT3.out.kept (S4.out 0) (by have := L1.out; have := L2.out; omega), C3.out.trans (S4.out 0) (fun q hq hh => by have := LQ.out; omega)⟩
               case measure => simp [intOf]; omega)
        · subst hx'
          go_wp2
          all_goals first
            | (exfalso; omega)
            | (go_roundw
               case rel => exact ⟨s + 1, by omega, by go_num, by rw [← FSQ.out]; exact RQ4.out 1, RR3.out.kept (S4.out 1) (by have := L1.out; omega), RT3.out.kept (S4.out 1) (by have := L1.out; have := L2.out; omega), C3.out.trans (S4.out 1) (fun q hq hh => by have := LQ.out; omega)⟩
               case measure => simp [intOf]; omega)
        · have hmin : min x 1 = 1 := by omega
          rw [hmin] at FSQ
          go_wp2
          all_goals first
            | (exfalso; omega)
            | (go_roundw
               case rel => exact ⟨s + 1, by omega, by go_num, by rw [← FSQ.out]; exact RQ4.out 1, RR3.out.kept (S4.out 1) (by have := L1.out; omega), RT3.out.kept (S4.out 1) (by have := L1.out; have := L2.out; omega), C3.out.trans (S4.out 1) (fun q hq hh => by have := LQ.out; omega)⟩
               case measure => simp [intOf]; omega)
      · rw [if_neg hQ0] at eQ
        have fkH' := fkH (by rw [eH]; exact decide_eq_false hQ0)
        rw [eQ] at fsQ
        have hQb : (Q == 0) = false := by simp [hQ0]
        rw [fsQ] at rq2
        rw [FSR.out] at rr2
        rw [fkH'] at rt2
        have RQ2 := Lib.hid rq2; have RR2 := Lib.hid rr2; have RT2 := Lib.hid rt2; have C2 := Lib.hid c2
        clear rq2 rr2 rt2 c2 fsQ fsR fsH fkH fkH' rq rr rt hc rq1 rr1 rt1 s1 s2 eQ eR eH hx hx0 hQ hR FSR
        go_wp2
        go_roundw
        case rel => exact ⟨s + 1, by omega, by go_num, RQ2.out, RR2.out, RT2.out, C2.out⟩
        case measure => simp [intOf]; omega
    · have hse : s = 256 := by omega
      have hsI : (s : Int) = 256 := by omega
      rw [hse] at rq rr rt
      rw [hsI]
      clear hse hsI hs hlt
      have hlenc := HLEN.out
      rw [fillI_all (fQ c S n) (qBase c S n) (by simp [qBase, hlenc]) (fun u hu => base_at u (by omega))] at rq
      rw [fillI_all (fR c S n) (rest0 c S n) (by simp [rest0, hlenc]) (fun u hu => rest_at u (by omega))] at rr
      rw [fillB_all (fH c S n) (had0 c S n) (by simp [had0, hlenc]) (fun u hu => had_at u (by omega))] at rt
      have hfit := HFIT.out
      have hroom := give_room (size := (S : Int)) hfit.low rfl hfit.some
      have hgave : ∀ j, j ≤ cntN (rest0 c S (tot c)) (had0 c S (tot c)) → Gave (rest0 c S (tot c)) (qBase c S (tot c)) (had0 c S (tot c)) j (giveN (rest0 c S (tot c)) j (qBase c S (tot c)) (had0 c S (tot c))) := fun j hj =>
        Go.Proofs.Ytokeoebhmjefoaa.gave (by simp [rest0, hlenc]) (by simp [qBase, hlenc]) (by simp [had0, hlenc]) j hj
      have hgs := hfit.gaveSum
      have hgc : gaveC c S (tot c) = (giveN (rest0 c S (tot c)) ((S : Int) - tot (qBase c S (tot c))).toNat (qBase c S (tot c)) (had0 c S (tot c))).1 := rfl
      have hbnd : ∀ j, j ≤ cntN (rest0 c S (tot c)) (had0 c S (tot c)) → ∀ z ∈ (giveN (rest0 c S (tot c)) j (qBase c S (tot c)) (had0 c S (tot c))).1, 0 ≤ z ∧ z ≤ 4294967296 := fun j hj => give_bound hfit hSI (hgave j hj)
      rw [← HNN.out] at rq rr rt
      have hrl : (rest0 c S (tot c)).length = 256 := by simp [rest0, hlenc]
      obtain ⟨rs, hrs⟩ : ∃ rs, rest0 c S (tot c) = rs := ⟨_, rfl⟩
      obtain ⟨qb, hqb⟩ : ∃ qb, qBase c S (tot c) = qb := ⟨_, rfl⟩
      obtain ⟨hd, hhd⟩ : ∃ hd, had0 c S (tot c) = hd := ⟨_, rfl⟩
      rw [hrs] at rr hroom hgave hgc hbnd hrl
      rw [hqb] at rq hroom hgave hgc hbnd hgs
      rw [hhd] at rt hroom hgave hgc hbnd
      obtain ⟨D, hD⟩ : ∃ D, ((S : Int) - tot qb).toNat = D := ⟨_, rfl⟩
      rw [hD] at hroom hgc
      obtain ⟨tB, htB⟩ : ∃ tB, tot qb = tB := ⟨_, rfl⟩
      rw [htB] at hD hgs
      have HROOM := Lib.hid hroom; have HGAVE := Lib.hid hgave; have HGS := Lib.hid hgs; have HGC := Lib.hid hgc; have HBND := Lib.hid hbnd; have HRL := Lib.hid hrl; have HD := Lib.hid hD; have HTB := Lib.hid htB
      have RQ := Lib.hid rq; have RR := Lib.hid rr; have RT := Lib.hid rt; have CC := Lib.hid hc
      clear hroom hgave hgs hgc hbnd hrl hD htB rq rr rt hc hrs hqb hhd hlenc hfit
      go_wp2
      go_loopw [12] (fun _ wr => ∃ j : Nat, j ≤ D ∧ RowI wr gq 3 (giveN rs j qb hd).1 ∧ RowI wr gr 3 rs ∧ RowT wr gh 4 (giveN rs j qb hd).2 ∧ Chg (fun _ => False) w2 wr) (fun _ wr => ((S : Int) - sumAt wr gq).toNat)
      case atStart => exact ⟨0, Nat.zero_le _, RQ.out, RR.out, RT.out, CC.out⟩
      case round =>
        obtain ⟨j, hj, rq, rr, rt, hc⟩ := hrel
        clear RQ RR RT CC
        have g := HGAVE.out j (by have := HROOM.out; omega)
        have hsum := g.sum
        rw [HTB.out] at hsum
        have rd := rq.rd 256
        rw [g.len1] at rd
        have hs1 := rq.sumAt
        rw [hsum] at hs1
        have hDe := HD.out
        by_cases hjD : j < D
        · obtain ⟨s, hn, hs256, hps, g2⟩ := gave_step HRL.out g (by have := HROOM.out; omega)
          have hgn : giveN rs (j + 1) qb hd = ((giveN rs j qb hd).1.set s ((giveN rs j qb hd).1.getD s 0 + 1), (giveN rs j qb hd).2.set s true) := by rw [giveN_succ, giveStep_some hn]
          have hzb := HBND.out j (by have := HROOM.out; omega) _ (getD_mem (cs := (giveN rs j qb hd).1) (k := s) (by rw [g.len1]; exact hs256))
          have aq := rq.cell s (by rw [g.len1]; exact hs256)
          have fq := rq.free s
          have at1 := rt.cell s (by rw [g.len2]; exact hs256)
          have ft1 := rt.free s
          have BND := Lib.hid (HBND.out j (by have := HROOM.out; omega))
          have HNE := Lib.hid (r8neediest_any gr gh _ _ rs (giveN rs j qb hd).2 wr rr rt HRL.out g.len2)
          have l1 := g.len1
          have hl1 := L1.out; have hl2 := L2.out; have hlq := LQ.out
          obtain ⟨z, hz⟩ : ∃ z, (giveN rs j qb hd).1.getD s 0 = z := ⟨_, rfl⟩
          rw [hz] at hgn hzb aq
          have st1 := Chg.setCell wr ⟨gh, s, none⟩ (.bool true)
          have rt1 := rt.set s true
          have rq1 := rq.kept st1 (by simp; omega)
          have rr1 := rr.kept st1 (by simp; omega)
          have c1 : Chg (fun _ => False) w2 _ := hc.trans st1 (S := fun _ => False) (fun q hq hh => by simp at hh; omega)
          have st2 := Chg.setCell (wr.setCell ⟨gh, s, none⟩ (.bool true)) ⟨gq, s, none⟩ (.int .i64 (z + 1))
          have rq2 := rq1.set s (z + 1)
          have rr2 := rr1.kept st2 (by simp; omega)
          have rt2 := rt1.kept st2 (by simp; omega)
          have c2 : Chg (fun _ => False) w2 _ := c1.trans st2 (S := fun _ => False) (fun q hq hh => by simp at hh; omega)
          have aq1 := rq1.cell s (by rw [l1]; exact hs256)
          have fq1 := rq1.free s
          rw [hz] at aq1
          have eq1 : (giveN rs (j + 1) qb hd).1 = (giveN rs j qb hd).1.set s (z + 1) := by rw [hgn]
          have eq2 : (giveN rs (j + 1) qb hd).2 = (giveN rs j qb hd).2.set s true := by rw [hgn]
          rw [← eq1] at rq2
          rw [← eq2] at rt2
          have g3 := HGAVE.out (j + 1) (by have := HROOM.out; omega)
          have hsum3 := g3.sum
          rw [HTB.out] at hsum3
          have hs3 := rq2.sumAt
          rw [hsum3] at hs3
          rw [hn] at HNE
          have hlt : tB + (j : Int) < (S : Int) := by omega
          have RD := Lib.hid rd; have HS := Lib.hid hsum; have RQ2 := Lib.hid rq2; have RR2 := Lib.hid rr2; have RT2 := Lib.hid rt2; have C2 := Lib.hid c2; have HS1 := Lib.hid hs1; have HS3 := Lib.hid hs3
          have hsI : (s : Int) < 256 := by omega
          obtain ⟨hz0, hz1⟩ := hzb
          generalize (giveN rs j qb hd).2.getD s false = ob at at1
          have L1000 := Lib.hid (show (giveN rs j qb hd).1.length ≤ 1000 by rw [l1]; omega)
          clear rd hsum rq2 rr2 rt2 c2 hs1 hs3 rq rr rt hc g g2 g3 hgn eq1 eq2 rq1 rr1 rt1 st1 st2 c1 hsum3 hn hz l1 hps
          go_wp2_with fail
          refine (r8sum_any _ _ wr RD.out BND.out L1000.out).mono ?_
          rintro e w6 ⟨rfl, rfl⟩
          rw [HS.out]
          go_wp2_with fail
          refine HNE.out.mono ?_
          rintro e w7 ⟨rfl, m, rfl⟩
          simp only [idx]
          clear HNE
          go_wp2
          go_roundw
          case rel => exact ⟨j + 1, by omega, RowI.kept (w := (w6.setCell ⟨gh, s, none⟩ (.bool true)).setCell ⟨gq, s, none⟩ (.int .i64 (z + 1))) RQ2.out ((Chg.refl (fun _ => False) _).drewN m) (by simp), RowI.kept (w := (w6.setCell ⟨gh, s, none⟩ (.bool true)).setCell ⟨gq, s, none⟩ (.int .i64 (z + 1))) RR2.out ((Chg.refl (fun _ => False) _).drewN m) (by simp), RowT.kept (w := (w6.setCell ⟨gh, s, none⟩ (.bool true)).setCell ⟨gq, s, none⟩ (.int .i64 (z + 1))) RT2.out ((Chg.refl (fun _ => False) _).drewN m) (by simp), C2.out.drewN m⟩
          case measure =>
            show ((S : Int) - sumAt ((w6.setCell ⟨gh, s, none⟩ (.bool true)).setCell ⟨gq, s, none⟩ (.int .i64 (z + 1))) gq).toNat < ((S : Int) - sumAt w6 gq).toNat
            rw [HS1.out, HS3.out]; omega
        · obtain rfl : j = D := by omega
          have hge : ¬ tB + (j : Int) < (S : Int) := by omega
          have BND := Lib.hid (HBND.out j (by have := HROOM.out; omega))
          have L1000 := Lib.hid (show (giveN rs j qb hd).1.length ≤ 1000 by rw [g.len1]; omega)
          have RD := Lib.hid rd; have HS := Lib.hid hsum
          have eg : (giveN rs j qb hd).1 = gaveC c S (tot c) := HGC.out.symm
          have RQ := Lib.hid rq; have CC := Lib.hid hc; have HGE := Lib.hid hge; have EG := Lib.hid eg
          clear rd hsum rq rr rt hc g hs1 eg
          go_wp2_with fail
          refine (r8sum_any _ _ wr RD.out BND.out L1000.out).mono ?_
          rintro e w6 ⟨rfl, rfl⟩
          rw [HS.out]
          have hfit := HFIT.out
          have hgs := HGS.out
          have hmn := hfit.many
          obtain ⟨G, hG⟩ : ∃ G, gaveC c S (tot c) = G := ⟨_, rfl⟩
          have htook : ∀ i : Nat, (i : Int) ≤ tot G - (S : Int) → Took c G i (takeN c i G) := fun i hi => by
            have t0 := hfit.took0
            rw [hG] at t0
            exact Go.Proofs.Ytokeoebhmjefoaa.took hfit.len t0 i (by omega)
          have hnc : normC c (S : Int) = takeN c (tot G - (S : Int)).toNat G := by unfold normC; rw [hG]
          have hGb : ∀ s, s < 256 → G.getD s 0 ≤ 4294967296 := fun s hs => by
            have h1 := EG.out
            rw [hG] at h1
            have h2 := BND.out _ (getD_mem (cs := (giveN rs j qb hd).1) (k := s) (by have := (HGAVE.out j HROOM.out).len1; omega))
            rw [h1] at h2
            exact h2.2
          have rq := RQ.out
          rw [EG.out, hG] at rq
          rw [hG] at hgs
          obtain ⟨tG, htG⟩ : ∃ tG, tot G = tG := ⟨_, rfl⟩
          rw [htG] at hgs htook hnc
          obtain ⟨T, hT⟩ : ∃ T, (tG - (S : Int)).toNat = T := ⟨_, rfl⟩
          rw [hT] at hnc
          have HTOOK := Lib.hid htook; have HNC := Lib.hid hnc; have HGB := Lib.hid hGb; have HTG := Lib.hid htG; have HTT := Lib.hid (show (T : Int) = tG - (S : Int) by omega); have RQ2 := Lib.hid rq
          clear htook hnc hGb rq hG htG hT hgs hmn hfit HGC RQ RD BND L1000 HS HGAVE HBND HGS EG HROOM HD hDe hjD hj
          obtain ⟨g0, o0, rfl, hx0⟩ := H.out.at 0 (by rw [HLEN.out]; omega)
          clear hx0
          go_wp2
          go_loopw [92] (fun _ wr => ∃ i : Nat, i ≤ T ∧ RowI wr gq 3 (takeN c i G) ∧ Chg (fun _ => False) w2 wr) (fun _ wr => (sumAt wr gq - (S : Int)).toNat)
          case atStart => exact ⟨0, Nat.zero_le _, RQ2.out, CC.out⟩
          case round =>
            obtain ⟨i, hi, rq, hc⟩ := hrel
            clear RQ2 CC
            have htt := HTT.out
            have t := HTOOK.out i (by omega)
            have hsum := t.sum
            rw [HTG.out] at hsum
            have rd := rq.rd 256
            rw [t.len] at rd
            have hs1 := rq.sumAt
            rw [hsum] at hs1
            have BND := Lib.hid (mem_bound (lo := 0) (hi := 4294967296) t.len (fun s hs => ⟨(t.low s hs).1, Int.le_trans (t.top s hs) (HGB.out s hs)⟩))
            have L1000 := Lib.hid (show (takeN c i G).length ≤ 1000 by rw [t.len]; omega)
            have RD := Lib.hid rd; have HS := Lib.hid hsum
            by_cases hiT : i < T
            · have hmany2 := HFIT.out.many
              obtain ⟨hb256, hz1, t2⟩ := took_step HLEN.out t (by rw [hsum]; omega)
              have HRI := Lib.hid (r8richest_l gq g0 o0 cap 3 (takeN c i G) c wr rq (H.out.kept hc (by simp)) t.len HLEN.out)
              have hst : takeN c (i + 1) G = (takeN c i G).set (richTo (takeN c i G) c 255) ((takeN c i G).getD (richTo (takeN c i G) c 255) 0 - 1) := by rw [takeN_succ]; rfl
              have hzt := t.top (richTo (takeN c i G) c 255) hb256
              have hzg := HGB.out (richTo (takeN c i G) c 255) hb256
              obtain ⟨b, hb⟩ : ∃ b, richTo (takeN c i G) c 255 = b := ⟨_, rfl⟩
              rw [hb] at hb256 hz1 hst HRI hzt hzg
              have aq := rq.cell b (by rw [t.len]; exact hb256)
              have fq := rq.free b
              obtain ⟨z, hz⟩ : ∃ z, (takeN c i G).getD b 0 = z := ⟨_, rfl⟩
              rw [hz] at hz1 hst aq hzt
              have rq1 := rq.set b (z - 1)
              rw [← hst] at rq1
              have c1 : Chg (fun _ => False) w2 (wr.setCell ⟨gq, b, none⟩ (.int .i64 (z - 1))) := hc.trans (Chg.setCell wr ⟨gq, b, none⟩ _) (fun q hq hh => by have := LQ.out; simp at hh; omega)
              have t3 := HTOOK.out (i + 1) (by omega)
              have hsum3 := t3.sum
              rw [HTG.out] at hsum3
              have hs3 := rq1.sumAt
              rw [hsum3] at hs3
              have hgt : (S : Int) < tG - (i : Int) := by omega
              have hbI : (b : Int) < 256 := by omega
              have hz2 : z ≤ 4294967296 := by omega
              have RQ1 := Lib.hid rq1; have C1 := Lib.hid c1; have HS1 := Lib.hid hs1; have HS3 := Lib.hid hs3; have HTT2 := Lib.hid htt
              clear rq1 c1 hs1 hs3 t3 hsum3 t t2 hst hz hb rq hc rd hsum hzt hzg hmany2
              go_wp2_with fail
              refine (r8sum_any _ _ wr RD.out BND.out L1000.out).mono ?_
              rintro e w7 ⟨rfl, rfl⟩
              rw [HS.out]
              clear htt
              go_wp2_with fail
              refine HRI.out.mono ?_
              rintro e w8 ⟨rfl, m, rfl⟩
              clear HRI
              go_wp2
              go_roundw
              case rel => exact ⟨i + 1, by omega, RowI.kept (w := w7.setCell ⟨gq, b, none⟩ (.int .i64 (z - 1))) RQ1.out ((Chg.refl (fun _ => False) _).drewN m) (by simp), C1.out.drewN m⟩
              case measure =>
                show (sumAt (w7.setCell ⟨gq, b, none⟩ (.int .i64 (z - 1))) gq - (S : Int)).toNat < (sumAt w7 gq - (S : Int)).toNat
                have := HTT2.out
                rw [HS1.out, HS3.out]; omega
            · obtain rfl : i = T := by omega
              have hle : ¬ (S : Int) < tG - (i : Int) := by omega
              rw [← HNC.out] at rq
              have hnl := norm_len HFIT.out
              have own := rq.own 256 w2.heap.size LQ.out
              rw [hnl, ← HNR.out] at own
              have OWN := Lib.hid own; have CC := Lib.hid hc
              clear rq own hnl hc t hs1 htt rd hsum
              go_wp2_with fail
              refine (r8sum_any _ _ wr RD.out BND.out L1000.out).mono ?_
              rintro e w7 ⟨rfl, rfl⟩
              rw [HS.out]
              go_wp2
              go_ret2
              exact ⟨⟨_, by rw [if_pos HOK.out]; rfl, fun _ => OWN.out, fun hk => absurd HOK.out hk, CC.out⟩, .of (Nat.le_refl _)⟩

theorem r8counts_any (v : Value) (c : List Int) (r : Int) (w : World) (h : RdI w v c) (hb : ∀ z ∈ c, -9223372036854775808 ≤ z ∧ z ≤ 9223372036854775807) (hl : c.length < 100000000000) (hr : -9223372036854775808 ≤ r ∧ r ≤ 9223372036854775807) :
    Calls Try.prog 67 #[v, .int .i64 r] w fun e w' => NormSays w c r e w' := (r8counts_room v c r w h hb hl hr).mono fun _ _ h => h.1

end Go.Proofs.Ytokeoebhmjefoaa

/- What the document's own Widest (puncheonref06) tells. -/
namespace Go.Proofs.Ytokeoebhmjefoaa
open Go.RowKit

set_option maxHeartbeats 1000000 in
set_option maxRecDepth 100000 in
theorem r6widest_any (v : Value) (xs : List Nat) (w : World) (h : RdB w v xs) (hx : ∀ x ∈ xs, x < 256) (hl : xs.length < 10000000000) :
    Calls Try.prog 68 #[v] w fun e w' => e = .returned (.int .i64 ((widest xs : Nat) : Int)) ∧ Chg (fun _ => False) w w' := by
  obtain ⟨ao, cap, rfl⟩ := h.form
  have H := Lib.hid h; have HX := Lib.hid hx
  clear h hx
  obtain ⟨W, hW⟩ : ∃ W, widest xs = W := ⟨_, rfl⟩
  rw [hW]
  have HW := Lib.hid hW
  clear hW
  go_enter Try.func68, Try.ntmps68
  go_wp2
  go_loopw [3, 4] (fun o3 o4 wr => ∃ c : Nat, c ≤ 256 ∧ o4 = .int .i64 (c : Int) ∧ o3 = .int .i64 ((wid xs c : Nat) : Int) ∧ Chg (fun _ => False) w wr) (fun _ o4 _ => 256 - (intOf o4).toNat)
  case atStart => exact ⟨0, Nat.zero_le _, rfl, rfl, Chg.refl _ _⟩
  case round =>
    obtain ⟨c, hcc, rfl, rfl, hc⟩ := hrel
    by_cases hlt : c < 256
    · have hwd : wid xs (c + 1) = max (wid xs c) (manyI (cnt (sel xs (c : Int)))) := rfl
      have hml := manyI_le (cnt (sel xs (c : Int)))
      have hwl := wid_le xs c
      obtain ⟨m, hm⟩ : ∃ m, manyI (cnt (sel xs (c : Int))) = m := ⟨_, rfl⟩
      obtain ⟨q, hq⟩ : ∃ q, wid xs c = q := ⟨_, rfl⟩
      rw [hm] at hwd hml
      rw [hq] at hwd hwl ⊢
      have HWD := Lib.hid hwd; have HM := Lib.hid hm
      have HML := Lib.hid hml; have HWL := Lib.hid hwl; have HC := Lib.hid hc
      clear hwd hm hq hml hwl hc
      have d8 : decide ((c : Int) < 256) = true := by simp; omega
      go_wp2_with fail
      refine (r6for_any _ xs (c : Int) wr (H.out.kept HC.out (by simp)) HX.out hl).mono ?_
      rintro e w2 ⟨v2, rfl, ho2, hc2⟩
      have hc2' := HC.out.trans hc2 (fun _ _ h => h)
      clear HC hc2
      go_wp2_with fail
      refine (r5many_any _ _ w2 ho2.rd (fun z hz => ?_) (by rw [cnt_length]; omega)).mono ?_
      · obtain ⟨i, hi, rfl⟩ := List.mem_iff_getElem.1 hz
        rw [cnt_length] at hi
        have h1 := cnt_getD (sel xs (c : Int)) i hi
        rw [List.getD_eq_getElem?_getD, List.getElem?_eq_getElem (by rw [cnt_length]; exact hi)] at h1
        simp only [Option.getD_some] at h1
        have h2 := List.count_le_length (l := sel xs (c : Int)) (a := i)
        have h3 := sel_len xs (c : Int)
        rw [h1]; omega
      rintro e w3 ⟨rfl, rfl⟩
      rw [HM.out]
      clear ho2 HM
      have hml := HML.out; have hwl := HWL.out
      have hmx : max (q : Int) (m : Int) = ((max q m : Nat) : Int) := by omega
      by_cases hqm : q ≤ m
      · have d1 : max q m = m := by omega
        rw [d1] at HWD
        clear d1 hmx
        go_wp2
        all_goals first
          | (go_roundw
             case rel => exact ⟨c + 1, by omega, by go_num, by rw [HWD.out]; go_num, hc2'⟩
             case measure => simp [intOf]; omega)
          | (exfalso; omega)
      · have d1 : max q m = q := by omega
        rw [d1] at HWD
        clear d1 hmx
        go_wp2
        all_goals first
          | (go_roundw
             case rel => exact ⟨c + 1, by omega, by go_num, by rw [HWD.out]; go_num, hc2'⟩
             case measure => simp [intOf]; omega)
          | (exfalso; omega)
    · obtain rfl : c = 256 := by omega
      rw [show wid xs 256 = W from HW.out]
      go_wp2
      go_ret
      exact ⟨rfl, hc⟩

end Go.Proofs.Ytokeoebhmjefoaa

/- What the document's own model (puncheonref16) tells: Zero. -/
namespace Go.Proofs.Ytokeoebhmjefoaa
open Go.RowKit

/-- a model is laid into a block -/
def W3 (w : World) (g : Nat) (log : Int) (one : Bool) (cv : Value) : World := ((w.setCell ⟨g, 0, none⟩ (.int .i64 log)).setCell ⟨g, 1, none⟩ (.bool one)).setCell ⟨g, 2, none⟩ cv
theorem W3_chg (w : World) (g : Nat) (log : Int) (one : Bool) (cv : Value) : Chg (fun q => q = g) w (W3 w g log one cv) :=
  ((Chg.setCell w ⟨g, 0, none⟩ _).trans (Chg.setCell _ ⟨g, 1, none⟩ _) fun _ _ h => h).trans (Chg.setCell _ ⟨g, 2, none⟩ _) fun _ _ h => h
theorem W3_cells {w : World} {g : Nat} {log0 : Int} {one0 : Bool} {cv0 : Value} (h : Mb w g log0 one0 cv0) (log : Int) (one : Bool) (cv : Value) :
    (w.setCell ⟨g, 0, none⟩ (.int .i64 log)).cell? ⟨g, 0, none⟩ = some (.int .i64 log) ∧ ((w.setCell ⟨g, 0, none⟩ (.int .i64 log)).setCell ⟨g, 1, none⟩ (.bool one)).cell? ⟨g, 1, none⟩ = some (.bool one) ∧ (W3 w g log one cv).cell? ⟨g, 2, none⟩ = some cv ∧ Mb (W3 w g log one cv) g log one cv := by
  have h1 := heap_setCell_same w g 0 _ _ (.int .i64 log) h
  have h2 := heap_setCell_same _ g 1 _ _ (.bool one) h1
  have h3 := heap_setCell_same _ g 2 _ _ cv h2
  exact ⟨by rw [cell_of_row _ _ 0 _ _ _ h1]; rfl, by rw [cell_of_row _ _ 1 _ _ _ h2]; rfl, by unfold W3; rw [cell_of_row _ _ 2 _ _ _ h3]; rfl, h3⟩
theorem zeroModel (W : World) : (zeroValue 24).run Try.prog W = .ok (.agg #[.int .i64 0, .bool false, .slice none 0 0]) W := by kernel_rfl

theorem mem_le_total (l : List Int) (h : isRight l) : ∀ z ∈ l, z ≤ 1073741824 := by
  intro z hz
  obtain ⟨i, hi, rfl⟩ := List.mem_iff_getElem.1 hz
  have := (h.one i hi).2
  rwa [List.getD_eq_getElem?_getD, List.getElem?_eq_getElem hi] at this

set_option maxHeartbeats 2000000 in
theorem r16zero_any (v : Value) (xs : List Nat) (w : World) (h : RdB w v xs) (hx : ∀ x ∈ xs, x < 256) (hl : xs.length ≤ 1000000) (h0 : 0 < xs.length) :
    Calls Try.prog 38 #[v] w fun e w' => ∃ u, e = .returned u ∧ RdM w' u (zeroM xs) ∧ Chg (fun _ => False) w w' := by
  obtain ⟨ao, cap, rfl⟩ := h.form
  have hca := Chg.alloc (fun _ => False) w (.cells #[.int .i64 0, .bool false, .slice none 0 0] 24)
  have hnew : Mb _ _ 0 false (.slice none 0 0) := heap_alloc_new w (.cells #[.int .i64 0, .bool false, .slice none 0 0] 24)
  have hrd := h.kept hca (by simp)
  have hof := r5of_any _ xs _ hrd hx (by omega)
  have hz := zeroModel
  obtain ⟨hok, hz1, hz2⟩ := zero_ok xs hx (by omega) h0
  obtain ⟨n, hn⟩ : ∃ n, xs.length = n := ⟨_, rfl⟩
  have hzl : zeroLog xs = pickI (n : Int) ((manyI (cnt xs) : Nat) : Int) 11 := by rw [← hn]; rfl
  have hml := manyI_le (cnt xs)
  have hcr := cnt_right xs hx (by omega)
  rw [hn] at hof hl ⊢
  have HOF := Lib.hid hof; have HCA := Lib.hid hca; have HNEW := Lib.hid hnew; have HOK := Lib.hid hok; have HZL := Lib.hid hzl; have HCR := Lib.hid hcr
  obtain ⟨M, hM⟩ : ∃ M, manyI (cnt xs) = M := ⟨_, rfl⟩
  rw [hM] at HZL hml
  have HM := Lib.hid hM
  obtain ⟨R, hR⟩ : ∃ R, zeroLog xs = R := ⟨_, rfl⟩
  rw [hR] at HZL HOK hz1 hz2
  have HR := Lib.hid hR
  have hnI : (n : Int) ≤ 1000000 := by omega
  have hMI : (M : Int) ≤ 256 := by omega
  clear h hca hnew hrd hof hok hzl hcr hM hR hn hx hl h0 hml
  go_enter Try.func38, Try.ntmps38
  go_wp2_with fail
  refine HOF.out.mono ?_
  rintro e w2 ⟨c, rfl, hc2, hg2⟩
  have hmb2 := HNEW.out.kept hg2 (by simp)
  have hw2 := HCA.out.trans hg2 fun _ _ h => h
  have hbn : ∀ z ∈ cnt xs, -9223372036854775808 ≤ z ∧ z ≤ 9223372036854775807 := fun z hz => by
    have h1 := cnt_nonneg xs z hz
    have h2 := mem_le_total (cnt xs) HCR.out z hz
    omega
  have hmn := r5many_any c (cnt xs) w2 hc2.rd hbn (by rw [cnt_length]; omega)
  rw [HM.out] at hmn
  have hpk := r7pick_any (n : Int) (M : Int) 11 w2 (by omega) (by omega) (by omega) (by omega) (by omega) (by omega)
  rw [← HZL.out] at hpk
  have hct := r8counts_room c (cnt xs) R w2 hc2.rd hbn (by rw [cnt_length]; omega) (by omega)
  have HMN := Lib.hid hmn; have HPK := Lib.hid hpk; have HCT := Lib.hid hct; have HMB2 := Lib.hid hmb2; have HW2 := Lib.hid hw2
  obtain ⟨ac, lc, hcf⟩ : ∃ ac lc, c = .slice ac 256 lc := by obtain ⟨g, off, cc, he, _⟩ := hc2; exact ⟨_, _, by rw [he, cnt_length]⟩
  subst hcf
  clear hbn hmn hpk hct hmb2 hw2 hc2 hg2 HOF HCA HNEW
  go_wp2_with fail
  refine HMN.out.mono ?_
  rintro e w3 ⟨rfl, rfl⟩
  go_wp2_with fail
  refine HPK.out.mono ?_
  rintro e w4 ⟨rfl, rfl⟩
  go_wp2_with fail
  refine HCT.out.mono ?_
  rintro e w5 ⟨⟨q, rfl, hq5, -, hc5⟩, hrm⟩
  have hrm := hrm _ _ rfl
  rw [if_pos HOK.out]
  have hq5 := hq5 HOK.out
  have hmb5 := HMB2.out.kept hc5 (by simp)
  have hw5 := HW2.out.trans hc5 fun _ _ h => h
  obtain ⟨aq, lq, hqf⟩ : ∃ aq lq, q = .slice aq 256 lq := by obtain ⟨g, off, cc, he, _⟩ := hq5; exact ⟨_, _, by rw [he, (normR_right HOK.out).1.1]⟩
  subst hqf
  have hca6 := Chg.alloc (fun _ => False) w5 (.cells #[.slice aq 256 lq] 41)
  have hnew6 := heap_alloc_new w5 (.cells #[.slice aq 256 lq] 41)
  obtain ⟨W6, hW6⟩ : ∃ W6, w5.alloc (.cells #[.slice aq 256 lq] 41) = W6 := ⟨_, rfl⟩
  rw [hW6] at hca6 hnew6
  have hmb6 := hmb5.kept hca6 (by simp)
  obtain ⟨y0, y1, y2, hmb7⟩ := W3_cells hmb6 R true (.slice (some ⟨w5.heap.size, 0, none⟩) 1 1)
  have hc7 := W3_chg W6 w.heap.size R true (.slice (some ⟨w5.heap.size, 0, none⟩) 1 1)
  have hlt5 : w.heap.size < w5.heap.size := hmb5.lt
  have hrow7 : (W3 W6 w.heap.size R true (.slice (some ⟨w5.heap.size, 0, none⟩) 1 1)).heap[w5.heap.size]? = _ := (hc7.block w5.heap.size (lt_of_block hnew6) (by omega)).trans hnew6
  have hq7 : RdI (W3 W6 w.heap.size R true (.slice (some ⟨w5.heap.size, 0, none⟩) 1 1)) (.slice aq 256 lq) (normR (cnt xs) R) := ((hq5.rd.kept hca6 (by simp)).kept hc7 (fun k hk he => by
    obtain ⟨g, off, cc, he2, hg, _⟩ := hq5
    rw [he2] at hk
    simp only [Value.ownBlock, Option.some.injEq] at hk
    have := HMB2.out.lt
    omega))
  have hrd7 : RdM (W3 W6 w.heap.size R true (.slice (some ⟨w5.heap.size, 0, none⟩) 1 1)) (.agg #[.int .i64 R, .bool true, .slice (some ⟨w5.heap.size, 0, none⟩) 1 1]) (zeroM xs) := by
    refine ⟨.slice (some ⟨w5.heap.size, 0, none⟩) 1 1, ?_, .inr ⟨w5.heap.size, 0, 1, rfl, fun j hj => ?_⟩⟩
    · show _ = Value.agg #[.int .i64 (zeroLog xs), .bool true, _]
      rw [HR.out]
    · have hj0 : j = 0 := by have : (zeroM xs).cs.length = 1 := rfl; omega
      subst hj0
      refine ⟨.slice aq 256 lq, by rw [cell_of_row _ _ _ _ _ _ hrow7]; rfl, ?_⟩
      show RdIr _ _ ([normR (cnt xs) (zeroLog xs)].getD 0 [])
      rw [HR.out, List.getD_cons_zero]
      exact ⟨hq7, hrm⟩
  have hc8 : Chg (fun _ => False) w (W3 W6 w.heap.size R true (.slice (some ⟨w5.heap.size, 0, none⟩) 1 1)) := (hw5.trans hca6 fun _ _ h => h).trans hc7 fun k hk he => by omega
  obtain ⟨z0, z1, z2⟩ := hmb6.cells
  have f0 := frozen_of_row W6 w.heap.size 0 _ _ hmb6
  have f1 := frozen_of_row W6 w.heap.size 1 _ _ hmb6
  have f2 := frozen_of_row W6 w.heap.size 2 _ _ hmb6
  have HRD7 := Lib.hid hrd7; have HC8 := Lib.hid hc8
  unfold W3 at y2 HRD7 HC8
  clear hrm hq5 hmb5 hw5 hca6 hnew6 hmb6 hmb7 hc7 hlt5 hrow7 hq7 hrd7 hc8 hc5 HMN HPK HCT HMB2 HW2 HOK HCR HM
  go_wp2
  refine bodyPost_ret (v := .agg #[.int .i64 R, .bool true, .slice (some ⟨w5.heap.size, 0, none⟩) 1 1]) (by simp [results, Try.results38, go_sem, y0, y1, y2]; try rfl) rfl ?_
  exact ⟨_, rfl, HRD7.out, HC8.out⟩

end Go.Proofs.Ytokeoebhmjefoaa

/- Plain: all contexts' counts, added, are the bytes' counts. -/
namespace Go.Proofs.Ytokeoebhmjefoaa
open Go

/-- bytes whose context is in L -/
def selLP (P : List (Nat × Nat)) (L : List Int) : List Nat := (P.filter fun p => decide ((p.1 : Int) ∈ L)).map (·.2)
def selL (xs : List Nat) (L : List Int) : List Nat := selLP (prs 0 xs) L

theorem selLP_cons (p : Nat × Nat) (P : List (Nat × Nat)) (L : List Int) : selLP (p :: P) L = (if (p.1 : Int) ∈ L then [p.2] else []) ++ selLP P L := by
  unfold selLP
  rw [List.filter_cons]
  by_cases h : (p.1 : Int) ∈ L
  · rw [if_pos h, if_pos (decide_eq_true h)]; rfl
  · rw [if_neg h, if_neg (by simp [h])]; rfl

theorem selLP_count (P : List (Nat × Nat)) (L : List Int) (c : Int) (hc : c ∉ L) (v : Nat) : (selLP P (L ++ [c])).count v = (selLP P L).count v + (selP P c).count v := by
  induction P with
  | nil => rfl
  | cons p P ih =>
    rw [selLP_cons, selLP_cons, selP_cons, List.count_append, List.count_append, List.count_append, ih]
    by_cases h1 : (p.1 : Int) ∈ L
    · have h2 : ¬ (p.1 : Int) = c := fun h => hc (h ▸ h1)
      rw [if_pos h1, if_pos (by simp [h1]), if_neg h2]; simp; omega
    · by_cases h2 : (p.1 : Int) = c
      · rw [if_neg h1, if_pos (by simp [h2]), if_pos h2]; simp; omega
      · rw [if_neg h1, if_neg (by simp [h1, h2]), if_neg h2]; simp

theorem selL_nil (xs : List Nat) : selL xs [] = [] := by
  unfold selL selLP
  simp
theorem selL_snoc (xs : List Nat) (L : List Int) (c : Int) (hc : c ∉ L) : cnt (selL xs (L ++ [c])) = addL (cnt (selL xs L)) (cnt (sel xs c)) := by
  apply ext_getD
  · rw [addL_length _ _ (by rw [cnt_length, cnt_length]), cnt_length, cnt_length]
  · intro k hk
    rw [cnt_length] at hk
    rw [addL_getD _ _ k (by rw [cnt_length]; exact hk) (by rw [cnt_length]; exact hk), cnt_getD _ k hk, cnt_getD _ k hk, cnt_getD _ k hk]
    unfold selL sel
    rw [selLP_count _ _ _ hc]; omega

theorem selL_sub (xs : List Nat) (L : List Int) : List.Sublist (selL xs L) xs := by
  have h : List.Sublist ((prs 0 xs).filter fun p => decide ((p.1 : Int) ∈ L)) (prs 0 xs) := List.filter_sublist
  have := h.map (·.2)
  rw [prs_snd] at this
  exact this
theorem selL_lt {xs : List Nat} (hx : ∀ x ∈ xs, x < 256) (L : List Int) : ∀ x ∈ selL xs L, x < 256 := fun x h => hx x ((selL_sub xs L).subset h)

theorem selL_pres (xs : List Nat) (hx : ∀ x ∈ xs, x < 256) : selL xs (pres xs) = xs := by
  unfold selL selLP
  rw [List.filter_eq_self.2, prs_snd]
  intro p hp
  have h1 := prs_fst_lt 0 xs (by omega) hx p hp
  rw [decide_eq_true_iff, pres_mem]
  refine ⟨by omega, by omega, ?_⟩
  have : p.2 ∈ sel xs (p.1 : Int) := by
    unfold sel selP
    rw [List.mem_map]
    exact ⟨p, List.mem_filter.2 ⟨hp, by simp⟩, rfl⟩
  exact List.length_pos_of_mem this

theorem pres_new (xs : List Nat) (i : Nat) (hi : i < (pres xs).length) : (pres xs).getD i 0 ∉ (pres xs).take i := by
  intro hm
  obtain ⟨j, hj, he⟩ := List.mem_iff_getElem.1 hm
  have hj2 : j < i ∧ j < (pres xs).length := by rw [List.length_take] at hj; omega
  have := List.pairwise_iff_getElem.1 (pres_rise xs) j i hj2.2 hi hj2.1
  rw [List.getElem_take] at he
  rw [List.getD_eq_getElem?_getD, List.getElem?_eq_getElem hi] at he
  simp only [Option.getD_some] at he
  omega

/-- one context more -/
theorem whole_step (xs : List Nat) (i : Nat) (hi : i < (pres xs).length) : cnt (selL xs ((pres xs).take (i + 1))) = addL (cnt (selL xs ((pres xs).take i))) (cnt (sel xs ((pres xs).getD i 0))) := by
  rw [take_snoc _ i hi, selL_snoc _ _ _ (pres_new xs i hi)]

theorem whole_ok (xs : List Nat) (hx : ∀ x ∈ xs, x < 256) (hl : xs.length ≤ 1000) (L : List Int) (c : Int) : addOk (cnt (selL xs L)) (cnt (sel xs c)) :=
  addOk_cnt _ _ (selL_lt hx L) (sel_lt hx c) (by have := (selL_sub xs L).length_le; have := sel_len xs c; omega)

theorem whole_some (xs : List Nat) (hx : ∀ x ∈ xs, x < 256) (hl : xs.length ≤ 1000) (i : Nat) (hi : i < (pres xs).length) : 1 ≤ totalI (cnt (sel xs ((pres xs).getD i 0))) ∧ totalI (cnt (sel xs ((pres xs).getD i 0))) ≤ 1000 := by
  have h1 := (pres_mem.1 (getD_mem hi)).2.2
  have h2 := sel_len xs ((pres xs).getD i 0)
  rw [total_cnt _ (sel_lt hx _) (by omega)]
  omega

theorem pres_range (xs : List Nat) (i : Nat) (hi : i < (pres xs).length) : 0 ≤ (pres xs).getD i 0 ∧ (pres xs).getD i 0 < 256 := by
  have := pres_mem.1 (getD_mem hi)
  exact ⟨this.1, this.2.1⟩

end Go.Proofs.Ytokeoebhmjefoaa

/- What the document's own model (puncheonref16) tells: First. -/
namespace Go.Proofs.Ytokeoebhmjefoaa
open Go.RowKit

set_option maxRecDepth 100000 in
theorem makeLists : ∃ Z : Array Value, Z.toList = List.replicate 256 (.slice none 0 0) ∧ ∀ W : World, (Instr.makeSlice 22 (.int .i64 256) (.int .i64 256)).run Try.prog W = .ok (.slice (some ⟨W.heap.size, 0, none⟩) 256 256) (W.alloc (.cells Z 41)) := ⟨(List.replicate 256 (.slice none 0 0)).toArray, rfl, fun W => by kernel_rfl⟩

/-- a block that is a row of slices -/
def RowV (w : World) (g : Nat) (vs : List Value) : Prop := w.heap[g]? = some (.cells vs.toArray 41 (0, 0))
theorem RowV.kept {S : Nat → Prop} {w w' : World} {g : Nat} {vs : List Value} (h : RowV w g vs) (hc : Chg S w w') (hS : ¬ S g) : RowV w' g vs := (hc.block g (lt_of_block h) hS).trans h
theorem RowV.lt {w : World} {g : Nat} {vs : List Value} (h : RowV w g vs) : g < w.heap.size := lt_of_block h
theorem RowV.cell {w : World} {g : Nat} {vs : List Value} (h : RowV w g vs) (j : Nat) (hj : j < vs.length) : w.cell? ⟨g, j, none⟩ = some (vs.getD j undef) := by
  rw [cell_of_row w g j _ _ _ h, List.getElem?_toArray, List.getElem?_eq_getElem hj, List.getD_eq_getElem?_getD, List.getElem?_eq_getElem hj]; rfl
theorem RowV.free {w : World} {g : Nat} {vs : List Value} (h : RowV w g vs) (j : Nat) : w.frozen? ⟨g, j, none⟩ = false := frozen_of_row w g j _ _ h
theorem RowV.set {w : World} {g : Nat} {vs : List Value} (h : RowV w g vs) (j : Nat) (u : Value) : RowV (w.setCell ⟨g, j, none⟩ u) g (vs.set j u) := by
  unfold RowV
  rw [heap_setCell_same w g j _ _ u h, List.setIfInBounds_toArray]

theorem Mb.more {w : World} {g : Nat} {log : Int} {one : Bool} {cv : Value} (h : Mb w g log one cv) : (w.cell? ⟨g, 0, none⟩ = some (.int .i64 log) ∧ w.cell? ⟨g, 1, none⟩ = some (.bool one) ∧ w.cell? ⟨g, 2, none⟩ = some cv) ∧ (w.frozen? ⟨g, 0, none⟩ = false ∧ w.frozen? ⟨g, 1, none⟩ = false ∧ w.frozen? ⟨g, 2, none⟩ = false) ∧
    (∀ o, (w.alloc o).cell? ⟨g, 0, none⟩ = some (.int .i64 log)) ∧ (∀ o, (w.alloc o).cell? ⟨g, 1, none⟩ = some (.bool one)) ∧ (∀ o, (w.alloc o).cell? ⟨g, 2, none⟩ = some cv) ∧ (∀ o, (w.alloc o).frozen? ⟨g, 0, none⟩ = false) ∧ (∀ o, (w.alloc o).frozen? ⟨g, 1, none⟩ = false) ∧ ∀ o, (w.alloc o).frozen? ⟨g, 2, none⟩ = false :=
  have hk : ∀ o, Mb (w.alloc o) g log one cv := fun o => h.kept (Chg.alloc (fun _ => False) w o) (by simp)
  ⟨h.cells, ⟨frozen_of_row w g 0 _ _ h, frozen_of_row w g 1 _ _ h, frozen_of_row w g 2 _ _ h⟩, fun o => (hk o).cells.1, fun o => (hk o).cells.2.1, fun o => (hk o).cells.2.2, fun o => frozen_of_row _ g 0 _ _ (hk o), fun o => frozen_of_row _ g 1 _ _ (hk o), fun o => frozen_of_row _ g 2 _ _ (hk o)⟩

def nils : List Value := List.replicate 256 (.slice none 0 0)
theorem nils_length : nils.length = 256 := List.length_replicate
/-- behind the making of the empty lists -/
def First1 (w : World) (R : Int) (s3 : Value) (wx : World) : Prop := ∃ G G3, s3 = .pointer (some ⟨G3, 0, none⟩) ∧ Mb wx G3 R false (.slice (some ⟨G, 0, none⟩) 256 256) ∧ RowV wx G nils ∧ Mb wx w.heap.size 0 false (.slice none 0 0) ∧ w.heap.size < G ∧ w.heap.size < G3 ∧ Chg (fun _ => False) w wx

section
variable {w W : World} {Z : Array Value} {R : Int}
theorem rowZ (hZ : Z.toList = nils) (W : World) : RowV (W.alloc (.cells Z 41)) W.heap.size nils := by
  have := heap_alloc_new W (.cells Z 41)
  unfold RowV
  rw [← hZ]
  exact this
theorem firstA (hZ : Z.toList = nils) (hm : Mb W w.heap.size 0 false (.slice none 0 0)) (hc : Chg (fun _ => False) w W) :
    First1 w R (.pointer (some ⟨W.heap.size + 1, 0, none⟩)) ((W.alloc (.cells Z 41)).alloc (.cells #[.int .i64 R, .bool false, .slice (some ⟨W.heap.size, 0, none⟩) 256 256] 24)) := by
  have c1 := Chg.alloc (fun _ => False) W (.cells Z 41)
  have c2 := Chg.alloc (fun _ => False) (W.alloc (.cells Z 41)) (.cells #[.int .i64 R, .bool false, .slice (some ⟨W.heap.size, 0, none⟩) 256 256] 24)
  have hlt := hm.lt
  exact ⟨W.heap.size, W.heap.size + 1, rfl, heap_alloc2_new W _ _, (rowZ hZ W).kept c2 (by simp), (hm.kept c1 (by simp)).kept c2 (by simp), hlt, by omega, (hc.trans c1 fun _ _ h => h).trans c2 fun _ _ h => h⟩
theorem firstB (hZ : Z.toList = nils) (hm : Mb W w.heap.size 0 false (.slice none 0 0)) (hc : Chg (fun _ => False) w W) :
    First1 w R (.pointer (some ⟨W.heap.size, 0, none⟩)) ((W.alloc (.cells #[.int .i64 R, .bool false, .slice (some ⟨W.heap.size + 1, 0, none⟩) 256 256] 24)).alloc (.cells Z 41)) := by
  have c1 := Chg.alloc (fun _ => False) W (.cells #[.int .i64 R, .bool false, .slice (some ⟨W.heap.size + 1, 0, none⟩) 256 256] 24)
  have c2 := Chg.alloc (fun _ => False) (W.alloc (.cells #[.int .i64 R, .bool false, .slice (some ⟨W.heap.size + 1, 0, none⟩) 256 256] 24)) (.cells Z 41)
  have hlt := hm.lt
  have hr := rowZ hZ (W.alloc (.cells #[.int .i64 R, .bool false, .slice (some ⟨W.heap.size + 1, 0, none⟩) 256 256] 24))
  rw [show (W.alloc (.cells #[.int .i64 R, .bool false, .slice (some ⟨W.heap.size + 1, 0, none⟩) 256 256] 24)).heap.size = W.heap.size + 1 by simp] at hr
  exact ⟨W.heap.size + 1, W.heap.size, rfl, heap_alloc2_old W _ _, hr, (hm.kept c1 (by simp)).kept c2 (by simp), by omega, hlt, (hc.trans c1 fun _ _ h => h).trans c2 fun _ _ h => h⟩
theorem firstC {G : Nat} (hr : RowV W G nils) (hG : w.heap.size < G) (hm : Mb W w.heap.size 0 false (.slice none 0 0)) (hc : Chg (fun _ => False) w W) :
    First1 w R (.pointer (some ⟨W.heap.size, 0, none⟩)) (W.alloc (.cells #[.int .i64 R, .bool false, .slice (some ⟨G, 0, none⟩) 256 256] 24)) := by
  have c1 := Chg.alloc (fun _ => False) W (.cells #[.int .i64 R, .bool false, .slice (some ⟨G, 0, none⟩) 256 256] 24)
  exact ⟨G, W.heap.size, rfl, heap_alloc_new W _, hr.kept c1 (by simp), hm.kept c1 (by simp), hG, hm.lt, hc.trans c1 fun _ _ h => h⟩
theorem firstE {G G3 : Nat} (hr : RowV W G nils) (hG : w.heap.size < G) (h3 : Mb W G3 0 false (.slice none 0 0)) (hG3 : w.heap.size < G3) (hne : G ≠ G3) (hm : Mb W w.heap.size 0 false (.slice none 0 0)) (hc : Chg (fun _ => False) w W) :
    First1 w R (.pointer (some ⟨G3, 0, none⟩)) (((W.setCell ⟨G3, 0, none⟩ (.int .i64 R)).setCell ⟨G3, 1, none⟩ (.bool false)).setCell ⟨G3, 2, none⟩ (.slice (some ⟨G, 0, none⟩) 256 256)) := by
  have c1 := W3_chg W G3 R false (.slice (some ⟨G, 0, none⟩) 256 256)
  exact ⟨G, G3, rfl, (W3_cells h3 R false (.slice (some ⟨G, 0, none⟩) 256 256)).2.2.2, hr.kept c1 hne, hm.kept c1 (by omega), hG, hG3, hc.trans c1 fun k hk he => by omega⟩
theorem firstD {G3 : Nat} (hZ : Z.toList = nils) (h3 : Mb W G3 0 false (.slice none 0 0)) (hG3 : w.heap.size < G3) (hm : Mb W w.heap.size 0 false (.slice none 0 0)) (hc : Chg (fun _ => False) w W) :
    First1 w R (.pointer (some ⟨G3, 0, none⟩)) ((((W.alloc (.cells Z 41)).setCell ⟨G3, 0, none⟩ (.int .i64 R)).setCell ⟨G3, 1, none⟩ (.bool false)).setCell ⟨G3, 2, none⟩ (.slice (some ⟨W.heap.size, 0, none⟩) 256 256)) := by
  have c1 := Chg.alloc (fun _ => False) W (.cells Z 41)
  have hlt := hm.lt
  have hl3 := h3.lt
  exact firstE (rowZ hZ W) hlt (h3.kept c1 (by simp)) hG3 (by omega) (hm.kept c1 (by simp)) (hc.trans c1 fun _ _ h => h)
end

/-- the lists of the first k contexts -/
def partL (xs : List Nat) (R : Int) (k c : Nat) : List Int := if (c : Int) ∈ (pres xs).take k then normR (cnt (sel xs (c : Int))) R else []
theorem partL_all (xs : List Nat) (R : Int) (c : Nat) (hc : c < 256) : partL xs R (pres xs).length c = ctxL xs R c := by
  unfold partL ctxL
  rw [List.take_length]
  by_cases h : 0 < (sel xs (c : Int)).length
  · rw [if_pos h, if_pos (pres_mem.2 ⟨by omega, by omega, h⟩)]
  · rw [if_neg h, if_neg (fun hh => h (pres_mem.1 hh).2.2)]
theorem partL_next (xs : List Nat) (R : Int) (k c : Nat) (hk : k < (pres xs).length) (hc : (pres xs).getD k 0 = (c : Int)) (d : Nat) : partL xs R (k + 1) d = if d = c then normR (cnt (sel xs (c : Int))) R else partL xs R k d := by
  unfold partL
  have ht : (pres xs).take (k + 1) = (pres xs).take k ++ [(c : Int)] := by rw [take_snoc _ k hk, hc]
  rw [ht]
  by_cases h : d = c
  · subst h
    rw [if_pos (by simp), if_pos rfl]
  · rw [if_neg h]
    have : (d : Int) ∈ (pres xs).take k ++ [(c : Int)] ↔ (d : Int) ∈ (pres xs).take k := by
      rw [List.mem_append, List.mem_singleton]
      constructor
      · rintro (h1 | h1)
        · exact h1
        · omega
      · exact .inl
    simp only [this]
/-- in the midst of First: the lists of the first k contexts are there -/
structure FirstS (xs : List Nat) (w : World) (G G3 : Nat) (R : Int) (al : Option Addr) (np cl k : Nat) (wr : World) : Prop where
  mb : Mb wr G3 R false (.slice (some ⟨G, 0, none⟩) 256 256)
  mn : Mb wr w.heap.size 0 false (.slice none 0 0)
  l : wr.ownsRow 0 3 1 (.slice al np cl) np (iw (pres xs))
  lfar : ∀ q, (Value.slice al np cl).ownBlock = some q → q ≠ G ∧ q ≠ G3 ∧ q ≠ w.heap.size
  chg : Chg (fun _ => False) w wr
  hG : w.heap.size < G
  hG3 : w.heap.size < G3
  hne : G ≠ G3
  row : ∃ vs, RowV wr G vs ∧ vs.length = 256 ∧ ∀ c, c < 256 → RdIr wr (vs.getD c undef) (partL xs R k c) ∧ ∀ q, (vs.getD c undef).ownBlock = some q → q ≠ G ∧ q ≠ G3 ∧ q ≠ w.heap.size

section
variable {xs : List Nat} {w wr : World} {G G3 : Nat} {R : Int} {al : Option Addr} {np cl k : Nat}
theorem FirstS.kept {wr' : World} (h : FirstS xs w G G3 R al np cl k wr) (hc : Chg (fun _ => False) wr wr') : FirstS xs w G G3 R al np cl k wr' := by
  obtain ⟨h1, h2, h3, h4, h5, h6, h7, h8, vs, h9, h10, h11⟩ := h
  exact ⟨h1.kept hc (by simp), h2.kept hc (by simp), hc.own h3 (by simp), h4, h5.trans hc fun _ _ h => h, h6, h7, h8, vs, h9.kept hc (by simp), h10, fun c hcc => ⟨(h11 c hcc).1.kept hc (by simp), (h11 c hcc).2⟩⟩
theorem FirstS.lcell' {g : Nat} {c : Int} (h : FirstS xs w G G3 R (some ⟨g, 0, none⟩) np cl k wr) (j : Nat) (hj : j < np) (hc : (pres xs).getD j 0 = c) : wr.cell? ⟨g, j, none⟩ = some (.int .i64 c) := by
  have hl := h.l.1
  rw [iw_length, Nat.mul_one] at hl
  rw [h.l.cellAt j (by omega), iw_get (pres xs) j (by omega), hc]
theorem FirstS.lcell (h : FirstS xs w G G3 R al np cl k wr) (j : Nat) (hj : j < np) : ∃ g, al = some ⟨g, 0, none⟩ := by
  rcases h.l.2 with ⟨h1, h2⟩ | ⟨g, cap', cur, he, _⟩
  · omega
  · simp only [Value.slice.injEq] at he
    exact ⟨g, he.1⟩
theorem FirstS.lts (h : FirstS xs w G G3 R al np cl k wr) : G < wr.heap.size ∧ G3 < wr.heap.size ∧ w.heap.size < wr.heap.size := by
  obtain ⟨vs, h9, _⟩ := h.row
  exact ⟨h9.lt, h.mb.lt, h.mn.lt⟩
theorem FirstS.store {B c : Nat} {q : Value} (h : FirstS xs w G G3 R al np cl k wr) (hk : k < (pres xs).length) (hc : (pres xs).getD k 0 = (c : Int)) (hc256 : c < 256) (hq : OwnI wr B q (normR (cnt (sel xs (c : Int))) R)) (hqr : RoomOk q) (hB : G < B ∧ G3 < B ∧ w.heap.size < B) :
    FirstS xs w G G3 R al np cl (k + 1) (wr.setCell ⟨G, c, none⟩ q) := by
  have hcs := Chg.setCell wr ⟨G, c, none⟩ q
  have hqf : ∀ b, q.ownBlock = some b → b ≠ G ∧ b ≠ G3 ∧ b ≠ w.heap.size := fun b hb => by
    obtain ⟨g, off, cc, rfl, hg, _⟩ := hq
    simp only [Value.ownBlock, Option.some.injEq] at hb
    omega
  obtain ⟨h1, h2, h3, h4, h5, h6, h7, h8, vs, h9, h10, h11⟩ := h
  refine ⟨h1.kept hcs (fun he => h8 he.symm), h2.kept hcs (by simp; omega), hcs.own h3 (fun b hb he => (h4 b hb).1 he), h4, h5.trans hcs fun b hb he => by simp at he; omega, h6, h7, h8, vs.set c q, h9.set c q, by rw [List.length_set]; exact h10, fun d hd => ?_⟩
  rw [partL_next xs R k c hk hc d]
  by_cases hdc : d = c
  · subst hdc
    rw [if_pos rfl, List.getD_eq_getElem?_getD, List.getElem?_set_self (by omega)]
    exact ⟨⟨hq.rd.kept hcs (fun b hb he => (hqf b hb).1 he), hqr⟩, hqf⟩
  · rw [if_neg hdc, List.getD_eq_getElem?_getD, List.getElem?_set_ne (Ne.symm hdc), ← List.getD_eq_getElem?_getD]
    exact ⟨(h11 d hd).1.kept hcs (fun b hb he => ((h11 d hd).2 b hb).1 he), (h11 d hd).2⟩
theorem cnt_bounds (ys : List Nat) (h : isRight (cnt ys)) : ∀ z ∈ cnt ys, -9223372036854775808 ≤ z ∧ z ≤ 9223372036854775807 := fun z hz => by
  have h1 := cnt_nonneg ys z hz
  have h2 := mem_le_total (cnt ys) h z hz
  omega
end

set_option maxHeartbeats 4000000 in
set_option maxRecDepth 100000 in
theorem r16first_any (v : Value) (xs : List Nat) (w : World) (h : RdB w v xs) (hx : ∀ x ∈ xs, x < 256) (hl : xs.length ≤ 1000000) (h0 : 0 < xs.length) :
    Calls Try.prog 39 #[v] w fun e w' => ∃ u, e = .returned u ∧ RdM w' u (firstM xs) ∧ Chg (fun _ => False) w w' := by
  obtain ⟨ao, cap, rfl⟩ := h.form
  have hca := Chg.alloc (fun _ => False) w (.cells #[.int .i64 0, .bool false, .slice none 0 0] 24)
  have hnew : Mb _ _ 0 false (.slice none 0 0) := heap_alloc_new w (.cells #[.int .i64 0, .bool false, .slice none 0 0] 24)
  have hz := zeroModel
  obtain ⟨Z, hZ, hmake⟩ := makeLists
  have HZ := Lib.hid hZ
  clear hZ
  obtain ⟨hz1, hz2⟩ := firstLog_bounds xs hx (by omega) h0
  have HWI := Lib.hid (show ∀ W, Chg (fun _ => False) w W → Calls Try.prog 68 #[.slice ao xs.length cap] W fun e w' => e = .returned (.int .i64 ((widest xs : Nat) : Int)) ∧ Chg (fun _ => False) W w' from fun W hW => r6widest_any _ xs W (h.kept hW (by simp)) hx (by omega))
  have HPR := Lib.hid (show ∀ W, Chg (fun _ => False) w W → Calls Try.prog 69 #[.slice ao xs.length cap] W fun e w' => ∃ v', e = .returned v' ∧ w'.ownsRow W.heap.size 3 1 v' (pres xs).length (iw (pres xs)) ∧ Chg (fun _ => False) W w' from fun W hW => r6present_own _ xs W (h.kept hW (by simp)) hx (by omega))
  have HFO := Lib.hid (show ∀ W (c : Int), Chg (fun _ => False) w W → Calls Try.prog 70 #[.slice ao xs.length cap, .int .i64 c] W fun e w' => ∃ v', e = .returned v' ∧ OwnI w' W.heap.size v' (cnt (sel xs c)) ∧ Chg (fun _ => False) W w' from fun W c hW => r6for_any _ xs c W (h.kept hW (by simp)) hx (by omega))
  obtain ⟨n, hn⟩ : ∃ n, xs.length = n := ⟨_, rfl⟩
  have hwl := wid_le xs 256
  have hzl : firstLog xs = pickI (n : Int) ((widest xs : Nat) : Int) 9 := by rw [← hn]; rfl
  rw [hn] at hl HWI HPR HFO ⊢
  obtain ⟨M, hM⟩ : ∃ M, widest xs = M := ⟨_, rfl⟩
  have hMe : wid xs 256 = M := hM
  rw [hM] at hzl HWI
  rw [hMe] at hwl
  obtain ⟨R, hR⟩ : ∃ R, firstLog xs = R := ⟨_, rfl⟩
  rw [hR] at hzl hz1 hz2
  have HPK := Lib.hid (show ∀ W, Calls Try.prog 65 #[.int .i64 (n : Int), .int .i64 (M : Int), .int .i64 9] W fun e w' => e = .returned (.int .i64 R) ∧ w' = W from fun W => by
    have := r7pick_any (n : Int) (M : Int) 9 W (by omega) (by omega) (by omega) (by omega) (by omega) (by omega)
    rw [← hzl] at this
    exact this)
  have HR := Lib.hid hR; have HCA := Lib.hid hca; have HNEW := Lib.hid hnew; have HX := Lib.hid hx; have HN := Lib.hid hn
  have hnI : (n : Int) ≤ 1000000 := by omega
  have hMI : (M : Int) ≤ 256 := by omega
  have HCD := Lib.hid hca.drew
  clear h hca hnew hM hMe hR hzl hn hx hl h0 hwl
  go_enter Try.func39, Try.ntmps39
  have HCG := Lib.hid (show ∀ o, Chg (fun _ => False) w ((w.alloc (.cells #[.int .i64 0, .bool false, .slice none 0 0] 24)).alloc o).drew from fun o => (HCA.out.trans (Chg.alloc (fun _ => False) _ o) fun _ _ h => h).drew)
  have HCH := Lib.hid (show ∀ o o', Chg (fun _ => False) w (((w.alloc (.cells #[.int .i64 0, .bool false, .slice none 0 0] 24)).alloc o).alloc o').drew from fun o o' => ((HCA.out.trans (Chg.alloc (fun _ => False) _ o) fun _ _ h => h).trans (Chg.alloc (fun _ => False) _ o') fun _ _ h => h).drew)
  have HZN := Lib.hid (show Z.toList = nils from HZ.out)
  have HN0 := Lib.hid (show Mb (w.alloc (.cells #[.int .i64 0, .bool false, .slice none 0 0] 24)).drew w.heap.size 0 false (.slice none 0 0) from HNEW.out)
  have HNG := Lib.hid (show ∀ o, Mb ((w.alloc (.cells #[.int .i64 0, .bool false, .slice none 0 0] 24)).alloc o).drew w.heap.size 0 false (.slice none 0 0) from fun o => HNEW.out.kept ((Chg.alloc (fun _ => False) _ o).drew) (by simp))
  have HNH := Lib.hid (show ∀ o o', Mb (((w.alloc (.cells #[.int .i64 0, .bool false, .slice none 0 0] 24)).alloc o).alloc o').drew w.heap.size 0 false (.slice none 0 0) from fun o o' => (HNEW.out.kept (Chg.alloc (fun _ => False) _ o) (by simp)).kept ((Chg.alloc (fun _ => False) _ o').drew) (by simp))
  have HRZ1 := Lib.hid (show RowV ((w.alloc (.cells #[.int .i64 0, .bool false, .slice none 0 0] 24)).alloc (.cells Z 41)).drew (w.heap.size + 1) nils from by have h := rowZ HZN.out (w.alloc (.cells #[.int .i64 0, .bool false, .slice none 0 0] 24)); rw [show (w.alloc (.cells #[.int .i64 0, .bool false, .slice none 0 0] 24)).heap.size = w.heap.size + 1 by simp] at h; exact h)
  have HRZ1b := Lib.hid (show RowV (((w.alloc (.cells #[.int .i64 0, .bool false, .slice none 0 0] 24)).alloc (.cells Z 41)).alloc (.cells #[.int .i64 0, .bool false, .slice none 0 0] 24)).drew (w.heap.size + 1) nils from RowV.kept (w := (w.alloc (.cells #[.int .i64 0, .bool false, .slice none 0 0] 24)).alloc (.cells Z 41)) HRZ1.out ((Chg.alloc (fun _ => False) ((w.alloc (.cells #[.int .i64 0, .bool false, .slice none 0 0] 24)).alloc (.cells Z 41)) (.cells #[.int .i64 0, .bool false, .slice none 0 0] 24)).drew) (by simp))
  have HRZ2 := Lib.hid (show RowV (((w.alloc (.cells #[.int .i64 0, .bool false, .slice none 0 0] 24)).alloc (.cells #[.int .i64 0, .bool false, .slice none 0 0] 24)).alloc (.cells Z 41)).drew (w.heap.size + 2) nils from by have h := rowZ HZN.out ((w.alloc (.cells #[.int .i64 0, .bool false, .slice none 0 0] 24)).alloc (.cells #[.int .i64 0, .bool false, .slice none 0 0] 24)); rw [show ((w.alloc (.cells #[.int .i64 0, .bool false, .slice none 0 0] 24)).alloc (.cells #[.int .i64 0, .bool false, .slice none 0 0] 24)).heap.size = w.heap.size + 2 by simp] at h; exact h)
  go_upto_region 1 with fail
  go_cut [3] from 8 to 14 (fun s3 wx => First1 w R s3 wx)
  case first =>
    have HM1 := Lib.hid (show Mb ((w.alloc (.cells #[.int .i64 0, .bool false, .slice none 0 0] 24)).alloc (.cells #[.int .i64 0, .bool false, .slice none 0 0] 24)).drew (w.heap.size + 1) 0 false (.slice none 0 0) from heap_alloc2_new w (.cells #[.int .i64 0, .bool false, .slice none 0 0] 24) (.cells #[.int .i64 0, .bool false, .slice none 0 0] 24))
    have HM1b := Lib.hid (show Mb (((w.alloc (.cells #[.int .i64 0, .bool false, .slice none 0 0] 24)).alloc (.cells #[.int .i64 0, .bool false, .slice none 0 0] 24)).alloc (.cells Z 41)).drew (w.heap.size + 1) 0 false (.slice none 0 0) from (Below.heap_alloc _ _ _ (by simp)).trans (heap_alloc2_new w (.cells #[.int .i64 0, .bool false, .slice none 0 0] 24) (.cells #[.int .i64 0, .bool false, .slice none 0 0] 24)))
    have HM2 := Lib.hid (show Mb (((w.alloc (.cells #[.int .i64 0, .bool false, .slice none 0 0] 24)).alloc (.cells Z 41)).alloc (.cells #[.int .i64 0, .bool false, .slice none 0 0] 24)).drew (w.heap.size + 2) 0 false (.slice none 0 0) from by have h := heap_alloc_new ((w.alloc (.cells #[.int .i64 0, .bool false, .slice none 0 0] 24)).alloc (.cells Z 41)) (.cells #[.int .i64 0, .bool false, .slice none 0 0] 24); rw [show ((w.alloc (.cells #[.int .i64 0, .bool false, .slice none 0 0] 24)).alloc (.cells Z 41)).heap.size = w.heap.size + 2 by simp] at h; exact h)
    go_region_held3 (fun _ => True) (trivial) (first
      | (go_at_call 68; refine (HWI.out _ HCD.out).mono ?_; rintro e w3 ⟨rfl, hc3⟩; have HMN := Lib.hid (HN0.out.kept hc3 (by simp));  have HC3 := Lib.hid ((HCD.out).trans hc3 fun _ _ h => h); have HC30 := Lib.hid hc3; clear hc3)
      | (go_at_call 68; refine (HWI.out _ (HCG.out (.cells Z 41))).mono ?_; rintro e w3 ⟨rfl, hc3⟩; have HMN := Lib.hid ((HNG.out _).kept hc3 (by simp)); have HRW := Lib.hid (HRZ1.out.kept hc3 (by simp));  have HC3 := Lib.hid (((HCG.out (.cells Z 41))).trans hc3 fun _ _ h => h); have HC30 := Lib.hid hc3; clear hc3)
      | (go_at_call 68; refine (HWI.out _ (HCG.out (.cells #[.int .i64 0, .bool false, .slice none 0 0] 24))).mono ?_; rintro e w3 ⟨rfl, hc3⟩; have HMN := Lib.hid ((HNG.out _).kept hc3 (by simp)); have HMW := Lib.hid (HM1.out.kept hc3 (by simp)); obtain ⟨⟨x0, x1, x2⟩, ⟨y0, y1, y2⟩, s0, s1, s2, t0, t1, t2⟩ := HMW.out.more; have HC3 := Lib.hid (((HCG.out (.cells #[.int .i64 0, .bool false, .slice none 0 0] 24))).trans hc3 fun _ _ h => h); have HC30 := Lib.hid hc3; clear hc3)
      | (go_at_call 68; refine (HWI.out _ (HCH.out (.cells #[.int .i64 0, .bool false, .slice none 0 0] 24) (.cells Z 41))).mono ?_; rintro e w3 ⟨rfl, hc3⟩; have HMN := Lib.hid ((HNH.out _ _).kept hc3 (by simp)); have HRW := Lib.hid (HRZ2.out.kept hc3 (by simp)); have HMW := Lib.hid (HM1b.out.kept hc3 (by simp)); obtain ⟨⟨x0, x1, x2⟩, ⟨y0, y1, y2⟩, s0, s1, s2, t0, t1, t2⟩ := HMW.out.more; have HC3 := Lib.hid (((HCH.out (.cells #[.int .i64 0, .bool false, .slice none 0 0] 24) (.cells Z 41))).trans hc3 fun _ _ h => h); have HC30 := Lib.hid hc3; clear hc3)
      | (go_at_call 68; refine (HWI.out _ (HCH.out (.cells Z 41) (.cells #[.int .i64 0, .bool false, .slice none 0 0] 24))).mono ?_; rintro e w3 ⟨rfl, hc3⟩; have HMN := Lib.hid ((HNH.out _ _).kept hc3 (by simp)); have HRW := Lib.hid (HRZ1b.out.kept hc3 (by simp)); have HMW := Lib.hid (HM2.out.kept hc3 (by simp)); obtain ⟨⟨x0, x1, x2⟩, ⟨y0, y1, y2⟩, s0, s1, s2, t0, t1, t2⟩ := HMW.out.more; have HC3 := Lib.hid (((HCH.out (.cells Z 41) (.cells #[.int .i64 0, .bool false, .slice none 0 0] 24))).trans hc3 fun _ _ h => h); have HC30 := Lib.hid hc3; clear hc3)
      | (go_at_call 65; refine (HPK.out _).mono ?_; rintro e w4 ⟨rfl, rfl⟩))
    all_goals (go_wp2_with fail; go_meet; first
      | exact firstA HZN.out HMN.out HC3.out
      | exact firstB HZN.out HMN.out HC3.out
      | exact firstC HRW.out (by omega) HMN.out HC3.out
      | exact firstE HRW.out (by omega) HMW.out (by omega) (by omega) HMN.out HC3.out
      | exact firstD HZN.out HMW.out (by omega) HMN.out HC3.out)
  case rest =>
  obtain ⟨G, G3, rfl, hm3, hrow, hmN, hG, hG3, hc⟩ := hcut
  have hGlt := hrow.lt
  have hG3lt := hm3.lt
  have hne3 : G ≠ G3 := fun he => by
    rw [he] at hrow
    have := hrow.symm.trans hm3
    simp at this
  have HS0 := Lib.hid (show Mb wc G3 R false (.slice (some ⟨G, 0, none⟩) 256 256) ∧ RowV wc G nils ∧ Mb wc w.heap.size 0 false (.slice none 0 0) ∧ Chg (fun _ => False) w wc ∧ w.heap.size < G ∧ w.heap.size < G3 ∧ G < wc.heap.size ∧ G3 < wc.heap.size ∧ G ≠ G3 from ⟨hm3, hrow, hmN, hc, hG, hG3, hGlt, hG3lt, hne3⟩)
  clear hm3 hrow hmN hc hG hG3 hGlt hG3lt hne3 HCA HNEW HCD HCG HCH HZN HN0 HNG HNH HRZ1 HRZ1b HRZ2 HZ hmake HWI
  go_wp2_with fail
  refine (HPR.out wc HS0.out.2.2.2.1).mono ?_
  rintro e w5 ⟨l, rfl, hl5, hc5⟩
  obtain ⟨np, hnp⟩ : ∃ np, (pres xs).length = np := ⟨_, rfl⟩
  have hnp256 : np ≤ 256 := by rw [← hnp]; exact presTo_length xs 256
  rw [hnp] at hl5
  obtain ⟨al, cl, rfl⟩ : ∃ al cl, l = .slice al np cl := by
    rcases hl5.2 with ⟨rfl, rfl⟩ | ⟨g, cap, cur, rfl, _⟩
    · exact ⟨_, _, rfl⟩
    · exact ⟨_, _, rfl⟩
  have HNP := Lib.hid hnp
  have hnpI : (np : Int) ≤ 256 := by omega
  have HS := Lib.hid (show FirstS xs w G G3 R al np cl 0 w5 from by
    obtain ⟨a1, a2, a3, a4, a5, a6, a7, a8, a9⟩ := HS0.out
    refine ⟨a1.kept hc5 (by simp), a3.kept hc5 (by simp), ownsRow_mono hl5 (Nat.zero_le _), fun k hk => ⟨by have := (hl5.lt k hk).1; omega, by have := (hl5.lt k hk).1; omega, by have := (hl5.lt k hk).1; omega⟩, a4.trans hc5 fun _ _ h => h, a5, a6, a9, nils, a2.kept hc5 (by simp), nils_length, fun c hc => ?_⟩
    have hn : nils.getD c undef = .slice none 0 0 := by
      unfold nils
      rw [List.getD_eq_getElem?_getD, List.getElem?_replicate, if_pos hc]; rfl
    rw [hn]
    refine ⟨?_, by simp [Value.ownBlock]⟩
    have : partL xs R 0 c = [] := by unfold partL; rw [List.take_zero, if_neg (by simp)]
    rw [this]
    exact .nil _)
  clear hl5 hc5 hnp hnp256 HS0 HPR
  go_wp2
  go_loopw [5] (fun o5 wr => ∃ k : Nat, k ≤ np ∧ o5 = .int .i64 (k : Int) ∧ FirstS xs w G G3 R al np cl k wr) (fun o5 _ => np - (intOf o5).toNat)
  case atStart => exact ⟨0, Nat.zero_le _, rfl, HS.out⟩
  case round =>
    clear HS
    obtain ⟨k, hk, rfl, hs⟩ := hrel
    by_cases hlt : k < np
    · have hcr := pres_range xs k (by rw [HNP.out]; exact hlt)
      have hcm : (pres xs).getD k 0 ∈ pres xs := getD_mem (by rw [HNP.out]; exact hlt)
      obtain ⟨c, hce⟩ : ∃ c : Nat, (pres xs).getD k 0 = (c : Int) := ⟨((pres xs).getD k 0).toNat, by omega⟩
      rw [hce] at hcr hcm
      have hc256 : c < 256 := by omega
      have hsel := (pres_mem.1 hcm).2.2
      have hok := first_ok xs HX.out (by rw [HN.out]; omega) c hc256 hsel
      rw [HR.out] at hok
      obtain ⟨g, rfl⟩ := hs.lcell k hlt
      have hlc := hs.lcell' k hlt hce
      obtain ⟨b0, b1, b2⟩ := hs.mb.cells
      have hsz := hs.chg
      have hfo := HFO.out wr.drew (c : Int) hs.chg.drew
      have HCT := Lib.hid (show ∀ W fv, RdI W fv (cnt (sel xs (c : Int))) → Calls Try.prog 67 #[fv, .int .i64 R] W fun e w' => NormSays W (cnt (sel xs (c : Int))) R e w' ∧ RoomE e from fun W fv hW => r8counts_room fv (cnt (sel xs (c : Int))) R W hW (cnt_bounds _ hok.1) (by rw [cnt_length]; omega) (by omega))
      have HFO2 := Lib.hid hfo; have HOK := Lib.hid hok; have HS := Lib.hid hs; have HCE := Lib.hid hce; have HC256 := Lib.hid hc256
      have hkn : (k : Int) < (np : Int) := by omega
      have hcI : (c : Int) < 256 := by omega
      clear hcr hcm hce hsel hok hs hsz hfo hc256
      go_wp2
      go_region_held3 (fun W => W.cell? ⟨g, k, none⟩ = some (.int .i64 (c : Int)) ∧ W.cell? ⟨G3, 0, none⟩ = some (.int .i64 R)) (first | exact ⟨hlc, b0⟩ | exact ⟨m0, m1⟩ | exact ⟨n0, n1⟩) (first
        | (go_at_call 70; refine (HFO2.out).mono ?_; rintro e w6 ⟨fv, rfl, hf6, hc6⟩; have hs6 := HS.out.kept ((Chg.refl (fun _ => False) wr).drew.trans hc6 fun _ _ h => h); have m0 := hs6.lcell' k hlt HCE.out; have m1 := hs6.mb.cells.1; have HS6 := Lib.hid hs6; have HF6 := Lib.hid hf6; clear hs6 hf6 hc6)
        | (go_at_call 67; refine (HCT.out _ _ HF6.out.rd).mono ?_; rintro e w7 ⟨⟨q, rfl, hq7, -, hc7⟩, hrm7⟩; have HRM7 := Lib.hid (hrm7 _ _ rfl); rw [if_pos HOK.out]; have hs7 := HS6.out.kept hc7; have n0 := hs7.lcell' k hlt HCE.out; have n1 := hs7.mb.cells.1; have HQ7 := Lib.hid (hq7 HOK.out); have HG7 := Lib.hid (show G < w6.heap.size ∧ G3 < w6.heap.size ∧ w.heap.size < w6.heap.size from HS6.out.lts); have HS7 := Lib.hid hs7; clear hs7 hq7 hc7))
      have hg7 := HG7.out
      have hs8 := HS7.out.store (by rw [HNP.out]; exact hlt) HCE.out HC256.out HQ7.out HRM7.out hg7
      obtain ⟨aq, lq, hqf⟩ : ∃ aq lq, q = .slice aq 256 lq := by obtain ⟨g', off', cc, he, _⟩ := HQ7.out; exact ⟨_, _, by rw [he, (normR_right HOK.out).1.1]⟩
      subst hqf
      have HS8 := Lib.hid hs8
      obtain ⟨vs, hv1, hv2, -⟩ := HS7.out.row
      have v0 := hv1.cell c (by rw [hv2]; exact HC256.out)
      have v1 := hv1.free c
      obtain ⟨p0, p1, p2⟩ := HS7.out.mb.cells
      obtain ⟨vo, hvo⟩ : ∃ vo, vs.getD c undef = vo := ⟨_, rfl⟩
      rw [hvo] at v0
      clear hs8 hv1 hv2 hvo hg7 hlc b0 b1 b2 m0 m1 n1 HS6 HF6 HS7 HQ7 HG7 HS HCT HFO2 HOK
      go_wp2
      go_region
      go_wp2
      go_roundw
      case rel => exact ⟨k + 1, by omega, by go_num, HS8.out.kept ((Chg.refl _ _).drew)⟩
      case measure => simp [intOf]; omega
    · obtain rfl : k = np := by omega
      have hmb := hs.mn
      obtain ⟨p0, p1, p2⟩ := hs.mb.cells
      obtain ⟨y0, y1, y2, hmb7⟩ := W3_cells hmb R false (.slice (some ⟨G, 0, none⟩) 256 256)
      have hc7 := W3_chg wr w.heap.size R false (.slice (some ⟨G, 0, none⟩) 256 256)
      obtain ⟨vs, hv1, hv2, hv3⟩ := hs.row
      have hv4 := hv1.kept hc7 (by have := hs.hG; omega)
      have hrd7 : RdM (W3 wr w.heap.size R false (.slice (some ⟨G, 0, none⟩) 256 256)) (.agg #[.int .i64 R, .bool false, .slice (some ⟨G, 0, none⟩) 256 256]) (firstM xs) := by
        refine ⟨.slice (some ⟨G, 0, none⟩) 256 256, ?_, .inr ⟨G, 0, 256, by simp [firstM], fun j hj => ?_⟩⟩
        · show _ = Value.agg #[.int .i64 (firstLog xs), .bool false, _]
          rw [HR.out]
        · have hj256 : j < 256 := by simpa [firstM] using hj
          refine ⟨vs.getD j undef, by rw [Nat.zero_add]; exact hv4.cell j (by omega), ?_⟩
          rw [firstM_at xs j hj256, HR.out, ← partL_all xs R j hj256, HNP.out]
          exact (hv3 j hj256).1.kept hc7 (fun b hb he => ((hv3 j hj256).2 b hb).2.2 he)
      have hc8 : Chg (fun _ => False) w (W3 wr w.heap.size R false (.slice (some ⟨G, 0, none⟩) 256 256)) := hs.chg.trans hc7 fun k hk he => by omega
      obtain ⟨z0, z1, z2⟩ := hmb.cells
      have f0 := frozen_of_row wr w.heap.size 0 _ _ hmb
      have f1 := frozen_of_row wr w.heap.size 1 _ _ hmb
      have f2 := frozen_of_row wr w.heap.size 2 _ _ hmb
      have HRD7 := Lib.hid hrd7; have HC8 := Lib.hid hc8
      unfold W3 at y2 HRD7 HC8
      clear hs hmb hmb7 hc7 hv1 hv2 hv3 hv4 hrd7 hc8
      go_wp2
      refine bodyPost_ret (v := .agg #[.int .i64 R, .bool false, .slice (some ⟨G, 0, none⟩) 256 256]) (by simp [results, Try.results39, go_sem, y0, y1, y2]; try rfl) rfl ?_
      exact ⟨_, rfl, HRD7.out, HC8.out⟩

end Go.Proofs.Ytokeoebhmjefoaa

/- Lists that a small block can't hold. -/
namespace Go.Proofs.Ytokeoebhmjefoaa
open Go.RowKit

/-- lists that a small block can't hold stay what they are where it turns -/
theorem rdi_off {w w' : World} {g0 : Nat} {log : Int} {one : Bool} {cv v : Value} {q : List Int} (h : RdI w v q) (hm : Mb w g0 log one cv) (hq : q = [] ∨ q.length = 256) (hc : Chg (fun k => k = g0) w w') : RdI w' v q := by
  rcases h with h | ⟨g, off, cap, rfl, hcell⟩
  · exact .inl h
  · rcases hq with rfl | hq
    · exact .inl ⟨rfl, _, _, rfl⟩
    · refine RdI.kept (.inr ⟨g, off, cap, rfl, hcell⟩) hc fun k hk he => ?_
      simp only [Value.ownBlock, Option.some.injEq] at hk
      subst hk
      subst he
      have := hcell 3 (by omega)
      rw [cell_of_row w g (off + 3) _ _ _ hm] at this
      simp at this

end Go.Proofs.Ytokeoebhmjefoaa

/- What the document's own model (puncheonref16) tells: Of, of some bytes. -/
namespace Go.Proofs.Ytokeoebhmjefoaa
open Go.RowKit

/-- a model of bytes: of all, or by contexts -/
def ofM (xs : List Nat) (one : Bool) : Md := if one then zeroM xs else firstM xs
theorem ofM_fits (xs : List Nat) (one : Bool) (hx : ∀ x ∈ xs, x < 256) (hl : xs.length ≤ 1073741824) (h0 : 0 < xs.length) : (ofM xs one).fits xs := by
  unfold ofM
  cases one with
  | true => rw [if_pos rfl]; exact zero_fits xs hx hl h0
  | false => rw [if_neg (by simp)]; exact first_fits xs hx hl h0
theorem ofM_log (xs : List Nat) (one : Bool) (hx : ∀ x ∈ xs, x < 256) (hl : xs.length ≤ 1073741824) (h0 : 0 < xs.length) : 5 ≤ (ofM xs one).log ∧ (ofM xs one).log ≤ 11 := by
  unfold ofM
  cases one with
  | true => rw [if_pos rfl]; exact (zero_ok xs hx hl h0).2
  | false => rw [if_neg (by simp)]; have := firstLog_bounds xs hx hl h0; unfold firstM; simp only []; omega

theorem rdll_off {w w' : World} {g0 : Nat} {log : Int} {one : Bool} {v : Value} {L : List (List Int)} (h : RdLL w v L) (hm : Mb w g0 log one (.slice none 0 0)) (hL : (L.length = 256 ∧ ∀ l ∈ L, l = [] ∨ l.length = 256) ∨ ∃ l, L = [l] ∧ l.length = 256) (hc : Chg (fun k => k = g0) w w') : RdLL w' v L := by
  rcases h with h | ⟨g, off, cap, rfl, hcell⟩
  · exact .inl h
  · have hg : g ≠ g0 := fun he => by
      subst he
      rcases hL with ⟨hL, _⟩ | ⟨l, rfl, hl⟩
      · obtain ⟨u, hu, _⟩ := hcell 3 (by omega)
        rw [cell_of_row w g (off + 3) _ _ _ hm] at hu
        simp at hu
      · obtain ⟨u, hu, hr⟩ := hcell 0 (by simp)
        rw [cell_of_row w g (off + 0) _ _ _ hm] at hu
        have hl2 : ([l].getD 0 []).length = 256 := by simpa using hl
        obtain ⟨ao, c, rfl⟩ := hr.1.form
        rw [hl2] at hu
        rcases off with _ | _ | _ | off <;> simp at hu
    refine .inr ⟨g, off, cap, rfl, fun j hj => ?_⟩
    obtain ⟨u, h1, h2⟩ := hcell j hj
    have hb := hc.block g (block_lt_of_cell h1) hg
    refine ⟨u, by rw [World.cell?_of_block (w := w) (a := ⟨g, off + j, none⟩) hb]; exact h1, rdi_off h2.1 hm ?_ hc, h2.2⟩
    rcases hL with ⟨_, hL⟩ | ⟨l, rfl, hl⟩
    · refine hL _ ?_
      rw [List.getD_eq_getElem?_getD, List.getElem?_eq_getElem hj]
      exact List.getElem_mem _
    · have : j = 0 := by simpa using hj
      subst this
      exact .inr (by simpa using hl)
theorem zero_wide (xs : List Nat) (hx : ∀ x ∈ xs, x < 256) (hl : xs.length ≤ 1073741824) (h0 : 0 < xs.length) : ∃ l, (zeroM xs).cs = [l] ∧ l.length = 256 := ⟨_, rfl, (normR_right (zero_ok xs hx hl h0).1).1.1⟩
theorem first_wide (xs : List Nat) (hx : ∀ x ∈ xs, x < 256) (hl : xs.length ≤ 1073741824) : (firstM xs).cs.length = 256 ∧ ∀ l ∈ (firstM xs).cs, l = [] ∨ l.length = 256 := by
  refine ⟨by simp [firstM], fun l hm => ?_⟩
  simp only [firstM, List.mem_map, List.mem_range] at hm
  obtain ⟨c, hc, rfl⟩ := hm
  unfold ctxL
  split
  · rename_i h0
    exact .inr (normR_right (first_ok xs hx hl c hc h0)).1.1
  · exact .inl rfl

set_option maxHeartbeats 2000000 in
theorem r16of_any (v : Value) (xs : List Nat) (one : Bool) (w : World) (h : RdB w v xs) (hx : ∀ x ∈ xs, x < 256) (hl : xs.length ≤ 1000000) (h0 : 0 < xs.length) :
    Calls Try.prog 18 #[v, .bool one] w fun e w' => ∃ u, e = .returned u ∧ RdM w' u (ofM xs one) ∧ Chg (fun _ => False) w w' := by
  obtain ⟨ao, cap, rfl⟩ := h.form
  have hca := Chg.alloc (fun _ => False) w (.cells #[.int .i64 0, .bool false, .slice none 0 0] 24)
  have hnew : Mb _ _ 0 false (.slice none 0 0) := heap_alloc_new w (.cells #[.int .i64 0, .bool false, .slice none 0 0] 24)
  have hrd := h.kept hca (by simp)
  have hz := r16zero_any _ xs _ hrd hx hl h0
  have hfi := r16first_any _ xs _ hrd hx hl h0
  have hwz := zero_wide xs hx (by omega) h0
  have hwf := first_wide xs hx (by omega)
  have HZ := Lib.hid hz; have HF := Lib.hid hfi; have HCA := Lib.hid hca; have HNEW := Lib.hid hnew; have HWZ := Lib.hid hwz; have HWF := Lib.hid hwf
  obtain ⟨N, hN⟩ : ∃ N, xs.length = N := ⟨_, rfl⟩
  rw [hN] at HZ HF h0 hl ⊢
  have hN0 : ((N : Int) == 0) = false := by simp; omega
  have hzm := zeroModel
  clear h hca hnew hrd hz hfi hwz hwf hN hx
  have key : ∀ (w2 : World) (m : Md) (u : Value), RdM w2 u m → Chg (fun _ => False) (w.alloc (.cells #[.int .i64 0, .bool false, .slice none 0 0] 24)) w2 → ((m.cs.length = 256 ∧ ∀ l ∈ m.cs, l = [] ∨ l.length = 256) ∨ ∃ l, m.cs = [l] ∧ l.length = 256) →
      ∃ cv, u = .agg #[.int .i64 m.log, .bool m.one, cv] ∧ (∃ a c, cv = .slice a m.cs.length c) ∧ Mb w2 w.heap.size 0 false (.slice none 0 0) ∧ RdM (W3 w2 w.heap.size m.log m.one cv) u m ∧ Chg (fun _ => False) w (W3 w2 w.heap.size m.log m.one cv) := by
    intro w2 m u hm hc hw
    obtain ⟨cv, rfl, hll⟩ := hm
    have hmb := HNEW.out.kept hc (by simp)
    have hc3 := W3_chg w2 w.heap.size m.log m.one cv
    exact ⟨cv, rfl, hll.form, hmb, ⟨cv, rfl, rdll_off hll hmb hw hc3⟩, (HCA.out.trans hc fun _ _ h => h).trans hc3 fun q hq he => by omega⟩
  have KEY := Lib.hid key
  clear key
  cases one with
  | true =>
    go_enter Try.func18, Try.ntmps18
    go_wp2_with fail
    refine HZ.out.mono ?_
    rintro e w2 ⟨u, rfl, hm, hc2⟩
    obtain ⟨cv, rfl, ⟨a2, c2, rfl⟩, hmb, hrm, hcw⟩ := KEY.out w2 _ u hm hc2 (.inr HWZ.out)
    obtain ⟨z0, z1, z2⟩ := hmb.cells
    have f0 := frozen_of_row w2 w.heap.size 0 _ _ hmb
    have f1 := frozen_of_row w2 w.heap.size 1 _ _ hmb
    have f2 := frozen_of_row w2 w.heap.size 2 _ _ hmb
    obtain ⟨y0, y1, y2, _⟩ := W3_cells hmb (zeroM xs).log (zeroM xs).one (.slice a2 (zeroM xs).cs.length c2)
    have HR := Lib.hid (show RdM _ _ (ofM xs true) ∧ _ from ⟨hrm, hcw⟩)
    obtain ⟨lg, hlg⟩ : ∃ lg, (zeroM xs).log = lg := ⟨_, rfl⟩
    obtain ⟨on, hon⟩ : ∃ on, (zeroM xs).one = on := ⟨_, rfl⟩
    obtain ⟨n2, hn2⟩ : ∃ n2, (zeroM xs).cs.length = n2 := ⟨_, rfl⟩
    rw [hlg, hon, hn2] at HR y2 ⊢
    rw [hlg] at y0
    rw [hlg, hon] at y1
    unfold W3 at y2 HR
    clear hm hc2 hmb hrm hcw hlg hon hn2 HZ HF
    go_wp2
    refine bodyPost_ret (v := .agg #[.int .i64 lg, .bool on, .slice a2 n2 c2]) (by simp [results, Try.results18, go_sem, y0, y1, y2]; try rfl) rfl ?_
    exact ⟨_, rfl, HR.out⟩
  | false =>
    go_enter Try.func18, Try.ntmps18
    go_wp2_with fail
    refine HF.out.mono ?_
    rintro e w2 ⟨u, rfl, hm, hc2⟩
    obtain ⟨cv, rfl, ⟨a2, c2, rfl⟩, hmb, hrm, hcw⟩ := KEY.out w2 _ u hm hc2 (.inl HWF.out)
    obtain ⟨z0, z1, z2⟩ := hmb.cells
    have f0 := frozen_of_row w2 w.heap.size 0 _ _ hmb
    have f1 := frozen_of_row w2 w.heap.size 1 _ _ hmb
    have f2 := frozen_of_row w2 w.heap.size 2 _ _ hmb
    obtain ⟨y0, y1, y2, _⟩ := W3_cells hmb (firstM xs).log (firstM xs).one (.slice a2 (firstM xs).cs.length c2)
    have HR := Lib.hid (show RdM _ _ (ofM xs false) ∧ _ from ⟨hrm, hcw⟩)
    obtain ⟨lg, hlg⟩ : ∃ lg, (firstM xs).log = lg := ⟨_, rfl⟩
    obtain ⟨on, hon⟩ : ∃ on, (firstM xs).one = on := ⟨_, rfl⟩
    obtain ⟨n2, hn2⟩ : ∃ n2, (firstM xs).cs.length = n2 := ⟨_, rfl⟩
    rw [hlg, hon, hn2] at HR y2 ⊢
    rw [hlg] at y0
    rw [hlg, hon] at y1
    unfold W3 at y2 HR
    clear hm hc2 hmb hrm hcw hlg hon hn2 HZ HF
    go_wp2
    refine bodyPost_ret (v := .agg #[.int .i64 lg, .bool on, .slice a2 n2 c2]) (by simp [results, Try.results18, go_sem, y0, y1, y2]; try rfl) rfl ?_
    exact ⟨_, rfl, HR.out⟩

end Go.Proofs.Ytokeoebhmjefoaa

/- An argument of type []int, opened. -/
namespace Go.Proofs.Ytokeoebhmjefoaa
open Go.ChangeShapes Go.WideShapes Go.ChangeAt Go.RowKit Go.Deep

theorem open_ints64 {H : Type} {enc : TypeId × Value → H} {W : World} {base : Nat} {spare : Nat → Bool} {held : Bool} {a : Option Addr} {len cap : Nat} {d : DataW H} {p : List MemPlace}
    (h : DataW.Trod enc Try.prog W base spare held 41 (.slice a len cap) d p) : ∃ zs, RdI W (.slice a len cap) zs ∧ ∀ z ∈ zs, -9223372036854775808 ≤ z ∧ z ≤ 9223372036854775807 := by
  obtain ⟨fuel, hf⟩ := h
  rcases open_ints Try.underlying41 Try.underlying3 cellsInt hf with ⟨hcs, _⟩ | ⟨x, l, c, zs, hcs, _, hl, _, hz, _, hcell, hwz⟩
  · simp [Value.cells] at hcs
    obtain ⟨rfl, rfl, rfl⟩ := hcs
    exact ⟨[], .inl ⟨rfl, none, 0, rfl⟩, by simp⟩
  · simp [Value.cells] at hcs
    obtain ⟨rfl, rfl, rfl⟩ := hcs
    have hlen : len ≤ zs.length := by rw [hz]; split <;> omega
    refine ⟨zs.take len, ?_, fun z hz' => by have := bounds_i64 (hwz z (List.mem_of_mem_take hz')); omega⟩
    by_cases h0 : len = 0
    · subst h0
      exact .inl ⟨by simp, some x, cap, rfl⟩
    · obtain ⟨g, off, rfl⟩ := spot_none (hcell 0 (by omega))
      refine .inr ⟨g, off, cap, by simp; omega, fun j hj => ?_⟩
      have hj' : j < len := by simp at hj; omega
      have hc := hcell j (by omega)
      rw [add_lit] at hc
      rw [hc]
      simp [hj']

/-- the same, with how long it can be -/
theorem open_ints64L {H : Type} {enc : TypeId × Value → H} {W : World} {base : Nat} {spare : Nat → Bool} {held : Bool} {a : Option Addr} {len cap : Nat} {d : DataW H} {p : List MemPlace}
    (h : DataW.Trod enc Try.prog W base spare held 41 (.slice a len cap) d p) : ∃ zs, RdI W (.slice a len cap) zs ∧ (∀ z ∈ zs, -9223372036854775808 ≤ z ∧ z ≤ 9223372036854775807) ∧ zs.length ≤ 9223372036854775807 := by
  obtain ⟨zs, h1, h2⟩ := open_ints64 h
  refine ⟨zs, h1, h2, ?_⟩
  have hz : zs.length = len := by
    rcases h1 with ⟨rfl, ao, c, he⟩ | ⟨g, off, c, he, _⟩
    · simp only [Value.slice.injEq] at he; simp [he.2.1]
    · simp only [Value.slice.injEq] at he; exact he.2.1.symm
  obtain ⟨fuel, hf⟩ := h
  rcases open_ints Try.underlying41 Try.underlying3 cellsInt hf with ⟨hcs, _⟩ | ⟨x, l, c, ys, hcs, _, hl, hm, _⟩
  · simp [Value.cells] at hcs
    obtain ⟨rfl, rfl, rfl⟩ := hcs
    omega
  · simp [Value.cells] at hcs
    obtain ⟨rfl, rfl, rfl⟩ := hcs
    unfold maxLen at hm
    omega

end Go.Proofs.Ytokeoebhmjefoaa

/- An argument of type []int, opened, with what is known of its room; a list of ints cut from the left. -/
namespace Go.Proofs.Ytokeoebhmjefoaa
open Go.ChangeShapes Go.WideShapes Go.ChangeAt Go.RowKit Go.Deep

theorem open_ints64C {H : Type} {enc : TypeId × Value → H} {W : World} {base : Nat} {spare : Nat → Bool} {held : Bool} {a : Option Addr} {len cap : Nat} {d : DataW H} {p : List MemPlace}
    (h : DataW.Trod enc Try.prog W base spare held 41 (.slice a len cap) d p) : ∃ zs, (RdI W (.slice a len cap) zs ∧ (∀ z ∈ zs, -9223372036854775808 ≤ z ∧ z ≤ 9223372036854775807) ∧ zs.length ≤ 9223372036854775807) ∧ len ≤ cap ∧ cap ≤ maxLen := by
  obtain ⟨zs, hzs⟩ := open_ints64L h
  refine ⟨zs, hzs, ?_⟩
  obtain ⟨fuel, hf⟩ := h
  rcases open_ints Try.underlying41 Try.underlying3 cellsInt hf with ⟨hcs, _⟩ | ⟨x, l, c, ys, hcs, _, hl, hm, _⟩
  · simp [Value.cells] at hcs
    obtain ⟨rfl, rfl, rfl⟩ := hcs
    exact ⟨Nat.le_refl _, by unfold maxLen; omega⟩
  · simp [Value.cells] at hcs
    obtain ⟨rfl, rfl, rfl⟩ := hcs
    exact ⟨hl, hm⟩

theorem islice_l {w : World} {ao : Option Addr} {cap q : Nat} {zs : List Int} (h : RdI w (.slice ao zs.length cap) zs) (hq : q ≤ zs.length) (hcap : zs.length ≤ cap) :
    ∃ ao2 c2, (∀ W : World, (Instr.slice 41 (.slice ao zs.length cap) (some (.int .i64 (q : Int))) none none).run Try.prog W = .ok (.slice ao2 (zs.length - q) c2) W) ∧ zs.length - q ≤ c2 ∧ RdI w (.slice ao2 (zs.length - q) c2) (zs.drop q) := by
  refine ⟨if cap = q then ao else ao.map (·.add q), cap - q, fun W => ?_, by omega, ?_⟩
  · have hs : (sizeOf (Try.prog.elem 41)).run Try.prog W = .ok 1 W := by kernel_rfl
    rw [run_slice_l W 41 ao zs.length cap (by kernel_rfl) .i64 (q : Int) (by omega) (by omega), hs]
    simp [Result.andThen, sliced]
  · by_cases hz : q = zs.length
    · exact .inl ⟨by rw [hz, List.drop_length], _, _, by rw [hz, Nat.sub_self]⟩
    · rw [if_neg (by omega)]
      rcases h with ⟨hn, _⟩ | ⟨g, off, c, he, hcell⟩
      · rw [hn] at hz hq; simp at hq; exact absurd hq (by simpa using hz)
      · simp only [Value.slice.injEq] at he
        obtain ⟨rfl, -, -⟩ := he
        refine .inr ⟨g, off + q, cap - q, by rw [List.length_drop]; simp [Addr.add], fun j hj => ?_⟩
        rw [List.length_drop] at hj
        have := hcell (q + j) (by omega)
        rw [← Nat.add_assoc] at this
        rw [this, List.getD_eq_getElem?_getD, List.getD_eq_getElem?_getD, List.getElem?_drop]

end Go.Proofs.Ytokeoebhmjefoaa

/- What puncheonref16.Few tells of any model. -/
namespace Go.Proofs.Ytokeoebhmjefoaa
open Go.RowKit

/-- lengths that a machine has -/
def Md.wide (m : Md) : Prop := m.cs.length ≤ 9223372036854775807 ∧ ∀ l ∈ m.cs, l.length ≤ 9223372036854775807

set_option maxHeartbeats 2000000 in
theorem r16few_wide (v : Value) (m : Md) (w : World) (h : RdM w v m) (hf : m.wide) : Calls Try.prog 10 #[v] w fun e w' => e = .returned (.bool (decide (fewL m.cs))) ∧ Chg (fun _ => False) w w' := by
  obtain ⟨cv, rfl, h1⟩ := h
  obtain ⟨log, one, cs⟩ := m
  have hf2 := hf
  unfold Md.wide at hf2
  simp only [] at h1 hf2 ⊢
  obtain ⟨D, hD⟩ : ∃ D, decide (fewL cs) = D := ⟨_, rfl⟩
  rw [hD]
  have HD := Lib.hid hD
  obtain ⟨ao, cap, rfl⟩ := h1.form
  have hca := Chg.alloc (fun _ => False) w (.cells #[.int .i64 log, .bool one, .slice ao cs.length cap] 24)
  have hnew : Mb _ _ log one (.slice ao cs.length cap) := heap_alloc_new w (.cells #[.int .i64 log, .bool one, .slice ao cs.length cap] 24)
  have hl := h1.kept hca
  obtain ⟨n, hn⟩ : ∃ n, cs.length = n := ⟨_, rfl⟩
  unfold mdv
  simp only []
  have hnb : (n : Int) ≤ 9223372036854775807 := by have := hf2.1; omega
  rw [hn] at hca hnew hl ⊢
  obtain ⟨W, hW⟩ : ∃ W, w.alloc (.cells #[.int .i64 log, .bool one, .slice ao n cap] 24) = W := ⟨_, rfl⟩
  rw [hW] at hca hnew hl
  obtain ⟨b0, b1, b2⟩ := hnew.cells
  have HCA := Lib.hid hca; have HL := Lib.hid hl; have HN := Lib.hid hn; have HF := Lib.hid hf
  clear h1 hf hf2 hca hnew hl hn hD
  go_enter Try.func10, Try.ntmps10
  go_wp2
  go_loopw [3, 4] (fun o3 o4 wr => ∃ k : Nat, k ≤ n ∧ o4 = .int .i64 (k : Int) ∧ o3 = .int .i64 ((nzL (cs.take k) : Nat) : Int) ∧ (∀ j, j < k → (cs.getD j []).length ≤ 300) ∧ wr = W) (fun _ o4 _ => n - (intOf o4).toNat)
  case atStart => exact ⟨0, Nat.zero_le _, rfl, rfl, fun j hj => by omega, rfl⟩
  case round =>
    obtain ⟨k, hk, rfl, rfl, hok, rfl⟩ := hrel
    have HOK := Lib.hid hok
    clear hok
    by_cases hlt : k < n
    · obtain ⟨g, off, u, rfl, hu1, hu2⟩ := HL.out.at k (by rw [HN.out]; exact hlt)
      have hfa : (cs.getD k []).length ≤ 9223372036854775807 := HF.out.2 _ (by show cs.getD k [] ∈ cs; rw [List.getD_eq_getElem?_getD, List.getElem?_eq_getElem (by rw [HN.out]; exact hlt)]; exact List.getElem_mem _)
      have hst := nzL_take cs k (by rw [HN.out]; exact hlt)
      have hzb := nzL_le (cs.take k)
      rw [List.length_take, HN.out] at hzb
      obtain ⟨au, cu, rfl⟩ := hu2.form
      obtain ⟨nu, hnu⟩ : ∃ nu, (cs.getD k []).length = nu := ⟨_, rfl⟩
      rw [hnu] at hu1 hst hfa
      obtain ⟨z, hz⟩ : ∃ z, nzL (cs.take k) = z := ⟨_, rfl⟩
      rw [hz] at hst hzb ⊢
      have HNU := Lib.hid hnu; have HST := Lib.hid hst
      have hkn : (k : Int) < (n : Int) := by omega
      have hnub : (nu : Int) ≤ 9223372036854775807 := by omega
      have hzI : (z : Int) < 9223372036854775807 := by omega
      clear hfa hnu hst hzb hz hu2
      by_cases hbig : 300 < nu
      · have hD1 : D = false := by rw [← HD.out]; exact decide_eq_false fun hh => by have := hh.1 k (by rw [HN.out]; exact hlt); rw [HNU.out] at this; omega
        subst hD1
        have d1 : decide (300 < (nu : Int)) = true := decide_eq_true (by omega)
        clear hbig
        go_wp2
        go_ret
        exact ⟨rfl, HCA.out⟩
      · have d1 : decide (300 < (nu : Int)) = false := decide_eq_false (by omega)
        have hok2 : ∀ j, j < k + 1 → (cs.getD j []).length ≤ 300 := fun j hj => by
          by_cases hjk : j = k
          · subst hjk; rw [HNU.out]; omega
          · exact HOK.out j (by omega)
        have HOK2 := Lib.hid hok2
        clear hbig hok2
        by_cases hz0 : 0 < nu
        · have d2 : decide (0 < (nu : Int)) = true := decide_eq_true (by omega)
          have hst := HST.out
          rw [if_pos hz0] at hst
          have HST2 := Lib.hid hst
          clear hst
          go_wp2
          go_roundw
          case rel => exact ⟨k + 1, by omega, by go_num, by rw [HST2.out]; go_num, HOK2.out, trivial⟩
          case measure => simp [intOf]; omega
        · have hn0 : nu = 0 := by omega
          subst hn0
          have hst := HST.out
          rw [if_neg hz0, Nat.add_zero] at hst
          have HST2 := Lib.hid hst
          clear hst hz0 d1
          go_wp2
          go_roundw
          case rel => exact ⟨k + 1, by omega, by go_num, by rw [HST2.out]; rfl, HOK2.out, trivial⟩
          case measure => simp [intOf]; omega
    · obtain rfl : k = n := by omega
      rw [List.take_of_length_le (by rw [HN.out]; exact Nat.le_refl _)]
      have hzb := nzL_le cs
      rw [HN.out] at hzb
      have hDe : D = decide (k ≤ 300 ∧ nzL cs ≤ 40) := by
        rw [← HD.out]
        exact decide_eq_decide.2 ⟨fun hh => by have := hh.2; rw [HN.out] at this; exact this, fun hh => ⟨by rw [HN.out]; exact HOK.out, by rw [HN.out]; exact hh⟩⟩
      obtain ⟨z, hz⟩ : ∃ z, nzL cs = z := ⟨_, rfl⟩
      rw [hz] at hDe hzb ⊢
      have hzI : (z : Int) ≤ 9223372036854775807 := by omega
      clear hlt hk hz hzb
      by_cases h3 : k ≤ 300
      · have d1 : decide ((k : Int) ≤ 300) = true := decide_eq_true (by omega)
        by_cases h4 : z ≤ 40
        · rw [decide_eq_true ⟨h3, h4⟩] at hDe
          subst hDe
          have d2 : decide ((z : Int) ≤ 40) = true := decide_eq_true (by omega)
          clear h3 h4
          go_wp2
          go_ret
          exact ⟨rfl, HCA.out⟩
        · rw [decide_eq_false (fun hh => h4 hh.2)] at hDe
          subst hDe
          have d2 : decide ((z : Int) ≤ 40) = false := decide_eq_false (by omega)
          clear h3 h4
          go_wp2
          go_ret
          exact ⟨rfl, HCA.out⟩
      · have d1 : decide ((k : Int) ≤ 300) = false := decide_eq_false (by omega)
        rw [decide_eq_false (fun hh => h3 hh.1)] at hDe
        subst hDe
        clear h3
        go_wp2
        go_ret
        exact ⟨rfl, HCA.out⟩

end Go.Proofs.Ytokeoebhmjefoaa

/- An argument that is a model (api.Model), opened. -/
namespace Go.Proofs.Ytokeoebhmjefoaa
open Go.Joins Go.ChangeShapes Go.WideShapes Go.ChangeAt Go.RowKit Go.Deep

theorem open_ints_raw {H : Type} {enc : TypeId × Value → H} {W : World} {base : Nat} {spare : Nat → Bool} {held : Bool} {v : Value} {x : DataW H × List MemPlace} {fuel : Nat}
    (h : DataW.trod enc Try.prog W base spare held fuel 41 [v] = some x) : ∃ zs, RdIr W v zs ∧ (∀ z ∈ zs, -9223372036854775808 ≤ z ∧ z ≤ 9223372036854775807) ∧ zs.length ≤ 9223372036854775807 := by
  have key : ∀ a len cap, v = .slice a len cap → ∃ zs, RdIr W v zs ∧ (∀ z ∈ zs, -9223372036854775808 ≤ z ∧ z ≤ 9223372036854775807) ∧ zs.length ≤ 9223372036854775807 := by
    intro a len cap he
    subst he
    obtain ⟨zs, hz, hr, -⟩ := open_ints64C (d := x.1) (p := x.2) ⟨fuel, by simpa [Value.cells] using h⟩
    exact ⟨zs, ⟨hz.1, .of hr⟩, hz.2⟩
  rcases open_ints Try.underlying41 Try.underlying3 cellsInt h with ⟨hcs, _⟩ | ⟨a, l, c, ys, hcs, _⟩
  · simp at hcs
    exact key _ _ _ hcs
  · simp at hcs
    exact key _ _ _ hcs

set_option maxRecDepth 100000 in
theorem open_model {H : Type} {enc : TypeId × Value → H} {W : World} {r : Reach} {b0 base : Nat} {spare : Nat → Bool} {held : Bool} {v : Value} {d : DataW H} {p : List MemPlace}
    (hv : Value.okWide Try.prog W r b0 24 v) (h : DataW.Trod enc Try.prog W base spare held 24 v d p) :
    ∃ m : Md, RdM W v m ∧ (-9223372036854775808 ≤ m.log ∧ m.log ≤ 9223372036854775807) ∧ m.wide ∧ ∀ l ∈ m.cs, ∀ z ∈ l, -9223372036854775808 ≤ z ∧ z ≤ 9223372036854775807 := by
  obtain ⟨c0, c1, c2, y0, y1, y2, n, rfl, rfl, rfl, hy0, hy1, hy2⟩ := open_agg3 Try.underlying24 (by kernel_rfl) (by kernel_rfl) hv h
  obtain ⟨log, e0, rfl, wx⟩ := DataW.trod_int Try.underlying3 hy0
  obtain ⟨one, e1, rfl⟩ := DataW.trod_bool Try.underlying4 hy1
  simp at e0 e1
  subst e0 e1
  rcases open_slice1 Try.underlying22 (by kernel_rfl) hy2 with ⟨hcs, _⟩ | ⟨a, len, cap, m, n', V, D, Pl, hcs, _, hlc, hcm, hm, _, hx⟩
  · simp at hcs
    subst hcs
    exact ⟨⟨log, one, []⟩, ⟨_, rfl, .inl ⟨rfl, none, 0, rfl⟩⟩, bounds_i64 wx, ⟨by simp, fun l hl => by simp at hl⟩, fun l hl => by simp at hl⟩
  · simp at hcs
    subst hcs
    have hlm : len ≤ m := by rw [hm]; split <;> omega
    have hmx : maxLen = 9223372036854775807 := rfl
    obtain ⟨f, hf⟩ := choose_lt (α := List Int) (p := fun i zs => RdIr W (V i) zs ∧ (∀ z ∈ zs, -9223372036854775808 ≤ z ∧ z ≤ 9223372036854775807) ∧ zs.length ≤ 9223372036854775807) (n := len) (fun i hi => open_ints_raw (hx i (by omega)).2)
    have hget : ∀ j, j < len → ((List.range len).map f).getD j [] = f j := fun j hj => by simp [List.getD_eq_getElem?_getD, hj]
    refine ⟨⟨log, one, (List.range len).map f⟩, ⟨_, rfl, ?_⟩, bounds_i64 wx, ⟨by simp; omega, fun l hl => ?_⟩, fun l hl => ?_⟩
    · by_cases h0 : len = 0
      · subst h0
        exact .inl ⟨by simp, some a, cap, rfl⟩
      · obtain ⟨g, off, rfl⟩ := spot_none (by have := (hx 0 (by omega)).1; exact this)
        refine .inr ⟨g, off, cap, by simp, fun j hj => ?_⟩
        simp at hj
        have hc := (hx j (by omega)).1
        rw [add_lit] at hc
        exact ⟨V j, hc, by show RdIr W (V j) (((List.range len).map f).getD j []); rw [hget j hj]; exact (hf j hj).1⟩
    · simp only [List.mem_map, List.mem_range] at hl
      obtain ⟨j, hj, rfl⟩ := hl
      exact (hf j hj).2.2
    · simp only [List.mem_map, List.mem_range] at hl
      obtain ⟨j, hj, rfl⟩ := hl
      exact (hf j hj).2.1

end Go.Proofs.Ytokeoebhmjefoaa

/- x[:n] of bytes that are read. -/
namespace Go.Proofs.Ytokeoebhmjefoaa
open Go.RowKit

/-- b[:n] -/
theorem mslice_upto {w : World} {ao : Option Addr} {cap n : Nat} {xs : List Nat} (_h : RdB w (.slice ao xs.length cap) xs) (hn : n ≤ xs.length) (hcap : xs.length ≤ cap) :
    (∀ W : World, (Instr.slice 25 (.slice ao xs.length cap) none (some (.int .i64 (n : Int))) none).run Try.prog W = .ok (.slice ao n cap) W) ∧ ∀ W, RdB W (.slice ao xs.length cap) xs → RdB W (.slice ao n cap) (xs.take n) := by
  have hs : ∀ W, (sizeOf (Try.prog.elem 25)).run Try.prog W = .ok 1 W := fun W => by kernel_rfl
  refine ⟨fun W => ?_, fun W h => ?_⟩
  · rw [run_slice_h W 25 ao xs.length cap (by kernel_rfl) .i64 (n : Int) (by omega) (by omega), hs]
    have e : ∀ a : Option Addr, a.map (fun x => x.add 0) = a := by intro a; cases a <;> simp [Addr.add]
    simp [Result.andThen, sliced, e]
  · have el : (xs.take n).length = n := by rw [List.length_take]; omega
    rcases h with ⟨h0, _⟩ | ⟨g, off, cap', he, hc⟩
    · rw [h0] at hn
      have : n = 0 := by simpa using hn
      exact .inl ⟨by rw [this]; simp, ao, cap, by rw [this]⟩
    · simp only [Value.slice.injEq] at he
      refine .inr ⟨g, off, cap, by rw [el, he.1], fun j hj => ?_⟩
      rw [el] at hj
      rw [hc j (by omega)]
      simp only [List.getD_eq_getElem?_getD, List.getElem?_take, if_pos hj]

end Go.Proofs.Ytokeoebhmjefoaa
