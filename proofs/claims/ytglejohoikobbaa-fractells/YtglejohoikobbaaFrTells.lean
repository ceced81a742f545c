/- FracTells' walk. -/
import Derived.Test.YtglejohoikobbaaFrAwake
import Derived.Deep.RegionHeld3
namespace Go.Proofs.Ytglejohoikobbaa
open Go.RowKit

theorem two_cells {W : World} {ga gb : Nat} {t : TypeId} {I Q S J R T : Int} (h : Kb W ga t ⟨I, Q, S⟩ ∧ Kb W gb t ⟨J, R, T⟩) :
    W.cell? ⟨ga, 0, none⟩ = some (.int .i64 I) ∧ W.cell? ⟨ga, 1, none⟩ = some (.int .i64 Q) ∧ W.cell? ⟨ga, 2, none⟩ = some (.int .i64 S) ∧ W.cell? ⟨gb, 0, none⟩ = some (.int .i64 J) ∧ W.cell? ⟨gb, 1, none⟩ = some (.int .i64 R) ∧ W.cell? ⟨gb, 2, none⟩ = some (.int .i64 T) :=
  ⟨h.1.cells.1, h.1.cells.2.1, h.1.cells.2.2, h.2.cells.1, h.2.cells.2.1, h.2.cells.2.2⟩
theorem two_kept {W W' : World} {ga gb : Nat} {t : TypeId} {a b : Ky} (h : Kb W ga t a ∧ Kb W gb t b) (hc : Chg (fun _ => False) W W') : Kb W' ga t a ∧ Kb W' gb t b := ⟨h.1.kept hc (by simp), h.2.kept hc (by simp)⟩

set_option maxHeartbeats 4000000 in
theorem fracTells_walk (a b : Ky) (w : World) (ha : a.fits) (hb : b.fits) :
    Calls Try.prog 3 #[kv a, kv b] w fun e w' => e = .returned (.bool true) ∧ Chg (fun _ => False) w w' := by
  obtain ⟨I, Q, S⟩ := a
  obtain ⟨J, R, T⟩ := b
  have PR := Lib.hid fun w => kright_any ⟨I, Q, S⟩ w ha
  have RR := Lib.hid fun w => r9right_any ⟨I, Q, S⟩ w ha
  have PC := Lib.hid fun w => kcmp_any ⟨I, Q, S⟩ ⟨J, R, T⟩ w ha hb
  have RC := Lib.hid fun w => r9cmp_any ⟨I, Q, S⟩ ⟨J, R, T⟩ w ha hb
  have KA := Lib.hid fun w => key_k w ha
  have KB := Lib.hid fun w => key_k w hb
  clear ha hb
  generalize decide (Ky.right ⟨I, Q, S⟩) = x at *
  generalize cmpK ⟨I, Q, S⟩ ⟨J, R, T⟩ = y at *
  unfold kv at *
  simp only [] at *
  have hk : Kb ((w.alloc (.cells #[.int .i64 I, .int .i64 Q, .int .i64 S] 23)).alloc (.cells #[.int .i64 J, .int .i64 R, .int .i64 T] 23)) w.heap.size 23 ⟨I, Q, S⟩ ∧ Kb ((w.alloc (.cells #[.int .i64 I, .int .i64 Q, .int .i64 S] 23)).alloc (.cells #[.int .i64 J, .int .i64 R, .int .i64 T] 23)) (w.heap.size + 1) 23 ⟨J, R, T⟩ := ⟨heap_alloc2_old w _ _, heap_alloc2_new w _ _⟩
  have hc0 : Chg (fun _ => False) w ((w.alloc (.cells #[.int .i64 I, .int .i64 Q, .int .i64 S] 23)).alloc (.cells #[.int .i64 J, .int .i64 R, .int .i64 T] 23)) := (Chg.alloc (fun _ => False) w _).trans (Chg.alloc (fun _ => False) _ _) fun _ _ h => h
  have KS := Lib.hid hk; have HC := Lib.hid hc0
  clear hk hc0
  go_enter Try.func3, Try.ntmps3
  go_wp2_with fail
  refine (awake9_any _).mono ?_
  rintro e w1 ⟨rfl, hc⟩
  replace KS := Lib.hid (two_kept (W' := w1.drew) KS.out hc.drew)
  replace HC := Lib.hid (HC.out.trans (c := w1.drew) hc.drew fun _ _ h => h)
  have k1 := two_cells KS.out
  clear hc
  generalize w.heap.size + 1 = gb at *
  generalize w.heap.size = ga at *
  go_wp2_with fail
  go_region_held3 (fun W => W.cell? ⟨ga, 0, none⟩ = some (.int .i64 I) ∧ W.cell? ⟨ga, 1, none⟩ = some (.int .i64 Q) ∧ W.cell? ⟨ga, 2, none⟩ = some (.int .i64 S) ∧ W.cell? ⟨gb, 0, none⟩ = some (.int .i64 J) ∧ W.cell? ⟨gb, 1, none⟩ = some (.int .i64 R) ∧ W.cell? ⟨gb, 2, none⟩ = some (.int .i64 T)) (first | assumption | (dsimp only; assumption)) (first
    | (go_at_call 10; (first | refine (KA.out _).mono ?_ | refine (KB.out _).mono ?_); rintro e w2 ⟨rfl, hc⟩; replace KS := Lib.hid (two_kept KS.out hc); replace HC := Lib.hid (HC.out.trans hc fun _ _ h => h); replace k1 := two_cells KS.out; clear hc)
    | (go_at_call 9; refine (PR.out _).mono ?_; rintro e w2 ⟨rfl, hc⟩; replace KS := Lib.hid (two_kept KS.out hc); replace HC := Lib.hid (HC.out.trans hc fun _ _ h => h); replace k1 := two_cells KS.out; clear hc)
    | (go_at_call 11; refine (RR.out _).mono ?_; rintro e w2 ⟨rfl, hc⟩; replace KS := Lib.hid (two_kept KS.out hc); replace HC := Lib.hid (HC.out.trans hc fun _ _ h => h); replace k1 := two_cells KS.out; clear hc)
    | (go_at_call 12; refine (PC.out _).mono ?_; rintro e w2 ⟨rfl, hc⟩; replace KS := Lib.hid (two_kept KS.out hc); replace HC := Lib.hid (HC.out.trans hc fun _ _ h => h); replace k1 := two_cells KS.out; clear hc)
    | (go_at_call 13; refine (RC.out _).mono ?_; rintro e w2 ⟨rfl, hc⟩; replace KS := Lib.hid (two_kept KS.out hc); replace HC := Lib.hid (HC.out.trans hc fun _ _ h => h); replace k1 := two_cells KS.out; clear hc))
  all_goals
    go_wp2
    go_ret
    exact ⟨rfl, HC.out⟩

end Go.Proofs.Ytglejohoikobbaa
