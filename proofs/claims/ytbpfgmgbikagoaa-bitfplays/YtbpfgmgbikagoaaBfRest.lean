/- What bitf's Rest tells: memory of its own. -/
import Derived.Test.YtbpfgmgbikagoaaBfTake
namespace Go.Proofs.Ytbpfgmgbikagoaa
open Go.RowKit

/-- bytes behind the first q -/
theorem RdB.dropOwn {w : World} {g cap q : Nat} {xs : List Nat} (h : w.ownsRow 0 5 1 (.slice (some ⟨g, 0, none⟩) xs.length cap) xs.length (bv xs)) (hq : q ≤ xs.length) (c' : Nat) : RdB w (.slice (some ⟨g, q, none⟩) (xs.length - q) c') (xs.drop q) := by
  refine .inr ⟨g, q, c', by simp, fun j hj => ?_⟩
  have hj' : q + j < xs.length := by rw [List.length_drop] at hj; omega
  rw [h.cellAt (q + j) (by omega), bv_get xs (q + j) hj']
  simp [List.getD_eq_getElem?_getD]

theorem drop_bytes {xs : List Nat} (h : ∀ x ∈ xs, x < 256) (q : Nat) : ∀ x ∈ xs.drop q, x < 256 := fun x hx => h x (List.mem_of_mem_drop hx)

set_option maxHeartbeats 1000000 in
theorem frest_any (b : Nat) (o : Option Nat) (xs : List Nat) (p : Nat) (w : World) (h : Rf w b o xs p) :
    Calls Try.prog 17 #[.pointer (some ⟨b, 0, none⟩)] w fun e w' => ∃ v', e = .returned v' ∧ w'.ownsRow w.heap.size 5 1 v' (xs.drop ((p + 7) / 8)).length (bv (xs.drop ((p + 7) / 8))) ∧ Chg (fun _ => False) w w' := by
  obtain ⟨hx, hxl, hp, v, hb, ho, hown⟩ := h
  obtain ⟨d0, d1, e0, e1⟩ := cells2 hb
  have HBG := Lib.hid (begun_any b p v w.drew (by omega) hb)
  have hcapo : ∃ ao cap, v = .slice ao xs.length cap ∧ xs.length ≤ cap ∧ cap ≤ maxLen ∧ (0 < xs.length → ∃ g, ao = some ⟨g, 0, none⟩) := by
    rcases hown.2 with ⟨rfl, h0⟩ | ⟨g, cap, cur, rfl, _, _, h1, h2, _⟩
    · exact ⟨none, 0, by rw [h0], by omega, by unfold maxLen; omega, fun h => by omega⟩
    · exact ⟨_, cap, rfl, h1, h2, fun _ => ⟨g, rfl⟩⟩
  obtain ⟨ao, cap, rfl, hcap, hmax, hao⟩ := hcapo
  obtain ⟨q, hq⟩ : ∃ q, (p + 7) / 8 = q := ⟨_, rfl⟩
  have hql : q ≤ xs.length := by omega
  rw [hq] at HBG ⊢
  have c0 : (0 : Int) ≤ (q : Int) := by omega
  have c1 : (q : Int) ≤ (xs.length : Int) := by omega
  have c2 : (xs.length : Int) ≤ (cap : Int) := by omega
  have c3 : (xs.length : Int) ≤ 9223372036854775807 := by unfold maxLen at hmax; omega
  have HB := Lib.hid hb; have HOWN := Lib.hid hown; have HX := Lib.hid hx
  clear hb hown hx ho hq
  by_cases hqe : q = xs.length
  · subst hqe
    go_enter Try.func17, Try.ntmps17
    go_wp2
    refine wp_region_still_tail 9 (by kernel_rfl) (by kernel_rfl) ?_
    simp only [List.take_succ_cons, List.take_zero, List.drop_succ_cons, List.drop_zero]
    repeat still_step
    still_call HBG.out
    repeat still_step
    refine wpStill_nil ?_
    change wpList _ _ _ _ _ w.drew
    go_wp2_with fail
    refine (clone_any _ [] w.drew (.inl ⟨rfl, _, _, rfl⟩) (by decide)).mono ?_
    rintro e w1 ⟨v1, rfl, ho1, hc1⟩
    have HO1 := Lib.hid ho1; have HC1 := Lib.hid hc1
    clear ho1 hc1
    go_wp2
    go_ret
    exact ⟨_, rfl, by simpa using HO1.out, (Chg.refl _ w).drew.trans HC1.out (fun _ _ h => h)⟩
  · have hql2 : q < xs.length := by omega
    obtain ⟨g, rfl⟩ := hao (by omega)
    have HRD := Lib.hid (RdB.dropOwn (w := w) (q := q) HOWN.out hql (xs.length - q))
    go_enter Try.func17, Try.ntmps17
    go_wp2
    refine wp_region_still_tail 9 (by kernel_rfl) (by kernel_rfl) ?_
    simp only [List.take_succ_cons, List.take_zero, List.drop_succ_cons, List.drop_zero]
    repeat still_step
    still_call HBG.out
    repeat still_step
    refine wpStill_nil ?_
    change wpList _ _ _ _ _ w.drew
    go_wp2_with fail
    refine (clone_any _ (xs.drop q) w.drew HRD.out (by rw [List.length_drop]; omega)).mono ?_
    rintro e w1 ⟨v1, rfl, ho1, hc1⟩
    have HO1 := Lib.hid ho1; have HC1 := Lib.hid hc1
    clear ho1 hc1
    go_wp2
    go_ret
    exact ⟨_, rfl, HO1.out, (Chg.refl _ w).drew.trans HC1.out (fun _ _ h => h)⟩

end Go.Proofs.Ytbpfgmgbikagoaa
