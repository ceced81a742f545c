/- The walk of BitwMark: it answers true, and nothing that was there has turned. -/
import Derived.Test.YtoajgiefjkibeaaBwAwake
namespace Go.Proofs.Ytoajgiefjkibeaa
open Go.RowKit

/-- what each law's walk ends in -/
def Says (w : World) (e : Ending) (w' : World) : Prop := e = .returned (.bool true) ∧ Chg (fun _ => False) w w'

set_option maxHeartbeats 1000000 in
theorem mark_any (v : Value) (ps : List (Nat × Int)) (w : World) (h : RdP w v ps) : Calls Try.prog 4 #[v] w fun e w' => Says w e w' := by
  obtain ⟨ao, cap, hv, hao⟩ := h.form
  subst hv
  clear hao
  by_cases hbig : 60 < ps.length
  · go_enter Try.func4, Try.ntmps4
    go_wp2_with fail
    refine (awake_any w).mono ?_
    rintro e w1 ⟨rfl, hc1⟩
    go_wp2
    go_ret
    exact ⟨rfl, hc1⟩
  · have hpl := putAll_length [] ps
    have hl : (putAll [] ps).length < 1000000 := by simp at hpl; omega
    clear hpl
    go_enter Try.func4, Try.ntmps4
    go_wp2_with fail
    refine (awake_any w).mono ?_
    rintro e w1 ⟨rfl, hc1⟩
    have h1 := h.kept hc1 (fun _ _ => by simp)
    go_wp2_with fail
    refine (lput_any _ ps w1 h1 (by omega)).mono ?_
    rintro e w2 ⟨rfl, ⟨o, hw2, hB2, ho2⟩, hc2⟩
    have hc2' : Chg (fun _ => False) w w2 := hc1.trans hc2 (fun _ _ h => h)
    clear h1 hc1 hc2 h
    generalize hbs : putAll [] ps = bs at *
    clear hbs
    go_wp2_with fail
    refine (close_any w1.heap.size o bs w2 hw2 (by omega)).mono ?_
    rintro e w3 ⟨g, cap3, rfl, hown3, hc3⟩
    have hw3 := hw2.kept hc3 (by simp) (by simp)
    have hc3' : Chg (fun _ => False) w w3 := hc2'.trans hc3 (fun _ _ h => h)
    clear hc3 hc2' hw2
    have el : (pack (bs ++ [true])).length = bs.length / 8 + 1 := by rw [pack_length]; simp; omega
    rw [el] at hown3 ⊢
    go_wp2_with fail
    refine (bits_any w1.heap.size o bs w3 hw3).mono ?_
    rintro e w4 ⟨rfl, rfl⟩
    have hcell := hown3.cellAt (bs.length / 8) (by omega)
    rw [bv_get _ _ (by rw [el]; omega), List.getD_eq_getElem?_getD, pack_getElem? _ _ (by simp; omega)] at hcell
    have hm := mark_byte bs
    have hby := byteAt_lt (bs ++ [true]) (bs.length / 8)
    simp only [Option.getD_some] at hcell
    generalize byteAt (bs ++ [true]) (bs.length / 8) = y at *
    have HM := Lib.hid hm; have HE := Lib.hid el
    clear hm el hw3 hown3
    go_wp2
    go_ret
    refine ⟨congrArg (fun b => Ending.returned (Value.bool b)) ?_, hc3'⟩
    have e : ((y : Int) / 2 ^ (bs.length % 8)) = ((y / 2 ^ (bs.length % 8) : Nat) : Int) := by simp
    rw [e, HM.out]; rfl

end Go.Proofs.Ytoajgiefjkibeaa
