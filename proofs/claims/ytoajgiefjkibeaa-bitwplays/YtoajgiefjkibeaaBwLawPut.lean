/- What puncheonlaw01.put does: a Writer with all parts. -/
import Derived.Test.YtoajgiefjkibeaaBwSame
namespace Go.Proofs.Ytoajgiefjkibeaa
open Go.RowKit

/-- The value is a slice of the parts ps (a number and how many bits), none of them beyond its kind. -/
structure RdP (w : World) (v : Value) (ps : List (Nat × Int)) : Prop where
  form : ∃ ao cap, v = .slice ao ps.length cap ∧ (0 < ps.length → ∃ g off, ao = some ⟨g, off, none⟩)
  cells : ∀ g off n cap, v = .slice (some ⟨g, off, none⟩) n cap → ∀ i (h : i < ps.length), w.cell? ⟨g, off + i * 2, none⟩ = some (.int .u32 (ps[i].1 : Int)) ∧ w.cell? ⟨g, off + i * 2 + 1, none⟩ = some (.int .i64 ps[i].2)
  wf : ∀ p ∈ ps, p.1 < 4294967296

theorem RdP.kept {S : Nat → Prop} {w w' : World} {v : Value} {ps : List (Nat × Int)} (h : RdP w v ps) (hc : Chg S w w') (hS : ∀ k, v.ownBlock = some k → ¬ S k) : RdP w' v ps := by
  refine ⟨h.form, fun g off n cap hv i hi => ?_, h.wf⟩
  have hh := h.cells g off n cap hv i hi
  have hlt : g < w.heap.size := block_lt_of_cell hh.1
  have hb := hc.block g hlt (hS g (by rw [hv]; rfl))
  rw [World.cell?_of_block (w := w) (a := ⟨g, off + i * 2, none⟩) hb, World.cell?_of_block (w := w) (a := ⟨g, off + i * 2 + 1, none⟩) hb]
  exact hh

theorem Wr.drew {w : World} {b : Nat} {o : Option Nat} {bs : List Bool} (h : Wr w b o bs) : Wr w.drew b o bs := h

/-- all parts put, one behind the other -/
def putAll (bs : List Bool) : List (Nat × Int) → List Bool
  | [] => bs
  | p :: r => putAll (putB bs p.1 p.2) r

theorem putAll_append (bs : List Bool) (a b : List (Nat × Int)) : putAll bs (a ++ b) = putAll (putAll bs a) b := by
  induction a generalizing bs with
  | nil => rfl
  | cons p r ih => exact ih _

theorem putAll_succ (bs : List Bool) (ps : List (Nat × Int)) (k : Nat) (h : k < ps.length) : putAll bs (ps.take (k + 1)) = putB (putAll bs (ps.take k)) ps[k].1 ps[k].2 := by
  rw [List.take_succ_eq_append_getElem h, putAll_append]; rfl

theorem putAll_length (bs : List Bool) (ps : List (Nat × Int)) : bs.length ≤ (putAll bs ps).length ∧ (putAll bs ps).length ≤ bs.length + 24 * ps.length := by
  induction ps generalizing bs with
  | nil => simp [putAll]
  | cons p r ih =>
    have h1 := putB_length bs p.1 p.2
    have h2 := ih (putB bs p.1 p.2)
    simp only [putAll, List.length_cons]; omega

/-- A Writer of the call's own: all of it lies from B on. -/
def Own (B : Nat) (w : World) (b : Nat) (bs : List Bool) : Prop := ∃ o, Wr w b o bs ∧ B ≤ b ∧ ∀ k, o = some k → B ≤ k

set_option maxHeartbeats 1000000 in
theorem lput_any (v : Value) (ps : List (Nat × Int)) (w : World) (h : RdP w v ps) (hlen : ps.length ≤ 100) :
    Calls Try.prog 18 #[v] w fun e w' => e = .returned (.pointer (some ⟨w.heap.size, 0, none⟩)) ∧ Own w.heap.size w' w.heap.size (putAll [] ps) ∧ Chg (fun _ => False) w w' := by
  obtain ⟨ao, cap, hv, hao⟩ := h.form
  subst hv
  have HA := Lib.hid hao
  clear hao
  go_enter Try.func18, Try.ntmps18
  go_wp2_with fail
  refine (new_wr _).mono ?_
  rintro e w1 ⟨rfl, hw1, hc1⟩
  go_wp2
  go_loopw [4] (fun i wr => ∃ k : Nat, k ≤ ps.length ∧ i = .int .i64 (k : Int) ∧ Own w.heap.size wr w.heap.size (putAll [] (ps.take k)) ∧ Chg (fun _ => False) w wr) (fun i _ => ps.length - (intOf i).toNat)
  case atStart => exact ⟨0, Nat.zero_le _, rfl, ⟨none, hw1, Nat.le_refl _, by simp⟩, hc1⟩
  case round =>
    obtain ⟨k, hk, rfl, ⟨o, hwr, hb0, ho0⟩, hcr⟩ := hrel
    clear hw1 hc1
    by_cases hlt : k < ps.length
    · obtain ⟨g, off, hao⟩ := HA.out (by omega)
      subst hao
      have hkept := h.kept hcr (fun _ _ => by simp)
      obtain ⟨q0, q1⟩ := hkept.cells g off _ _ rfl k hlt
      have HO := Lib.hid ho0
      have hpl := putAll_length [] (ps.take k)
      have htl : (ps.take k).length ≤ k := List.length_take_le _ _
      have hwf := h.wf ps[k] (List.getElem_mem hlt)
      clear ho0
      go_wp2
      go_still_tail 11, (by kernel_rfl)
      change wpList _ _ _ _ _ wr.drew
      go_wp2_with fail
      refine (put_any w.heap.size o (putAll [] (ps.take k)) ps[k].1 ps[k].2 _ hwr.drew (by simp at hpl; omega) hwf).mono ?_
      rintro e w2 ⟨rfl, o2, hw2, hc2, ho2⟩
      rw [← putAll_succ [] ps k hlt] at hw2
      have hown : Own w.heap.size w2 w.heap.size (putAll [] (ps.take (k + 1))) := by
        refine ⟨o2, hw2, Nat.le_refl _, fun j hj => ?_⟩
        rcases ho2 with rfl | ⟨j2, rfl, hj2⟩
        · exact HO.out j hj
        · have := hcr.size
          have hs : wr.drew.heap.size = wr.heap.size := rfl
          simp only [Option.some.injEq] at hj; omega
      have hc3 : Chg (fun _ => False) w w2 := (hcr.drew).trans hc2 (fun j hj hx => by
        rcases hx with hx | hx
        · omega
        · have := HO.out j hx.symm; omega)
      clear hw2 hc2 ho2 hwr hcr q0 q1 hkept
      go_wp2
      go_roundw
      case rel => exact ⟨k + 1, by omega, by go_num, hown, hc3⟩
      case measure => simp [intOf]; omega
    · obtain rfl : k = ps.length := by omega
      go_wp2
      go_ret
      rw [List.take_length] at hwr
      exact ⟨rfl, ⟨o, hwr, hb0, ho0⟩, hcr⟩

end Go.Proofs.Ytoajgiefjkibeaa
