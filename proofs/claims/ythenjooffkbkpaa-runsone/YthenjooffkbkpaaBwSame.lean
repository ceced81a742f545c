/- Bytes that are read off memory; what puncheonref01.Same tells. -/
import Derived.Test.YthenjooffkbkpaaBwTell
import Derived.Laws.BytesArg
namespace Go.Proofs.Ythenjooffkbkpaa
open Go.RowKit

/-- The value v is a slice of the bytes xs. -/
def RdB (w : World) (v : Value) (xs : List Nat) : Prop :=
  (xs = [] ∧ ∃ ao c, v = .slice ao 0 c) ∨ ∃ g off cap, v = .slice (some ⟨g, off, none⟩) xs.length cap ∧ ∀ j, j < xs.length → w.cell? ⟨g, off + j, none⟩ = some (.int .u8 ((xs.getD j 0 : Nat) : Int))

def strB (xs : List Nat) : ByteArray := strOfNums (xs.map fun n : Nat => (n : Int))

theorem strB_toList (xs : List Nat) : (strB xs).data.toList = xs.map UInt8.ofNat := by
  rw [strB, strOfNums_data, List.map_map]; rfl

theorem map_ofNat_inj : ∀ (xs ys : List Nat), (∀ x ∈ xs, x < 256) → (∀ y ∈ ys, y < 256) → xs.map UInt8.ofNat = ys.map UInt8.ofNat → xs = ys
  | [], [], _, _, _ => rfl
  | [], _ :: _, _, _, h => by simp at h
  | _ :: _, [], _, _, h => by simp at h
  | x :: xs, y :: ys, hx, hy, h => by
    simp only [List.map_cons, List.cons.injEq] at h
    have h1 : x = y := by
      have := congrArg UInt8.toNat h.1
      have hx0 := hx x (by simp); have hy0 := hy y (by simp)
      simp at this; omega
    rw [h1, map_ofNat_inj xs ys (fun z hz => hx z (by simp [hz])) (fun z hz => hy z (by simp [hz])) h.2]

theorem str_beq (xs ys : List Nat) (hx : ∀ x ∈ xs, x < 256) (hy : ∀ y ∈ ys, y < 256) : ((strB xs).toList == (strB ys).toList) = decide (xs = ys) := by
  rw [ByteArray.toList_eq, ByteArray.toList_eq, strB_toList, strB_toList, Bool.eq_iff_iff, beq_iff_eq, decide_eq_true_iff]
  exact ⟨map_ofNat_inj xs ys hx hy, fun h => by rw [h]⟩

theorem run_conv {w : World} {v : Value} {xs : List Nat} (h : RdB w v xs) : (convert 32 9 v).run Try.prog w = .ok (.string (strB xs)) w := by
  rcases h with ⟨rfl, ao, c, rfl⟩ | ⟨g, off, cap, rfl, hc⟩
  · rw [run_convert_bytes_string w 32 9 5 ao 0 c Try.underlying32 Try.underlying5 Try.underlying9]
    cases ao with
    | none => simp [Conv.bytesToString]; rfl
    | some a =>
      have hl : (loadCells a 0).run Try.prog w = .ok #[] w := run_loadCells_list (P := Try.prog) w a [] (fun j v hj => by simp at hj)
      simp [Conv.bytesToString, hl]
      rfl
  · refine run_convert_bytes_arg (P := Try.prog) w 32 5 Try.underlying32 Try.underlying5 g off xs.length cap _ (by simp) (fun i hi => ?_) 9 Try.underlying9
    rw [hc i hi]; simp [List.getD_eq_getElem?_getD, List.getElem?_eq_getElem hi]

theorem RdB.of_own {w : World} {base : Nat} {v : Value} {n : Nat} {xs : List Nat} (h : w.ownsRow base 5 1 v n (bv xs)) : RdB w v xs := by
  have hl := h.1
  rw [bv_length] at hl
  rcases h.2 with ⟨rfl, rfl⟩ | ⟨g, cap, cur, rfl, _⟩
  · exact .inl ⟨List.eq_nil_of_length_eq_zero (by omega), none, 0, rfl⟩
  · refine .inr ⟨g, 0, cap, by simp [hl], fun j hj => ?_⟩
    rw [Nat.zero_add, h.cellAt j (by omega), bv_get xs j hj]

theorem RdB.kept {S : Nat → Prop} {w w' : World} {v : Value} {xs : List Nat} (h : RdB w v xs) (hc : Chg S w w') (hS : ∀ k, v.ownBlock = some k → ¬ S k) : RdB w' v xs := by
  rcases h with h | ⟨g, off, cap, rfl, hcell⟩
  · exact .inl h
  · refine .inr ⟨g, off, cap, rfl, fun j hj => ?_⟩
    have := hcell j hj
    have hlt : g < w.heap.size := block_lt_of_cell this
    rw [World.cell?_of_block (w := w) (hc.block g hlt (hS g rfl))]; exact this

set_option maxHeartbeats 400000 in
theorem same_any (v1 v2 : Value) (xs ys : List Nat) (w : World) (h1 : RdB w v1 xs) (h2 : RdB w v2 ys) (hx : ∀ x ∈ xs, x < 256) (hy : ∀ y ∈ ys, y < 256) :
    Calls Try.prog 14 #[v1, v2] w fun e w' => e = .returned (.bool (decide (xs = ys))) ∧ w = w' := by
  have r1 := run_conv h1
  have r2 := run_conv h2
  have HX := Lib.hid hx; have HY := Lib.hid hy
  clear h1 h2 hx hy
  go_enter Try.func14, Try.ntmps14
  go_wp2
  go_ret
  exact ⟨congrArg (fun b => Ending.returned (Value.bool b)) (str_beq xs ys HX.out HY.out), rfl⟩

end Go.Proofs.Ythenjooffkbkpaa
