/- The walk of BitrBack. -/
import Derived.Test.YthenjooffkbkpaaBrSplits
import Derived.Test.YthenjooffkbkpaaBwMany
namespace Go.Proofs.Ythenjooffkbkpaa
open Go.RowKit

def pv : List (Nat × Int) → List Value
  | [] => []
  | p :: r => .int .u32 (p.1 : Int) :: .int .i64 p.2 :: pv r

theorem pv_length (ps : List (Nat × Int)) : (pv ps).length = ps.length * 2 := by
  induction ps with
  | nil => rfl
  | cons p r ih => simp [pv, ih]; omega

theorem pv_append (a b : List (Nat × Int)) : pv (a ++ b) = pv a ++ pv b := by
  induction a with
  | nil => rfl
  | cons p r ih => simp [pv, ih]

theorem pv_get (ps : List (Nat × Int)) (i : Nat) (h : i < ps.length) : (pv ps)[i * 2]? = some (.int .u32 (ps[i].1 : Int)) ∧ (pv ps)[i * 2 + 1]? = some (.int .i64 ps[i].2) := by
  induction ps generalizing i with
  | nil => simp at h
  | cons p r ih =>
    cases i with
    | zero => exact ⟨rfl, rfl⟩
    | succ i =>
      have := ih i (by simpa using h)
      rw [show (i + 1) * 2 = i * 2 + 2 from by omega]
      exact this

def okP (p : Nat × Int) : Bool := decide (0 ≤ p.2 ∧ p.2 ≤ 24)

theorem putAll_filter (bs : List Bool) (ps : List (Nat × Int)) : putAll bs (ps.filter okP) = putAll bs ps := by
  induction ps generalizing bs with
  | nil => rfl
  | cons p r ih =>
    by_cases hp : okP p = true
    · rw [List.filter_cons_of_pos hp]; exact ih _
    · rw [List.filter_cons_of_neg hp]
      have e : putB bs p.1 p.2 = bs := by
        unfold putB; rw [if_neg (by simpa [okP] using hp)]
      rw [ih]; show putAll bs r = putAll (putB bs p.1 p.2) r; rw [e]

theorem filter_succ (ps : List (Nat × Int)) (k : Nat) (h : k < ps.length) : (ps.take (k + 1)).filter okP = (ps.take k).filter okP ++ (if okP ps[k] then [ps[k]] else []) := by
  rw [List.take_succ_eq_append_getElem h, List.filter_append]
  congr 1
  by_cases hp : okP ps[k] <;> simp [hp]

theorem row_ne {w : World} {base size n b : Nat} {e t : TypeId} {v : Value} {xs : List Value} {cs : Array Value} {z : Nat × Nat} (h : w.ownsRow base e size v n xs) (hb : w.heap[b]? = some (.cells cs t z)) (hne : e ≠ t) : ∀ k, v.ownBlock = some k → k ≠ b := by
  intro k hk
  rcases h.2 with ⟨rfl, _⟩ | ⟨q, cap, cur, rfl, _, hq, _⟩
  · simp [Value.ownBlock] at hk
  · simp only [Value.ownBlock, Option.some.injEq] at hk
    subst hk
    rintro rfl
    rw [hb] at hq
    simp only [Option.some.injEq, Obj.cells.injEq] at hq
    exact hne hq.2.1.symm

theorem mask_eq (u n : Nat) (hu : u < 4294967296) (hn : n ≤ 24) : ((u : Int) % 2 ^ n != bits BinOp.and IntKind.u32 (u : Int) ((2 ^ n - 1) % 4294967296)) = false := by
  have hp : 2 ^ n ≤ 2 ^ 24 := Nat.pow_le_pow_right (by omega) hn
  have hp1 : 0 < 2 ^ n := Nat.pow_pos (by omega)
  have e : ((2 : Int) ^ n - 1) % 4294967296 = 2 ^ n - 1 := by
    have e1 : ((2 : Int) ^ n) = ((2 ^ n : Nat) : Int) := by simp
    rw [e1]
    generalize 2 ^ n = z at *
    omega
  have h := bits_mask .u32 32 (by decide) wraps_u32 n (by omega) (u : Int) (by omega) (by omega)
  rw [e, h]
  simp

theorem okP_false {p : Nat × Int} (h : okP p = false) : decide (0 ≤ p.2 ∧ p.2 ≤ 24) = false := h
theorem okP_true {p : Nat × Int} (h : okP p = true) : decide (0 ≤ p.2 ∧ p.2 ≤ 24) = true := h

end Go.Proofs.Ythenjooffkbkpaa
