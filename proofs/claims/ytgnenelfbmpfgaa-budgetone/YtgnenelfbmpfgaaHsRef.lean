/- What the document's own hist (puncheonref05) tells. -/
import Derived.Test.YtgnenelfbmpfgaaBase2
namespace Go.Proofs.Ytgnenelfbmpfgaa
open Go.RowKit

/-- counts of values below v whole, of v itself by the first k bytes -/
def cntTo (xs : List Nat) (v k : Nat) : List Int := (List.range 256).map fun u => if u < v then ((xs.count u : Nat) : Int) else if u = v then (((xs.take k).count u : Nat) : Int) else 0
theorem cntTo_length (xs : List Nat) (v k : Nat) : (cntTo xs v k).length = 256 := by simp [cntTo]
theorem cntTo_getD (xs : List Nat) (v k u : Nat) (h : u < 256) : (cntTo xs v k).getD u 0 = if u < v then ((xs.count u : Nat) : Int) else if u = v then (((xs.take k).count u : Nat) : Int) else 0 := by
  simp [cntTo, List.getD_eq_getElem?_getD, h]
theorem cntTo_zero (xs : List Nat) : cntTo xs 0 0 = List.replicate 256 0 := by
  apply ext_getD (by rw [cntTo_length, List.length_replicate])
  intro k hk
  rw [cntTo_length] at hk
  rw [cntTo_getD _ _ _ _ hk, List.getD_eq_getElem?_getD, List.getElem?_replicate, if_pos hk]
  simp
theorem cntTo_eq (xs : List Nat) (v k : Nat) (hv : v < 256) (hk : k < xs.length) (h : xs.getD k 0 = v) : (cntTo xs v k).set v ((cntTo xs v k).getD v 0 + 1) = cntTo xs v (k + 1) := by
  apply ext_getD (by rw [List.length_set, cntTo_length, cntTo_length])
  intro u hu
  rw [List.length_set, cntTo_length] at hu
  rw [cntTo_getD _ _ _ _ hu]
  have ht : xs.take (k + 1) = xs.take k ++ [v] := by
    rw [List.take_succ_eq_append_getElem hk, ← h, List.getD_eq_getElem?_getD, List.getElem?_eq_getElem hk]; rfl
  by_cases huv : v = u
  · subst huv
    rw [List.getD_eq_getElem?_getD, List.getElem?_set_self (by rw [cntTo_length]; exact hv), cntTo_getD _ _ _ _ hv, ht, List.count_append]
    simp
  · rw [List.getD_eq_getElem?_getD, List.getElem?_set_ne huv, ← List.getD_eq_getElem?_getD, cntTo_getD _ _ _ _ hu]
    rw [if_neg (show ¬ u = v by omega), if_neg (show ¬ u = v by omega)]
theorem cntTo_ne (xs : List Nat) (v k : Nat) (hk : k < xs.length) (h : ¬ xs.getD k 0 = v) : cntTo xs v (k + 1) = cntTo xs v k := by
  apply ext_getD (by rw [cntTo_length, cntTo_length])
  intro u hu
  rw [cntTo_length] at hu
  rw [cntTo_getD _ _ _ _ hu, cntTo_getD _ _ _ _ hu]
  by_cases huv : u = v
  · subst huv
    rw [List.take_succ_eq_append_getElem hk, List.count_append]
    rw [List.getD_eq_getElem?_getD, List.getElem?_eq_getElem hk] at h
    have : List.count u [xs[k]] = 0 := by rw [List.count_eq_zero]; simp; exact fun he => h he.symm
    rw [this]; rfl
  · rw [if_neg huv, if_neg huv]
theorem cntTo_next (xs : List Nat) (v : Nat) : cntTo xs v xs.length = cntTo xs (v + 1) 0 := by
  apply ext_getD (by rw [cntTo_length, cntTo_length])
  intro u hu
  rw [cntTo_length] at hu
  rw [cntTo_getD _ _ _ _ hu, cntTo_getD _ _ _ _ hu, List.take_length]
  by_cases h1 : u < v
  · rw [if_pos h1, if_pos (by omega)]
  · rw [if_neg h1]
    by_cases h2 : u = v
    · rw [if_pos h2, if_pos (by omega)]
    · rw [if_neg h2, if_neg (by omega)]; simp
theorem cntTo_all (xs : List Nat) : cntTo xs 256 0 = cnt xs := by
  apply ext_getD (by rw [cntTo_length, cnt_length])
  intro u hu
  rw [cntTo_length] at hu
  rw [cntTo_getD _ _ _ _ hu, cnt_getD _ _ hu, if_pos hu]
theorem cntTo_bound (xs : List Nat) (v k u : Nat) (hu : u < 256) : 0 ≤ (cntTo xs v k).getD u 0 ∧ (cntTo xs v k).getD u 0 ≤ xs.length := by
  rw [cntTo_getD _ _ _ _ hu]
  have h1 := List.count_le_length (l := xs) (a := u)
  have h2 := List.count_le_length (l := xs.take k) (a := u)
  rw [List.length_take] at h2
  split
  · omega
  · split <;> omega

end Go.Proofs.Ytgnenelfbmpfgaa
