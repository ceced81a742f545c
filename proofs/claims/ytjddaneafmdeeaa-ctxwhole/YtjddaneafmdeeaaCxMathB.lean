/- Plain: all contexts' counts, added, are the bytes' counts. -/
import Derived.Test.YtjddaneafmdeeaaCxMath
namespace Go.Proofs.Ytjddaneafmdeeaa
open Go

/-- bytes whose context is in L -/
def selLP (P : List (Nat × Nat)) (L : List Int) : List Nat := (P.filter fun p => decide ((p.1 : Int) ∈ L)).map (·.2)
def selL (xs : List Nat) (L : List Int) : List Nat := selLP (prs 0 xs) L

theorem selLP_cons (p : Nat × Nat) (P : List (Nat × Nat)) (L : List Int) : selLP (p :: P) L = (if (p.1 : Int) ∈ L then [p.2] else []) ++ selLP P L := by
  unfold selLP
  rw [List.filter_cons]
  by_cases h : (p.1 : Int) ∈ L
  · rw [if_pos h, if_pos (decide_eq_true h)]; rfl
  · rw [if_neg h, if_neg (by simp [h])]; rfl

theorem selLP_count (P : List (Nat × Nat)) (L : List Int) (c : Int) (hc : c ∉ L) (v : Nat) : (selLP P (L ++ [c])).count v = (selLP P L).count v + (selP P c).count v := by
  induction P with
  | nil => rfl
  | cons p P ih =>
    rw [selLP_cons, selLP_cons, selP_cons, List.count_append, List.count_append, List.count_append, ih]
    by_cases h1 : (p.1 : Int) ∈ L
    · have h2 : ¬ (p.1 : Int) = c := fun h => hc (h ▸ h1)
      rw [if_pos h1, if_pos (by simp [h1]), if_neg h2]; simp; omega
    · by_cases h2 : (p.1 : Int) = c
      · rw [if_neg h1, if_pos (by simp [h2]), if_pos h2]; simp; omega
      · rw [if_neg h1, if_neg (by simp [h1, h2]), if_neg h2]; simp

theorem selL_nil (xs : List Nat) : selL xs [] = [] := by
  unfold selL selLP
  simp
theorem selL_snoc (xs : List Nat) (L : List Int) (c : Int) (hc : c ∉ L) : cnt (selL xs (L ++ [c])) = addL (cnt (selL xs L)) (cnt (sel xs c)) := by
  apply ext_getD
  · rw [addL_length _ _ (by rw [cnt_length, cnt_length]), cnt_length, cnt_length]
  · intro k hk
    rw [cnt_length] at hk
    rw [addL_getD _ _ k (by rw [cnt_length]; exact hk) (by rw [cnt_length]; exact hk), cnt_getD _ k hk, cnt_getD _ k hk, cnt_getD _ k hk]
    unfold selL sel
    rw [selLP_count _ _ _ hc]; omega

theorem selL_sub (xs : List Nat) (L : List Int) : List.Sublist (selL xs L) xs := by
  have h : List.Sublist ((prs 0 xs).filter fun p => decide ((p.1 : Int) ∈ L)) (prs 0 xs) := List.filter_sublist
  have := h.map (·.2)
  rw [prs_snd] at this
  exact this
theorem selL_lt {xs : List Nat} (hx : ∀ x ∈ xs, x < 256) (L : List Int) : ∀ x ∈ selL xs L, x < 256 := fun x h => hx x ((selL_sub xs L).subset h)

theorem selL_pres (xs : List Nat) (hx : ∀ x ∈ xs, x < 256) : selL xs (pres xs) = xs := by
  unfold selL selLP
  rw [List.filter_eq_self.2, prs_snd]
  intro p hp
  have h1 := prs_fst_lt 0 xs (by omega) hx p hp
  rw [decide_eq_true_iff, pres_mem]
  refine ⟨by omega, by omega, ?_⟩
  have : p.2 ∈ sel xs (p.1 : Int) := by
    unfold sel selP
    rw [List.mem_map]
    exact ⟨p, List.mem_filter.2 ⟨hp, by simp⟩, rfl⟩
  exact List.length_pos_of_mem this

theorem pres_new (xs : List Nat) (i : Nat) (hi : i < (pres xs).length) : (pres xs).getD i 0 ∉ (pres xs).take i := by
  intro hm
  obtain ⟨j, hj, he⟩ := List.mem_iff_getElem.1 hm
  have hj2 : j < i ∧ j < (pres xs).length := by rw [List.length_take] at hj; omega
  have := List.pairwise_iff_getElem.1 (pres_rise xs) j i hj2.2 hi hj2.1
  rw [List.getElem_take] at he
  rw [List.getD_eq_getElem?_getD, List.getElem?_eq_getElem hi] at he
  simp only [Option.getD_some] at he
  omega

/-- one context more -/
theorem whole_step (xs : List Nat) (i : Nat) (hi : i < (pres xs).length) : cnt (selL xs ((pres xs).take (i + 1))) = addL (cnt (selL xs ((pres xs).take i))) (cnt (sel xs ((pres xs).getD i 0))) := by
  rw [take_snoc _ i hi, selL_snoc _ _ _ (pres_new xs i hi)]

theorem whole_ok (xs : List Nat) (hx : ∀ x ∈ xs, x < 256) (hl : xs.length ≤ 1000) (L : List Int) (c : Int) : addOk (cnt (selL xs L)) (cnt (sel xs c)) :=
  addOk_cnt _ _ (selL_lt hx L) (sel_lt hx c) (by have := (selL_sub xs L).length_le; have := sel_len xs c; omega)

theorem whole_some (xs : List Nat) (hx : ∀ x ∈ xs, x < 256) (hl : xs.length ≤ 1000) (i : Nat) (hi : i < (pres xs).length) : 1 ≤ totalI (cnt (sel xs ((pres xs).getD i 0))) ∧ totalI (cnt (sel xs ((pres xs).getD i 0))) ≤ 1000 := by
  have h1 := (pres_mem.1 (getD_mem hi)).2.2
  have h2 := sel_len xs ((pres xs).getD i 0)
  rw [total_cnt _ (sel_lt hx _) (by omega)]
  omega

theorem pres_range (xs : List Nat) (i : Nat) (hi : i < (pres xs).length) : 0 ≤ (pres xs).getD i 0 ∧ (pres xs).getD i 0 < 256 := by
  have := pres_mem.1 (getD_mem hi)
  exact ⟨this.1, this.2.1⟩

end Go.Proofs.Ytjddaneafmdeeaa
