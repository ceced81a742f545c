/- Plain: heaps, as container/heap keeps them (a row; who stands at k stands behind who stands at (k - 1) / 2). -/
import Derived.Test.YtnijfkbnggdbnaaBwMath
namespace Go.Proofs.Ytnijfkbnggdbnaa
open Go

structure TotalOrd {α : Type} (le : α → α → Prop) : Prop where
  total : ∀ a b, le a b ∨ le b a
  trans : ∀ {a b c}, le a b → le b c → le a c

theorem TotalOrd.refl {α : Type} {le : α → α → Prop} (o : TotalOrd le) (a : α) : le a a := (o.total a a).elim id id

section
variable {α : Type} [Inhabited α]

/-- two have changed places -/
def swp (l : List α) (i j : Nat) : List α := (l.set i (l.getD j default)).set j (l.getD i default)
theorem swp_length (l : List α) (i j : Nat) : (swp l i j).length = l.length := by simp [swp]
theorem aset_getD (l : List α) (i k : Nat) (x : α) (hi : i < l.length) : (l.set i x).getD k default = if i = k then x else l.getD k default := by
  by_cases h : i = k
  · subst h; rw [if_pos rfl, List.getD_eq_getElem?_getD, List.getElem?_set_self hi]; rfl
  · rw [if_neg h, List.getD_eq_getElem?_getD, List.getElem?_set_ne h, ← List.getD_eq_getElem?_getD]
theorem swp_getD (l : List α) (i j k : Nat) (hi : i < l.length) (hj : j < l.length) : (swp l i j).getD k default = if j = k then l.getD i default else if i = k then l.getD j default else l.getD k default := by
  unfold swp
  rw [aset_getD _ _ _ _ (by simpa using hj), aset_getD _ _ _ _ hi]
theorem swp_perm (l : List α) (i j : Nat) (hi : i < l.length) (hj : j < l.length) : (swp l i j).Perm l := by
  classical
  rw [List.perm_iff_count]
  intro a
  have hp : l[i] ∈ l := List.getElem_mem hi
  have hgi : l.getD i default = l[i] := by rw [List.getD_eq_getElem?_getD, List.getElem?_eq_getElem hi]; rfl
  have hgj : l.getD j default = l[j] := by rw [List.getD_eq_getElem?_getD, List.getElem?_eq_getElem hj]; rfl
  have hs : swp l i j = (l.set i l[j]).set j l[i] := by unfold swp; rw [hgi, hgj]
  rw [hs, List.count_set (h := by simpa using hj), List.count_set (h := hi), List.getElem_set]
  by_cases hij : i = j
  · subst hij
    rw [if_pos rfl]
    have hc : (if (l[i] == a) = true then 1 else 0) ≤ l.count a := by
      split
      · next h => rw [List.one_le_count_iff]; have := LawfulBEq.eq_of_beq h; rw [← this]; exact hp
      · omega
    omega
  · rw [if_neg hij]
    have hc : (if (l[i] == a) = true then 1 else 0) ≤ l.count a := by
      split
      · next h => rw [List.one_le_count_iff]; have := LawfulBEq.eq_of_beq h; rw [← this]; exact hp
      · omega
    have hc2 : (if (l[j] == a) = true then 1 else 0) ≤ l.count a := by
      split
      · next h => rw [List.one_le_count_iff]; have := LawfulBEq.eq_of_beq h; rw [← this]; exact List.getElem_mem hj
      · omega
    omega

/-- the first n are a heap -/
def Heap (le : α → α → Prop) (l : List α) (n : Nat) : Prop := ∀ k, 0 < k → k < n → le (l.getD ((k - 1) / 2) default) (l.getD k default)

theorem Heap.least {le : α → α → Prop} (o : TotalOrd le) {l : List α} {n : Nat} (h : Heap le l n) : ∀ k, k < n → le (l.getD 0 default) (l.getD k default) := by
  intro k
  induction k using Nat.strongRecOn with
  | ind k ih =>
    intro hk
    by_cases h0 : k = 0
    · subst h0; exact o.refl _
    · exact o.trans (ih ((k - 1) / 2) (by omega) (by omega)) (h k (by omega) hk)

/-- a heap, but for who stands at j, that may stand too far behind -/
structure UpInv (le : α → α → Prop) (l : List α) (n j : Nat) : Prop where
  lt : j < n
  rest : ∀ k, 0 < k → k < n → k ≠ j → le (l.getD ((k - 1) / 2) default) (l.getD k default)
  over : ∀ k, 0 < k → k < n → (k - 1) / 2 = j → 0 < j → le (l.getD ((j - 1) / 2) default) (l.getD k default)

theorem UpInv.done {le : α → α → Prop} {l : List α} {n j : Nat} (h : UpInv le l n j) (hd : j = 0 ∨ le (l.getD ((j - 1) / 2) default) (l.getD j default)) : Heap le l n := by
  intro k h0 hk
  by_cases hkj : k = j
  · subst hkj
    rcases hd with hd | hd
    · omega
    · exact hd
  · exact h.rest k h0 hk hkj

theorem UpInv.step {le : α → α → Prop} (o : TotalOrd le) {l : List α} {n j : Nat} (hn : n ≤ l.length) (h : UpInv le l n j) (hj : 0 < j) (hl : ¬ le (l.getD ((j - 1) / 2) default) (l.getD j default)) : UpInv le (swp l ((j - 1) / 2) j) n ((j - 1) / 2) := by
  have hlt := h.lt
  obtain ⟨i, hi⟩ : ∃ i, (j - 1) / 2 = i := ⟨_, rfl⟩
  rw [hi] at hl ⊢
  have hij : i < j := by omega
  have hji : le (l.getD j default) (l.getD i default) := (o.total _ _).resolve_left hl
  have g := fun k => swp_getD l i j k (by omega) (by omega)
  refine ⟨by omega, fun k h0 hk hki => ?_, fun k h0 hk hpk hi0 => ?_⟩
  · rw [g, g]
    by_cases hkj : j = k
    · subst hkj
      rw [if_neg (show ¬ j = (j - 1) / 2 by omega), if_pos hi.symm, if_pos rfl]
      exact hji
    · rw [if_neg hkj, if_neg (show ¬ i = k from fun hh => hki hh.symm)]
      by_cases hp1 : j = (k - 1) / 2
      · rw [if_pos hp1]
        have := h.over k h0 hk hp1.symm hj
        rw [hi] at this
        exact this
      · rw [if_neg hp1]
        by_cases hp2 : i = (k - 1) / 2
        · rw [if_pos hp2]
          have := h.rest k h0 hk (fun hh => hkj hh.symm)
          rw [← hp2] at this
          exact o.trans hji this
        · rw [if_neg hp2]
          exact h.rest k h0 hk (fun hh => hkj hh.symm)
  · rw [g, g]
    have hpi : le (l.getD ((i - 1) / 2) default) (l.getD i default) := h.rest i hi0 (by omega) (by omega)
    rw [if_neg (show ¬ j = (i - 1) / 2 by omega), if_neg (show ¬ i = (i - 1) / 2 by omega)]
    by_cases hkj : j = k
    · rw [if_pos hkj]; exact hpi
    · rw [if_neg hkj, if_neg (show ¬ i = k by omega)]
      have := h.rest k h0 hk (fun hh => hkj hh.symm)
      rw [hpk] at this
      exact o.trans hpi this

/-- the first n are a heap, as far as those go whose parents stand at lo or behind -/
def HeapFrom (le : α → α → Prop) (l : List α) (n lo : Nat) : Prop := ∀ k, 0 < k → k < n → lo ≤ (k - 1) / 2 → le (l.getD ((k - 1) / 2) default) (l.getD k default)
theorem HeapFrom.heap {le : α → α → Prop} {l : List α} {n : Nat} (h : HeapFrom le l n 0) : Heap le l n := fun k h0 hk => h k h0 hk (Nat.zero_le _)
theorem Heap.all {le : α → α → Prop} {l : List α} {n : Nat} (h : Heap le l n) : HeapFrom le l n 0 := fun k h0 hk _ => h k h0 hk

/-- a heap (from lo on), but for who stands at i, that may stand too far ahead -/
structure DownInv (le : α → α → Prop) (l : List α) (n lo i : Nat) : Prop where
  ge : lo ≤ i
  rest : ∀ k, 0 < k → k < n → lo ≤ (k - 1) / 2 → (k - 1) / 2 ≠ i → le (l.getD ((k - 1) / 2) default) (l.getD k default)
  over : ∀ k, 0 < k → k < n → (k - 1) / 2 = i → 0 < i → lo ≤ (i - 1) / 2 → le (l.getD ((i - 1) / 2) default) (l.getD k default)

theorem DownInv.done {le : α → α → Prop} {l : List α} {n lo i : Nat} (h : DownInv le l n lo i) (hd : ∀ k, 0 < k → k < n → (k - 1) / 2 = i → le (l.getD i default) (l.getD k default)) : HeapFrom le l n lo := by
  intro k h0 hk hlo
  by_cases hp : (k - 1) / 2 = i
  · rw [hp]; exact hd k h0 hk hp
  · exact h.rest k h0 hk hlo hp

theorem DownInv.step {le : α → α → Prop} (o : TotalOrd le) {l : List α} {n lo i j : Nat} (hn : n ≤ l.length) (h : DownInv le l n lo i) (hj0 : 0 < j) (hjn : j < n) (hpj : (j - 1) / 2 = i)
    (hmin : ∀ k, 0 < k → k < n → (k - 1) / 2 = i → le (l.getD j default) (l.getD k default)) (hji : le (l.getD j default) (l.getD i default)) : DownInv le (swp l i j) n lo j := by
  have hij : i < j := by omega
  have hge := h.ge
  have g := fun k => swp_getD l i j k (by omega) (by omega)
  refine ⟨by omega, fun k h0 hk hlo hpk => ?_, fun k h0 hk hpk hj hlo => ?_⟩
  · rw [g, g]
    rw [if_neg (show ¬ j = (k - 1) / 2 from fun hh => hpk hh.symm)]
    by_cases hpi : i = (k - 1) / 2
    · rw [if_pos hpi]
      by_cases hkj : j = k
      · rw [if_pos hkj]; exact hji
      · rw [if_neg hkj, if_neg (show ¬ i = k by omega)]
        exact hmin k h0 hk hpi.symm
    · rw [if_neg hpi, if_neg (show ¬ j = k by omega)]
      by_cases hki : i = k
      · subst hki
        rw [if_pos rfl]
        exact h.over j hj0 hjn hpj h0 hlo
      · rw [if_neg hki]
        exact h.rest k h0 hk hlo (fun hh => hpi hh.symm)
  · rw [g, g]
    rw [if_neg (show ¬ j = (j - 1) / 2 by omega), if_pos hpj.symm, if_neg (show ¬ j = k by omega), if_neg (show ¬ i = k by omega)]
    have := h.rest k h0 hk (by omega) (by omega)
    rw [hpk] at this
    exact this

theorem DownInv.start {le : α → α → Prop} {l : List α} {n i : Nat} (h : HeapFrom le l n (i + 1)) : DownInv le l n i i :=
  ⟨Nat.le_refl _, fun k h0 hk hlo hne => h k h0 hk (by omega), fun k h0 hk hp hi hlo => by omega⟩

/-- a heap, one behind it: it may stand too far behind -/
theorem UpInv.pushed {le : α → α → Prop} {l : List α} (h : Heap le l l.length) (x : α) : UpInv le (l ++ [x]) (l.length + 1) l.length := by
  have g : ∀ k, k < l.length → (l ++ [x]).getD k default = l.getD k default := fun k hk => by
    rw [List.getD_eq_getElem?_getD, List.getElem?_append_left hk, ← List.getD_eq_getElem?_getD]
  refine ⟨by omega, fun k h0 hk hkl => ?_, fun k h0 hk hp _ => by omega⟩
  rw [g k (by omega), g ((k - 1) / 2) (by omega)]
  exact h k h0 (by omega)

/-- the last one put first: it may stand too far ahead -/
theorem DownInv.popped {le : α → α → Prop} {l : List α} {n : Nat} (hl : l.length = n + 1) (h : Heap le l (n + 1)) : DownInv le (swp l 0 n) n 0 0 := by
  have g := fun k => swp_getD l 0 n k (by omega) (by omega)
  refine ⟨Nat.le_refl _, fun k h0 hk _ hp => ?_, fun k h0 hk hp hh => by omega⟩
  rw [g, g, if_neg (show ¬ n = (k - 1) / 2 by omega), if_neg (show ¬ 0 = (k - 1) / 2 by omega), if_neg (show ¬ n = k by omega), if_neg (show ¬ 0 = k by omega)]
  exact h k h0 (by omega)

/-- who stands first was changed: it may stand too far ahead -/
theorem DownInv.changed0 {le : α → α → Prop} {l : List α} {n : Nat} (x : α) (hi : 0 < l.length) (h : Heap le l n) : DownInv le (l.set 0 x) n 0 0 := by
  have g := fun k => aset_getD l 0 k x hi
  refine ⟨Nat.le_refl _, fun k h0 hk _ hp => ?_, fun k h0 hk hp h0i _ => by omega⟩
  rw [g, g, if_neg (show ¬ 0 = k by omega), if_neg (fun hh => hp hh.symm)]
  exact h k h0 hk

theorem UpInv.of_heap {le : α → α → Prop} {l : List α} {n : Nat} (h : Heap le l n) (h0 : 0 < n) : UpInv le l n 0 := ⟨h0, fun k h0 hk _ => h k h0 hk, fun k _ _ _ h => by omega⟩

theorem HeapFrom.leaves {le : α → α → Prop} {l : List α} {n lo : Nat} (h : n ≤ 2 * lo + 1) : HeapFrom le l n lo := fun k h0 hk hlo => by omega

/-- the last one apart -/
theorem last_apart (l : List α) (n : Nat) (h : l.length = n + 1) : l = l.take n ++ [l.getD n default] := by
  rw [List.getD_eq_getElem?_getD, List.getElem?_eq_getElem (by omega)]
  have := List.take_append_getElem (l := l) (i := n) (by omega)
  simp only [Option.getD_some]
  rw [this, List.take_of_length_le (by omega)]

theorem Heap.take {le : α → α → Prop} {l : List α} {n : Nat} (h : Heap le l n) (hn : n ≤ l.length) : Heap le (l.take n) (l.take n).length := by
  have g : ∀ k, k < n → (l.take n).getD k default = l.getD k default := fun k hk => by
    rw [List.getD_eq_getElem?_getD, List.getElem?_take_of_lt hk, ← List.getD_eq_getElem?_getD]
  intro k h0 hk
  rw [List.length_take, Nat.min_eq_left hn] at hk
  rw [g k hk, g _ (by omega)]
  exact h k h0 hk

theorem Heap.least_mem {le : α → α → Prop} (o : TotalOrd le) {l : List α} (h : Heap le l l.length) {y : α} (hy : y ∈ l) : le (l.getD 0 default) y := by
  obtain ⟨k, hk, rfl⟩ := List.getElem_of_mem hy
  have := h.least o k hk
  rw [List.getD_eq_getElem?_getD (l := l) (i := k), List.getElem?_eq_getElem hk] at this
  exact this

end

end Go.Proofs.Ytnijfkbnggdbnaa
