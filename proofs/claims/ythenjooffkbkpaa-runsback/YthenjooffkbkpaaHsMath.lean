/- Counts as lists of 256 whole numbers: sums, how many are above 0, of bytes. Plain. -/
import Derived.Test.YthenjooffkbkpaaBwMath
namespace Go.Proofs.Ythenjooffkbkpaa
open Go

def tot : List Int → Int
  | [] => 0
  | x :: r => x + tot r

def pos : List Int → Nat
  | [] => 0
  | x :: r => (if 0 < x then 1 else 0) + pos r

theorem tot_append (a b : List Int) : tot (a ++ b) = tot a + tot b := by
  induction a with
  | nil => simp [tot]
  | cons x r ih => simp only [List.cons_append, tot, ih]; omega

theorem pos_append (a b : List Int) : pos (a ++ b) = pos a + pos b := by
  induction a with
  | nil => simp [pos]
  | cons x r ih => simp only [List.cons_append, pos, ih]; omega

theorem take_snoc (cs : List Int) (k : Nat) (h : k < cs.length) : cs.take (k + 1) = cs.take k ++ [cs.getD k 0] := by
  rw [List.take_succ_eq_append_getElem h, List.getD_eq_getElem?_getD, List.getElem?_eq_getElem h]; rfl

theorem tot_take_succ (cs : List Int) (k : Nat) (h : k < cs.length) : tot (cs.take (k + 1)) = tot (cs.take k) + cs.getD k 0 := by
  rw [take_snoc cs k h, tot_append]; simp [tot]

theorem pos_take_succ (cs : List Int) (k : Nat) (h : k < cs.length) : pos (cs.take (k + 1)) = pos (cs.take k) + if 0 < cs.getD k 0 then 1 else 0 := by
  rw [take_snoc cs k h, pos_append]; simp [pos]

theorem tot_nonneg (cs : List Int) (h : ∀ c ∈ cs, 0 ≤ c) : 0 ≤ tot cs := by
  induction cs with
  | nil => simp [tot]
  | cons x r ih =>
    have := h x (by simp)
    have := ih (fun c hc => h c (by simp [hc]))
    simp only [tot]; omega

theorem tot_take_le (cs : List Int) (k : Nat) (h : ∀ c ∈ cs, 0 ≤ c) : tot (cs.take k) ≤ tot cs := by
  have := tot_append (cs.take k) (cs.drop k)
  rw [List.take_append_drop] at this
  have := tot_nonneg (cs.drop k) (fun c hc => h c (List.mem_of_mem_drop hc))
  omega

theorem pos_le (cs : List Int) : pos cs ≤ cs.length := by
  induction cs with
  | nil => simp [pos]
  | cons x r ih => simp only [pos, List.length_cons]; split <;> omega

/-- counts that are right -/
def isRight (cs : List Int) : Prop := cs.length = 256 ∧ (∀ c ∈ cs, 0 ≤ c) ∧ tot cs ≤ 1073741824
instance isRight_dec (cs : List Int) : Decidable (isRight cs) := by unfold isRight; infer_instance

def manyI (cs : List Int) : Nat := if isRight cs then pos cs else 0
def totalI (cs : List Int) : Int := if isRight cs then tot cs else 0

theorem manyI_le (cs : List Int) : manyI cs ≤ 256 := by
  unfold manyI
  split
  · next h => have := pos_le cs; have := h.1; omega
  · omega

theorem totalI_le (cs : List Int) : 0 ≤ totalI cs ∧ totalI cs ≤ 1073741824 := by
  unfold totalI
  split
  · next h => exact ⟨tot_nonneg _ h.2.1, h.2.2⟩
  · omega

theorem getD_mem {cs : List Int} {k : Nat} (h : k < cs.length) : cs.getD k 0 ∈ cs := by
  rw [List.getD_eq_getElem?_getD, List.getElem?_eq_getElem h]; exact List.getElem_mem h

theorem isRight.at {cs : List Int} (h : isRight cs) (k : Nat) (hk : k < cs.length) : 0 ≤ cs.getD k 0 ∧ tot (cs.take k) + cs.getD k 0 ≤ 1073741824 := by
  refine ⟨h.2.1 _ (getD_mem hk), ?_⟩
  rw [← tot_take_succ cs k hk]
  exact Int.le_trans (tot_take_le cs (k + 1) h.2.1) h.2.2

theorem isRight.one {cs : List Int} (h : isRight cs) (k : Nat) (hk : k < cs.length) : 0 ≤ cs.getD k 0 ∧ cs.getD k 0 ≤ 1073741824 := by
  have h1 := h.at k hk
  have := tot_nonneg (cs.take k) (fun c hc => h.2.1 c (List.mem_of_mem_take hc))
  omega

/-- the first k are no less than 0 -/
def upTo (cs : List Int) (k : Nat) : Prop := ∀ j, j < k → 0 ≤ cs.getD j 0
theorem upTo_zero (cs : List Int) : upTo cs 0 := fun j hj => by omega
theorem upTo_succ {cs : List Int} {k : Nat} (h : upTo cs k) (h1 : 0 ≤ cs.getD k 0) : upTo cs (k + 1) := fun j hj => by
  by_cases he : j = k
  · rw [he]; exact h1
  · exact h j (by omega)
theorem upTo_all {cs : List Int} {n : Nat} (hn : cs.length = n) (h : upTo cs n) : ∀ c ∈ cs, 0 ≤ c := by
  intro c hc
  obtain ⟨j, hj, rfl⟩ := List.mem_iff_getElem.1 hc
  have := h j (by omega)
  rwa [List.getD_eq_getElem?_getD, List.getElem?_eq_getElem hj] at this
theorem upTo_take {cs : List Int} {k : Nat} (h : upTo cs k) : 0 ≤ tot (cs.take k) := by
  refine tot_nonneg _ fun c hc => ?_
  obtain ⟨j, hj, rfl⟩ := List.mem_iff_getElem.1 hc
  have hl : j < k ∧ j < cs.length := by rw [List.length_take] at hj; omega
  have := h j hl.1
  rw [List.getD_eq_getElem?_getD, List.getElem?_eq_getElem hl.2] at this
  rw [List.getElem_take]; exact this

/-- added one by one -/
def addL (a b : List Int) : List Int := List.zipWith (· + ·) a b

theorem addL_length (a b : List Int) (h : a.length = b.length) : (addL a b).length = a.length := by simp [addL, h]
theorem addL_getD (a b : List Int) (k : Nat) (ha : k < a.length) (hb : k < b.length) : (addL a b).getD k 0 = a.getD k 0 + b.getD k 0 := by
  simp [addL, List.getD_eq_getElem?_getD, List.getElem?_zipWith, List.getElem?_eq_getElem ha, List.getElem?_eq_getElem hb]

theorem tot_addL : ∀ (a b : List Int), a.length = b.length → tot (addL a b) = tot a + tot b
  | [], [], _ => by simp [addL, tot]
  | [], _ :: _, h => by simp at h
  | _ :: _, [], h => by simp at h
  | x :: a, y :: b, h => by
    have ih := tot_addL a b (by simpa using h)
    simp only [addL, List.zipWith_cons_cons, tot] at ih ⊢
    omega

theorem pos_addL : ∀ (a b : List Int), a.length = b.length → (∀ c ∈ a, 0 ≤ c) → (∀ c ∈ b, 0 ≤ c) → pos a ≤ pos (addL a b) ∧ pos b ≤ pos (addL a b) ∧ pos (addL a b) ≤ pos a + pos b
  | [], [], _, _, _ => by simp [addL, pos]
  | [], _ :: _, h, _, _ => by simp at h
  | _ :: _, [], h, _, _ => by simp at h
  | x :: a, y :: b, h, ha, hb => by
    have ih := pos_addL a b (by simpa using h) (fun c hc => ha c (by simp [hc])) (fun c hc => hb c (by simp [hc]))
    have hx := ha x (by simp); have hy := hb y (by simp)
    simp only [addL, List.zipWith_cons_cons, pos] at ih ⊢
    by_cases h1 : 0 < x <;> by_cases h2 : 0 < y <;> by_cases h3 : 0 < x + y <;> simp only [h1, h2, h3, if_true, if_false] <;> omega

theorem addL_nonneg : ∀ (a b : List Int), (∀ c ∈ a, 0 ≤ c) → (∀ c ∈ b, 0 ≤ c) → ∀ c ∈ addL a b, 0 ≤ c
  | [], _, _, _, c, hc => by simp [addL] at hc
  | _ :: _, [], _, _, c, hc => by simp [addL] at hc
  | x :: a, y :: b, ha, hb, c, hc => by
    simp only [addL, List.zipWith_cons_cons, List.mem_cons] at hc
    rcases hc with rfl | hc
    · have := ha x (by simp); have := hb y (by simp); omega
    · exact addL_nonneg a b (fun c hc => ha c (by simp [hc])) (fun c hc => hb c (by simp [hc])) c hc

theorem right_addL {a b : List Int} (ha : isRight a) (hb : isRight b) : isRight (addL a b) ↔ tot a + tot b ≤ 1073741824 := by
  have hl : a.length = b.length := ha.1.trans hb.1.symm
  unfold isRight
  rw [addL_length a b hl, tot_addL a b hl]
  exact ⟨fun h => h.2.2, fun h => ⟨ha.1, addL_nonneg a b ha.2.1 hb.2.1, h⟩⟩

/-- whether two can be added -/
def addOk (a b : List Int) : Prop := isRight a ∧ isRight b ∧ isRight (addL a b)
instance addOk_dec (a b : List Int) : Decidable (addOk a b) := by unfold addOk; infer_instance

theorem adds_not {a b : List Int} (h : ¬ addOk a b) : ¬ (isRight a ∧ isRight b ∧ totalI a ≤ 1073741824 - totalI b) := by
  rintro ⟨ha, hb, ht⟩
  apply h
  refine ⟨ha, hb, (right_addL ha hb).2 ?_⟩
  unfold totalI at ht
  rw [if_pos ha, if_pos hb] at ht
  omega

theorem adds_yes {a b : List Int} (h : addOk a b) : totalI (addL a b) = totalI a + totalI b ∧ manyI a ≤ manyI (addL a b) ∧ manyI b ≤ manyI (addL a b) ∧ manyI (addL a b) ≤ manyI a + manyI b := by
  obtain ⟨ha, hb, hs⟩ := h
  have hl : a.length = b.length := ha.1.trans hb.1.symm
  unfold totalI manyI
  rw [if_pos ha, if_pos hb, if_pos hs, if_pos ha, if_pos hb, if_pos hs]
  exact ⟨tot_addL a b hl, pos_addL a b hl ha.2.1 hb.2.1⟩

/-- how often each byte comes -/
def cnt (xs : List Nat) : List Int := (List.range 256).map fun v => ((xs.count v : Nat) : Int)

theorem cnt_length (xs : List Nat) : (cnt xs).length = 256 := by simp [cnt]
theorem cnt_getD (xs : List Nat) (v : Nat) (h : v < 256) : (cnt xs).getD v 0 = ((xs.count v : Nat) : Int) := by simp [cnt, List.getD_eq_getElem?_getD, h]
theorem cnt_nonneg (xs : List Nat) : ∀ c ∈ cnt xs, 0 ≤ c := by
  intro c hc
  simp only [cnt, List.mem_map] at hc
  obtain ⟨v, _, rfl⟩ := hc
  omega

theorem ext_getD {a b : List Int} (hl : a.length = b.length) (h : ∀ k, k < a.length → a.getD k 0 = b.getD k 0) : a = b := by
  apply List.ext_getElem hl
  intro i h1 h2
  have := h i h1
  rwa [List.getD_eq_getElem?_getD, List.getD_eq_getElem?_getD, List.getElem?_eq_getElem h1, List.getElem?_eq_getElem h2] at this

theorem cnt_append (xs ys : List Nat) : cnt (xs ++ ys) = addL (cnt xs) (cnt ys) := by
  apply ext_getD
  · rw [addL_length _ _ (by rw [cnt_length, cnt_length]), cnt_length, cnt_length]
  · intro k hk
    rw [cnt_length] at hk
    rw [addL_getD _ _ k (by rw [cnt_length]; exact hk) (by rw [cnt_length]; exact hk), cnt_getD _ k hk, cnt_getD _ k hk, cnt_getD _ k hk, List.count_append]
    omega

theorem addL_comm (a b : List Int) : addL a b = addL b a := by
  unfold addL
  rw [List.zipWith_comm]
  congr 1
  funext x y
  omega

theorem cnt_snoc (xs : List Nat) (v : Nat) (hv : v < 256) : cnt (xs ++ [v]) = (cnt xs).set v ((cnt xs).getD v 0 + 1) := by
  apply ext_getD
  · rw [List.length_set, cnt_length, cnt_length]
  · intro k hk
    rw [cnt_length] at hk
    rw [cnt_getD _ k hk, cnt_getD _ v hv, List.count_append]
    by_cases h : v = k
    · subst h
      simp [List.getD_eq_getElem?_getD, cnt_length, hk]
    · rw [List.getD_eq_getElem?_getD, List.getElem?_set_ne h, ← List.getD_eq_getElem?_getD, cnt_getD _ k hk]
      have : List.count k [v] = 0 := by rw [List.count_eq_zero]; simp; omega
      rw [this]; simp

theorem tot_set (l : List Int) (i : Nat) (y : Int) (h : i < l.length) : tot (l.set i y) + l.getD i 0 = tot l + y := by
  induction l generalizing i with
  | nil => simp at h
  | cons x r ih =>
    cases i with
    | zero => simp [tot]; omega
    | succ i =>
      have := ih i (by simpa using h)
      simp only [List.set_cons_succ, tot, List.getD_cons_succ] at this ⊢
      omega

theorem pos_set (l : List Int) (i : Nat) (y : Int) (h : i < l.length) : pos (l.set i y) + (if 0 < l.getD i 0 then 1 else 0) = pos l + if 0 < y then 1 else 0 := by
  induction l generalizing i with
  | nil => simp at h
  | cons x r ih =>
    cases i with
    | zero => simp [pos]; omega
    | succ i =>
      have := ih i (by simpa using h)
      simp only [List.set_cons_succ, pos, List.getD_cons_succ] at this ⊢
      omega

theorem tot_zeros (n : Nat) : tot (List.replicate n 0) = 0 := by
  induction n with
  | zero => rfl
  | succ n ih => simp only [List.replicate_succ, tot, ih]; rfl

theorem count_none (n : Nat) : ((List.range n).map fun v => ((([] : List Nat).count v : Nat) : Int)) = List.replicate n 0 := by
  apply List.ext_getElem (by simp)
  intro i h1 h2
  simp
theorem cnt_nil : cnt [] = List.replicate 256 0 := count_none 256

theorem snoc_ind {P : List Nat → Prop} (h0 : P []) (h1 : ∀ xs x, P xs → P (xs ++ [x])) (xs : List Nat) : P xs := by
  rw [← List.reverse_reverse xs]
  induction xs.reverse with
  | nil => simpa using h0
  | cons x r ih => rw [List.reverse_cons]; exact h1 _ _ ih

theorem tot_cnt (xs : List Nat) : (∀ x ∈ xs, x < 256) → tot (cnt xs) = (xs.length : Int) := by
  refine snoc_ind (P := fun xs => (∀ x ∈ xs, x < 256) → tot (cnt xs) = (xs.length : Int)) ?_ ?_ xs
  · intro _
    rw [cnt_nil, tot_zeros]; rfl
  · intro xs x ih hx
    have hx0 : x < 256 := hx x (by simp)
    have := ih (fun y hy => hx y (by simp [hy]))
    have hs := tot_set (cnt xs) x ((cnt xs).getD x 0 + 1) (by rw [cnt_length]; exact hx0)
    rw [cnt_snoc xs x hx0]
    simp only [List.length_append, List.length_cons, List.length_nil]
    omega

theorem cnt_right (xs : List Nat) (hx : ∀ x ∈ xs, x < 256) (hl : xs.length ≤ 1073741824) : isRight (cnt xs) :=
  ⟨cnt_length xs, cnt_nonneg xs, by rw [tot_cnt xs hx]; omega⟩

theorem total_cnt (xs : List Nat) (hx : ∀ x ∈ xs, x < 256) (hl : xs.length ≤ 1073741824) : totalI (cnt xs) = (xs.length : Int) := by
  unfold totalI; rw [if_pos (cnt_right xs hx hl), tot_cnt xs hx]

theorem addOk_cnt (xs ys : List Nat) (hx : ∀ x ∈ xs, x < 256) (hy : ∀ x ∈ ys, x < 256) (hl : xs.length + ys.length ≤ 1073741824) : addOk (cnt xs) (cnt ys) := by
  refine ⟨cnt_right xs hx (by omega), cnt_right ys hy (by omega), ?_⟩
  rw [← cnt_append]
  refine cnt_right _ (fun x h => ?_) (by rw [List.length_append]; omega)
  rcases List.mem_append.1 h with h | h
  · exact hx x h
  · exact hy x h

theorem many_snoc (xs : List Nat) (v : Nat) (hx : ∀ x ∈ xs, x < 256) (hv : v < 256) (hl : xs.length < 1073741824) :
    manyI (cnt (xs ++ [v])) = if (cnt xs).getD v 0 = 0 then manyI (cnt xs) + 1 else manyI (cnt xs) := by
  have h1 := cnt_right xs hx (by omega)
  have h2 := cnt_right (xs ++ [v]) (fun x h => by
    rcases List.mem_append.1 h with h | h
    · exact hx x h
    · simp at h; omega) (by simp; omega)
  unfold manyI
  rw [if_pos h1, if_pos h2, cnt_snoc xs v hv]
  have hs := pos_set (cnt xs) v ((cnt xs).getD v 0 + 1) (by rw [cnt_length]; exact hv)
  have hn := cnt_nonneg xs _ (getD_mem (cs := cnt xs) (k := v) (by rw [cnt_length]; exact hv))
  rw [if_pos (show 0 < (cnt xs).getD v 0 + 1 by omega)] at hs
  by_cases h0 : (cnt xs).getD v 0 = 0
  · rw [if_pos h0]
    rw [if_neg (show ¬ 0 < (cnt xs).getD v 0 by omega)] at hs
    omega
  · rw [if_neg h0]
    rw [if_pos (show 0 < (cnt xs).getD v 0 by omega)] at hs
    omega

end Go.Proofs.Ythenjooffkbkpaa
