/- Plain: contexts by what stands ahead; pairs that are new. -/
import Derived.Test.YtjddaneafmdeeaaCxMath
namespace Go.Proofs.Ytjddaneafmdeeaa
open Go

theorem prs_fst (c : Nat) (xs : List Nat) : (prs c xs).map (·.1) = (c :: xs).take xs.length := by
  induction xs generalizing c with
  | nil => rfl
  | cons x r ih => simp only [prs, List.map_cons, ih, List.length_cons, List.take_succ_cons]

theorem selP_length (P : List (Nat × Nat)) (c : Nat) : (selP P (c : Int)).length = (P.map (·.1)).count c := by
  induction P with
  | nil => rfl
  | cons p P ih =>
    rw [selP_cons, List.length_append, ih, List.map_cons, List.count_cons]
    by_cases h : p.1 = c
    · rw [if_pos (by omega)]; simp [h]; omega
    · rw [if_neg (by omega)]; simp [h]

/-- a context is there just if it is 0, or a byte's that isn't the last one -/
theorem ahead_pos (xs : List Nat) (n c : Nat) (hn : xs.length = n + 1) (hc : c < 256) :
    0 < ((cnt (xs.take n)).set 0 ((cnt (xs.take n)).getD 0 0 + 1)).getD c 0 ↔ 0 < (sel xs (c : Int)).length := by
  rw [← cnt_snoc _ _ (by omega), cnt_getD _ _ hc]
  unfold sel
  rw [selP_length, prs_fst, hn, List.take_succ_cons, List.count_cons, List.count_append]
  simp only [List.count_cons, List.count_nil]
  omega

theorem sel_snoc_eq (ys : List Nat) (x : Nat) : sel (ys ++ [x]) ((lst 0 ys : Nat) : Int) = sel ys ((lst 0 ys : Nat) : Int) ++ [x] := by
  rw [sel_snoc, if_pos rfl]
theorem sel_snoc_ne (ys : List Nat) (x c : Nat) (h : c ≠ lst 0 ys) : sel (ys ++ [x]) (c : Int) = sel ys (c : Int) := by
  rw [sel_snoc, if_neg (by omega), List.append_nil]

/-- which pairs came -/
def SeenOk (ys : List Nat) (vs : List Bool) : Prop := vs.length = 65536 ∧ ∀ c x : Nat, c < 256 → x < 256 → vs.getD (c * 256 + x) false = decide (x ∈ sel ys (c : Int))
/-- how many unlike bytes each context has -/
def ManyOk (ys : List Nat) (ms : List Int) : Prop := ms.length = 256 ∧ ∀ c : Nat, c < 256 → ms.getD c 0 = ((manyI (cnt (sel ys (c : Int))) : Nat) : Int)

theorem SeenOk.nil {vs : List Bool} (hl : vs.length = 65536) (h : ∀ j, j < 65536 → vs.getD j false = false) : SeenOk [] vs :=
  ⟨hl, fun c x hc hx => by rw [h _ (by omega), sel_nil]; simp⟩
theorem ManyOk.nil : ManyOk [] (List.replicate 256 0) :=
  ⟨List.length_replicate, fun c hc => by rw [sel_nil, many_nil, List.getD_eq_getElem?_getD, List.getElem?_replicate, if_pos hc]; rfl⟩

theorem cnt_zero_iff (zs : List Nat) (x : Nat) (hx : x < 256) : (cnt zs).getD x 0 = 0 ↔ x ∉ zs := by
  rw [cnt_getD _ _ hx]
  have := @List.count_eq_zero _ _ _ x zs
  constructor
  · intro h; exact this.1 (by omega)
  · intro h; have := this.2 h; omega

theorem wid_snoc (ys : List Nat) (x : Nat) (hy : ∀ y ∈ ys, y < 256) (hx : x < 256) (hl : ys.length < 1073741824) (hc : lst 0 ys < 256) :
    widest (ys ++ [x]) = max (widest ys) (manyI (cnt (sel (ys ++ [x]) ((lst 0 ys : Nat) : Int)))) := by
  apply Nat.le_antisymm
  · refine wid_bound _ 256 _ fun c hc' => ?_
    by_cases h : c = lst 0 ys
    · subst h; omega
    · rw [sel_snoc_ne ys x c h]
      have := wid_ge ys 256 c hc'
      unfold widest; omega
  · have h1 := (wid_more ys x hy hx hl 256).1
    have h2 := wid_ge (ys ++ [x]) 256 (lst 0 ys) hc
    unfold widest; omega

/-- a pair that came already -/
theorem seen_old {ys : List Nat} {x : Nat} {vs : List Bool} {ms : List Int} (hs : SeenOk ys vs) (hm : ManyOk ys ms) (hy : ∀ y ∈ ys, y < 256) (hx : x < 256) (hl : ys.length < 1073741824)
    (h : vs.getD (lst 0 ys * 256 + x) false = true) : SeenOk (ys ++ [x]) vs ∧ ManyOk (ys ++ [x]) ms ∧ widest (ys ++ [x]) = widest ys := by
  have hc : lst 0 ys < 256 := lst_lt 0 ys (by omega) hy
  rw [hs.2 _ _ hc hx, decide_eq_true_iff] at h
  have hmany : manyI (cnt (sel (ys ++ [x]) ((lst 0 ys : Nat) : Int))) = manyI (cnt (sel ys ((lst 0 ys : Nat) : Int))) := by
    rw [sel_snoc_eq, many_snoc _ _ (sel_lt hy _) hx (Nat.lt_of_le_of_lt (sel_len _ _) hl), if_neg (by rw [cnt_zero_iff _ _ hx]; simpa using h)]
  refine ⟨⟨hs.1, fun c z hc' hz => ?_⟩, ⟨hm.1, fun c hc' => ?_⟩, ?_⟩
  · rw [hs.2 c z hc' hz]
    by_cases e : c = lst 0 ys
    · subst e
      rw [sel_snoc_eq]
      by_cases ez : z = x
      · subst ez; simp [h]
      · simp [ez]
    · rw [sel_snoc_ne _ _ _ e]
  · rw [hm.2 c hc']
    by_cases e : c = lst 0 ys
    · subst e; rw [hmany]
    · rw [sel_snoc_ne _ _ _ e]
  · rw [wid_snoc ys x hy hx hl hc, hmany]
    have := wid_ge ys 256 _ hc
    unfold widest; omega

theorem set_getD_B (l : List Bool) (i j : Nat) (z : Bool) (hi : i < l.length) : (l.set i z).getD j false = if i = j then z else l.getD j false := by
  by_cases h : i = j
  · subst h; rw [if_pos rfl, List.getD_eq_getElem?_getD, List.getElem?_set_self hi]; rfl
  · rw [if_neg h, List.getD_eq_getElem?_getD, List.getElem?_set_ne h, ← List.getD_eq_getElem?_getD]

/-- a pair that is new -/
theorem seen_new {ys : List Nat} {x : Nat} {vs : List Bool} {ms : List Int} (hs : SeenOk ys vs) (hm : ManyOk ys ms) (hy : ∀ y ∈ ys, y < 256) (hx : x < 256) (hl : ys.length < 1073741824)
    (h : vs.getD (lst 0 ys * 256 + x) false = false) : SeenOk (ys ++ [x]) (vs.set (lst 0 ys * 256 + x) true) ∧ ManyOk (ys ++ [x]) (ms.set (lst 0 ys) (ms.getD (lst 0 ys) 0 + 1)) ∧ ((widest (ys ++ [x]) : Nat) : Int) = max ((widest ys : Nat) : Int) (ms.getD (lst 0 ys) 0 + 1) := by
  have hc : lst 0 ys < 256 := lst_lt 0 ys (by omega) hy
  rw [hs.2 _ _ hc hx, decide_eq_false_iff_not] at h
  have hmany : manyI (cnt (sel (ys ++ [x]) ((lst 0 ys : Nat) : Int))) = manyI (cnt (sel ys ((lst 0 ys : Nat) : Int))) + 1 := by
    rw [sel_snoc_eq, many_snoc _ _ (sel_lt hy _) hx (Nat.lt_of_le_of_lt (sel_len _ _) hl), if_pos (by rw [cnt_zero_iff _ _ hx]; exact h)]
  refine ⟨⟨by rw [List.length_set]; exact hs.1, fun c z hc' hz => ?_⟩, ⟨by rw [List.length_set]; exact hm.1, fun c hc' => ?_⟩, ?_⟩
  · rw [set_getD_B _ _ _ _ (by rw [hs.1]; omega), hs.2 c z hc' hz]
    by_cases e : c = lst 0 ys
    · subst e
      rw [sel_snoc_eq]
      by_cases ez : z = x
      · subst ez; simp
      · rw [if_neg (by omega)]; simp [ez]
    · rw [sel_snoc_ne _ _ _ e, if_neg (by omega)]
  · rw [set_getD _ _ _ _ (by rw [hm.1]; exact hc)]
    by_cases e : c = lst 0 ys
    · subst e; rw [if_pos rfl, hmany, hm.2 _ hc]; omega
    · rw [if_neg (fun h => e h.symm), sel_snoc_ne _ _ _ e, hm.2 c hc']
  · rw [wid_snoc ys x hy hx hl hc, hmany, hm.2 _ hc]; omega

theorem ManyOk.bound {ys : List Nat} {ms : List Int} (h : ManyOk ys ms) (c : Nat) (hc : c < 256) : 0 ≤ ms.getD c 0 ∧ ms.getD c 0 ≤ 256 := by
  rw [h.2 c hc]
  have := manyI_le (cnt (sel ys (c : Int)))
  omega

/-- twice, and again -/
def dbl : Nat → List Value → List Value
  | 0, l => l
  | n + 1, l => dbl n l ++ dbl n l
theorem dbl_rep (n m : Nat) (v : Value) : dbl n (List.replicate m v) = List.replicate (2 ^ n * m) v := by
  induction n with
  | zero => simp [dbl]
  | succ n ih => rw [dbl, ih, List.replicate_append_replicate, Nat.pow_succ]; congr 1; rw [Nat.mul_assoc, Nat.mul_comm 2 m, ← Nat.mul_assoc]; omega

end Go.Proofs.Ytjddaneafmdeeaa
