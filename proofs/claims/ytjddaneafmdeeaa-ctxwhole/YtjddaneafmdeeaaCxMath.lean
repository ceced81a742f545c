/- Plain mathematics of chapter 6: bytes by the byte ahead of each. -/
import Derived.Test.YtjddaneafmdeeaaHsMath
namespace Go.Proofs.Ytjddaneafmdeeaa
open Go

/-- each byte with its context, c being the first one's -/
def prs : Nat → List Nat → List (Nat × Nat)
  | _, [] => []
  | c, x :: r => (c, x) :: prs x r

/-- the last byte; c, if there is none -/
def lst : Nat → List Nat → Nat
  | c, [] => c
  | _, x :: r => lst x r

theorem prs_append (c : Nat) (xs ys : List Nat) : prs c (xs ++ ys) = prs c xs ++ prs (lst c xs) ys := by
  induction xs generalizing c with
  | nil => rfl
  | cons x r ih => simp only [List.cons_append, prs, lst, ih]

theorem prs_snd (c : Nat) (xs : List Nat) : (prs c xs).map (·.2) = xs := by
  induction xs generalizing c with
  | nil => rfl
  | cons x r ih => simp only [prs, List.map_cons, ih]

theorem prs_fst_lt (c : Nat) (xs : List Nat) (hc : c < 256) (hx : ∀ x ∈ xs, x < 256) : ∀ p ∈ prs c xs, p.1 < 256 := by
  induction xs generalizing c with
  | nil => simp [prs]
  | cons x r ih =>
    intro p hp
    simp only [prs, List.mem_cons] at hp
    rcases hp with rfl | hp
    · exact hc
    · exact ih x (hx x (by simp)) (fun y hy => hx y (by simp [hy])) p hp

theorem lst_lt (c : Nat) (xs : List Nat) (hc : c < 256) (hx : ∀ x ∈ xs, x < 256) : lst c xs < 256 := by
  induction xs generalizing c with
  | nil => exact hc
  | cons x r ih => exact ih x (hx x (by simp)) (fun y hy => hx y (by simp [hy]))

theorem lst_take (c : Nat) (xs : List Nat) (k : Nat) (h : k ≤ xs.length) : lst c (xs.take k) = (c :: xs).getD k 0 := by
  induction xs generalizing c k with
  | nil => simp at h; subst h; rfl
  | cons x r ih =>
    cases k with
    | zero => rfl
    | succ k =>
      rw [List.take_succ_cons, lst, ih x k (by simpa using h), List.getD_cons_succ]

theorem lst_last (c : Nat) (xs : List Nat) (h : 0 < xs.length) : lst c xs = xs.getD (xs.length - 1) 0 := by
  have := lst_take c xs xs.length (Nat.le_refl _)
  rw [List.take_length] at this
  rw [this]
  obtain ⟨k, hk⟩ : ∃ k, xs.length = k + 1 := ⟨xs.length - 1, by omega⟩
  rw [hk, List.getD_cons_succ]; rfl

/-- of pairs the bytes whose context is c -/
def selP (P : List (Nat × Nat)) (c : Int) : List Nat := (P.filter fun p => decide ((p.1 : Int) = c)).map (·.2)
/-- all bytes whose context is c -/
def sel (xs : List Nat) (c : Int) : List Nat := selP (prs 0 xs) c

theorem selP_append (P Q : List (Nat × Nat)) (c : Int) : selP (P ++ Q) c = selP P c ++ selP Q c := by simp [selP]
theorem selP_cons (p : Nat × Nat) (P : List (Nat × Nat)) (c : Int) : selP (p :: P) c = (if (p.1 : Int) = c then [p.2] else []) ++ selP P c := by
  unfold selP
  rw [List.filter_cons]
  by_cases h : (p.1 : Int) = c
  · rw [if_pos h, if_pos (decide_eq_true h)]; rfl
  · rw [if_neg h, if_neg (by simp [h])]; rfl

theorem sel_nil (c : Int) : sel [] c = [] := rfl
theorem sel_snoc (xs : List Nat) (x : Nat) (c : Int) : sel (xs ++ [x]) c = sel xs c ++ if ((lst 0 xs : Nat) : Int) = c then [x] else [] := by
  unfold sel
  rw [prs_append, selP_append]
  simp only [prs]
  rw [selP_cons]
  simp [selP]

theorem sel_sub (xs : List Nat) (c : Int) : List.Sublist (sel xs c) xs := by
  have h : List.Sublist ((prs 0 xs).filter fun p => decide ((p.1 : Int) = c)) (prs 0 xs) := List.filter_sublist
  have := h.map (·.2)
  rw [prs_snd] at this
  exact this

theorem sel_lt {xs : List Nat} (hx : ∀ x ∈ xs, x < 256) (c : Int) : ∀ x ∈ sel xs c, x < 256 := fun x h => hx x ((sel_sub xs c).subset h)
theorem sel_len (xs : List Nat) (c : Int) : (sel xs c).length ≤ xs.length := (sel_sub xs c).length_le

theorem sel_out {xs : List Nat} (hx : ∀ x ∈ xs, x < 256) (c : Int) (hc : c < 0 ∨ 255 < c) : sel xs c = [] := by
  unfold sel selP
  rw [List.filter_eq_nil_iff.2, List.map_nil]
  intro p hp
  have := prs_fst_lt 0 xs (by omega) hx p hp
  simp; omega

theorem sel_take_succ (xs : List Nat) (k : Nat) (h : k < xs.length) (c : Int) : sel (xs.take (k + 1)) c = sel (xs.take k) c ++ if (((0 :: xs).getD k 0 : Nat) : Int) = c then [xs.getD k 0] else [] := by
  have ht : xs.take (k + 1) = xs.take k ++ [xs.getD k 0] := by
    rw [List.take_succ_eq_append_getElem h, List.getD_eq_getElem?_getD, List.getElem?_eq_getElem h]; rfl
  rw [ht, sel_snoc, lst_take 0 xs k (by omega)]

/-- the context of the byte at i; -1, if there is none -/
def atI (xs : List Nat) (i : Int) : Int := if 0 ≤ i ∧ i < xs.length then (((0 :: xs).getD i.toNat 0 : Nat) : Int) else -1
theorem atI_nat (xs : List Nat) (k : Nat) (h : k < xs.length) : atI xs (k : Int) = (((0 :: xs).getD k 0 : Nat) : Int) := by
  unfold atI; rw [if_pos (by omega)]; simp
theorem atI_out (xs : List Nat) (i : Int) (h : i < 0 ∨ (xs.length : Int) ≤ i) : atI xs i = -1 := by
  unfold atI; rw [if_neg (by omega)]

/-- contexts below k that some byte has -/
def presTo (xs : List Nat) (k : Nat) : List Int := ((List.range k).filter fun c : Nat => decide (0 < (sel xs (c : Int)).length)).map fun c : Nat => (c : Int)
def pres (xs : List Nat) : List Int := presTo xs 256
theorem presTo_succ (xs : List Nat) (k : Nat) : presTo xs (k + 1) = presTo xs k ++ if 0 < (sel xs (k : Int)).length then [(k : Int)] else [] := by
  unfold presTo
  rw [List.range_succ, List.filter_append, List.map_append]
  congr 1
  by_cases h : 0 < (sel xs (k : Int)).length
  · rw [if_pos h]; simp [h]
  · rw [if_neg h]; simp [h]
theorem presTo_length (xs : List Nat) (k : Nat) : (presTo xs k).length ≤ k := by
  unfold presTo
  rw [List.length_map]
  exact Nat.le_trans (List.length_filter_le _ _) (by simp)
theorem pres_mem {xs : List Nat} {c : Int} : c ∈ pres xs ↔ 0 ≤ c ∧ c < 256 ∧ 0 < (sel xs c).length := by
  unfold pres presTo
  simp only [List.mem_map, List.mem_filter, List.mem_range, decide_eq_true_eq]
  constructor
  · rintro ⟨k, ⟨h1, h2⟩, rfl⟩
    exact ⟨by omega, by omega, h2⟩
  · rintro ⟨h1, h2, h3⟩
    refine ⟨c.toNat, ⟨by omega, ?_⟩, by omega⟩
    rw [Int.toNat_of_nonneg h1]; exact h3
theorem pres_rise (xs : List Nat) : (pres xs).Pairwise (· < ·) := by
  unfold pres presTo
  rw [List.pairwise_map]
  refine List.Pairwise.imp (fun h => by omega) (List.Pairwise.filter _ List.pairwise_lt_range)
theorem pres_step (xs : List Nat) (i : Nat) (h0 : 0 < i) (hi : i < (pres xs).length) : (pres xs).getD (i - 1) 0 < (pres xs).getD i 0 := by
  have := List.pairwise_iff_getElem.1 (pres_rise xs) (i - 1) i (by omega) hi (by omega)
  rwa [List.getD_eq_getElem?_getD, List.getD_eq_getElem?_getD, List.getElem?_eq_getElem (by omega), List.getElem?_eq_getElem hi]

/-- the greatest number of unlike bytes that a context below k has -/
def wid (xs : List Nat) : Nat → Nat
  | 0 => 0
  | k + 1 => max (wid xs k) (manyI (cnt (sel xs (k : Int))))
def widest (xs : List Nat) : Nat := wid xs 256
theorem wid_le (xs : List Nat) (k : Nat) : wid xs k ≤ 256 := by
  induction k with
  | zero => simp [wid]
  | succ k ih => have := manyI_le (cnt (sel xs (k : Int))); simp only [wid]; omega
theorem wid_ge (xs : List Nat) (k c : Nat) (h : c < k) : manyI (cnt (sel xs (c : Int))) ≤ wid xs k := by
  induction k with
  | zero => omega
  | succ k ih =>
    simp only [wid]
    by_cases hc : c = k
    · subst hc; omega
    · have := ih (by omega); omega
theorem wid_bound (xs : List Nat) (k m : Nat) (h : ∀ c, c < k → manyI (cnt (sel xs ((c : Nat) : Int))) ≤ m) : wid xs k ≤ m := by
  induction k with
  | zero => simp [wid]
  | succ k ih =>
    have h1 := ih (fun c hc => h c (by omega))
    have h2 := h k (by omega)
    simp only [wid]; omega

theorem pos_mono : ∀ (a b : List Int), a.length = b.length → (∀ k, k < a.length → 0 < a.getD k 0 → 0 < b.getD k 0) → pos a ≤ pos b
  | [], [], _, _ => by simp [pos]
  | [], _ :: _, h, _ => by simp at h
  | _ :: _, [], h, _ => by simp at h
  | x :: a, y :: b, h, hk => by
    have ih := pos_mono a b (by simpa using h) (fun k hk1 hk2 => by have := hk (k + 1) (by simpa using hk1); simp only [List.getD_cons_succ] at this; exact this hk2)
    have h0 := hk 0 (by simp)
    simp only [List.getD_cons_zero] at h0
    simp only [pos]
    by_cases hx : 0 < x
    · rw [if_pos hx, if_pos (h0 hx)]; omega
    · rw [if_neg hx]; omega

theorem many_mono (xs ys : List Nat) (h : ∀ v, xs.count v ≤ ys.count v) (hx : ∀ x ∈ xs, x < 256) (hy : ∀ x ∈ ys, x < 256) (hl : xs.length ≤ 1073741824) (hl2 : ys.length ≤ 1073741824) : manyI (cnt xs) ≤ manyI (cnt ys) := by
  unfold manyI
  rw [if_pos (cnt_right xs hx hl), if_pos (cnt_right ys hy hl2)]
  refine pos_mono _ _ (by rw [cnt_length, cnt_length]) fun k hk h0 => ?_
  rw [cnt_length] at hk
  rw [cnt_getD _ _ hk] at h0 ⊢
  have := h k
  omega

theorem widest_top (xs : List Nat) (hx : ∀ x ∈ xs, x < 256) (hl : xs.length ≤ 1073741824) : widest xs ≤ manyI (cnt xs) :=
  wid_bound xs 256 _ fun c _ => many_mono _ _ (fun v => (sel_sub xs (c : Int)).count_le v) (sel_lt hx _) hx (Nat.le_trans (sel_len xs _) hl) hl

theorem pos_zero_of (cs : List Int) (h : pos cs = 0) : ∀ c ∈ cs, ¬ 0 < c := by
  induction cs with
  | nil => simp
  | cons x r ih =>
    simp only [pos] at h
    intro c hc
    rcases List.mem_cons.1 hc with rfl | hc
    · intro h0; rw [if_pos h0] at h; omega
    · exact ih (by omega) c hc

theorem many_pos (xs : List Nat) (x : Nat) (hm : x ∈ xs) (hx : ∀ x ∈ xs, x < 256) (hl : xs.length ≤ 1073741824) : 0 < manyI (cnt xs) := by
  unfold manyI
  rw [if_pos (cnt_right xs hx hl)]
  rcases Nat.eq_zero_or_pos (pos (cnt xs)) with h | h
  · have h2 := pos_zero_of _ h _ (getD_mem (cs := cnt xs) (k := x) (by rw [cnt_length]; exact hx x hm))
    rw [cnt_getD _ _ (hx x hm)] at h2
    have := List.count_pos_iff.2 hm
    omega
  · exact h

theorem many_nil : manyI (cnt []) = 0 := by decide +kernel

theorem widest_pos (xs : List Nat) (hx : ∀ x ∈ xs, x < 256) (hl : xs.length ≤ 1073741824) : 0 < widest xs ↔ 0 < xs.length := by
  constructor
  · intro h
    cases xs with
    | nil =>
      have : widest [] ≤ 0 := wid_bound [] 256 0 fun c _ => by rw [sel_nil, many_nil]; exact Nat.le_refl _
      omega
    | cons x r => simp
  · intro h
    cases xs with
    | nil => simp at h
    | cons x r =>
      have hs : x ∈ sel (x :: r) ((0 : Nat) : Int) := by unfold sel; simp only [prs]; rw [selP_cons]; simp
      have h1 := many_pos (sel (x :: r) ((0 : Nat) : Int)) x hs (sel_lt hx _) (Nat.le_trans (sel_len _ _) hl)
      have h2 := wid_ge (x :: r) 256 0 (by omega)
      unfold widest; omega

/-- one byte more -/
theorem sel_more (xs : List Nat) (v : Nat) (c : Int) (hv : v < 256) : cnt (sel (xs ++ [v]) c) = if ((lst 0 xs : Nat) : Int) = c then (cnt (sel xs c)).set v ((cnt (sel xs c)).getD v 0 + 1) else cnt (sel xs c) := by
  rw [sel_snoc]
  by_cases h : ((lst 0 xs : Nat) : Int) = c
  · rw [if_pos h, if_pos h, cnt_snoc _ _ hv]
  · rw [if_neg h, if_neg h, List.append_nil]

theorem snoc_lt {xs : List Nat} {v : Nat} (hx : ∀ x ∈ xs, x < 256) (hv : v < 256) : ∀ x ∈ xs ++ [v], x < 256 := fun x h => by
  rcases List.mem_append.1 h with h | h
  · exact hx x h
  · simp at h; omega

theorem many_more (xs : List Nat) (v : Nat) (c : Int) (hx : ∀ x ∈ xs, x < 256) (hv : v < 256) (hl : xs.length < 1073741824) : manyI (cnt (sel xs c)) ≤ manyI (cnt (sel (xs ++ [v]) c)) ∧ manyI (cnt (sel (xs ++ [v]) c)) ≤ manyI (cnt (sel xs c)) + 1 := by
  rw [sel_snoc]
  by_cases h : ((lst 0 xs : Nat) : Int) = c
  · rw [if_pos h]
    have := many_snoc (sel xs c) v (sel_lt hx c) hv (Nat.lt_of_le_of_lt (sel_len xs c) hl)
    rw [this]
    split <;> omega
  · rw [if_neg h, List.append_nil]; omega

theorem wid_more (xs : List Nat) (v : Nat) (hx : ∀ x ∈ xs, x < 256) (hv : v < 256) (hl : xs.length < 1073741824) (k : Nat) : wid xs k ≤ wid (xs ++ [v]) k ∧ wid (xs ++ [v]) k ≤ wid xs k + 1 := by
  induction k with
  | zero => simp [wid]
  | succ k ih =>
    have := many_more xs v (k : Int) hx hv hl
    simp only [wid]; omega

/-- bytes behind bytes -/
def joinedC (X Y : List Int) (b0 last : Nat) (c : Nat) : List Int :=
  let w0 := addL X Y
  let w1 := if c = 0 then w0.set b0 (w0.getD b0 0 - 1) else w0
  if c = last then w1.set b0 (w1.getD b0 0 + 1) else w1

theorem set_getD (l : List Int) (i j : Nat) (z : Int) (hi : i < l.length) : (l.set i z).getD j 0 = if i = j then z else l.getD j 0 := by
  by_cases h : i = j
  · subst h; rw [if_pos rfl, List.getD_eq_getElem?_getD, List.getElem?_set_self hi]; rfl
  · rw [if_neg h, List.getD_eq_getElem?_getD, List.getElem?_set_ne h, ← List.getD_eq_getElem?_getD]

theorem count_opt (p : Prop) [Decidable p] (b v : Nat) : ((List.count v (if p then [b] else []) : Nat) : Int) = if p ∧ b = v then 1 else 0 := by
  by_cases h : p
  · rw [if_pos h]
    by_cases hb : b = v
    · subst hb; rw [if_pos ⟨h, rfl⟩]; simp
    · rw [if_neg (by simp [hb])]
      have : List.count v [b] = 0 := by rw [List.count_eq_zero]; simp; omega
      rw [this]; rfl
  · rw [if_neg h, if_neg (by simp [h])]; rfl

theorem sel_joins (a b : List Nat) (c : Nat) (ha : 0 < a.length) (hb : 0 < b.length) (hx : ∀ x ∈ b, x < 256) :
    cnt (sel (a ++ b) (c : Int)) = joinedC (cnt (sel a (c : Int))) (cnt (sel b (c : Int))) (b.getD 0 0) (a.getD (a.length - 1) 0) c := by
  cases b with
  | nil => simp at hb
  | cons b0 r =>
    have hb0 : b0 < 256 := hx b0 (by simp)
    rw [← lst_last 0 a ha, List.getD_cons_zero]
    have e1 : sel (a ++ b0 :: r) (c : Int) = sel a (c : Int) ++ ((if ((lst 0 a : Nat) : Int) = (c : Int) then [b0] else []) ++ selP (prs b0 r) (c : Int)) := by
      unfold sel
      rw [prs_append, selP_append]
      simp only [prs]
      rw [selP_cons]
    have e2 : sel (b0 :: r) (c : Int) = (if ((0 : Nat) : Int) = (c : Int) then [b0] else []) ++ selP (prs b0 r) (c : Int) := by
      unfold sel
      simp only [prs]
      rw [selP_cons]
    generalize lst 0 a = L at *
    generalize hA : sel a (c : Int) = A at *
    generalize hT : selP (prs b0 r) (c : Int) = T at *
    rw [e1, e2]
    have hl0 : (addL (cnt A) (cnt ((if ((0 : Nat) : Int) = (c : Int) then [b0] else []) ++ T))).length = 256 := by rw [addL_length _ _ (by rw [cnt_length, cnt_length]), cnt_length]
    unfold joinedC
    apply ext_getD
    · rw [cnt_length]
      simp only
      split <;> split <;> simp only [List.length_set, hl0]
    · intro v hv
      rw [cnt_length] at hv
      have g0 : ∀ u, u < 256 → (addL (cnt A) (cnt ((if ((0 : Nat) : Int) = (c : Int) then [b0] else []) ++ T))).getD u 0 = (A.count u : Int) + ((if ((0 : Nat) : Int) = (c : Int) ∧ b0 = u then 1 else 0) + (T.count u : Int)) := by
        intro u hu
        rw [addL_getD _ _ u (by rw [cnt_length]; exact hu) (by rw [cnt_length]; exact hu), cnt_getD _ _ hu, cnt_getD _ _ hu, List.count_append, Int.natCast_add, count_opt]
      rw [cnt_getD _ _ hv, List.count_append, List.count_append, Int.natCast_add, Int.natCast_add, count_opt]
      simp only
      generalize hw : addL (cnt A) (cnt ((if ((0 : Nat) : Int) = (c : Int) then [b0] else []) ++ T)) = w0 at *
      by_cases h0 : c = 0 <;> by_cases hL : c = L <;> by_cases hbv : b0 = v
      all_goals
        simp only [h0, hL, if_true, if_false]
        first
          | rw [set_getD _ _ _ _ (by rw [List.length_set, hl0]; exact hb0), set_getD _ _ _ _ (by rw [hl0]; exact hb0), set_getD _ _ _ _ (by rw [hl0]; exact hb0)]
          | rw [set_getD _ _ _ _ (by rw [hl0]; exact hb0)]
          | skip
        simp only [g0 v hv, g0 b0 hb0]
        subst_vars
        simp_all
        try omega

end Go.Proofs.Ytjddaneafmdeeaa
