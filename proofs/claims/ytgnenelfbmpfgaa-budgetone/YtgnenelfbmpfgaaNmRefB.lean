/- What the document's own Counts (puncheonref08) tells. -/
import Derived.Test.YtgnenelfbmpfgaaNmRefA
namespace Go.Proofs.Ytgnenelfbmpfgaa
open Go.RowKit

/-- filled up to the k-th -/
def fillI (f : Nat → Int) (k : Nat) : List Int := (List.range 256).map fun i => if i < k then f i else 0
def fillB (f : Nat → Bool) (k : Nat) : List Bool := (List.range 256).map fun i => if i < k then f i else false
theorem fillI_length (f : Nat → Int) (k : Nat) : (fillI f k).length = 256 := by simp [fillI]
theorem fillB_length (f : Nat → Bool) (k : Nat) : (fillB f k).length = 256 := by simp [fillB]
theorem fillI_getD (f : Nat → Int) (k i : Nat) (h : i < 256) : (fillI f k).getD i 0 = if i < k then f i else 0 := by simp [fillI, List.getD_eq_getElem?_getD, h]
theorem fillB_getD (f : Nat → Bool) (k i : Nat) (h : i < 256) : (fillB f k).getD i false = if i < k then f i else false := by simp [fillB, List.getD_eq_getElem?_getD, h]
theorem extB_getD {a b : List Bool} (hl : a.length = b.length) (h : ∀ k, k < a.length → a.getD k false = b.getD k false) : a = b := by
  apply List.ext_getElem hl
  intro i h1 h2
  have := h i h1
  rwa [List.getD_eq_getElem?_getD, List.getD_eq_getElem?_getD, List.getElem?_eq_getElem h1, List.getElem?_eq_getElem h2] at this
theorem fillI_zero (f : Nat → Int) : fillI f 0 = List.replicate 256 0 := by
  apply ext_getD (by rw [fillI_length, List.length_replicate])
  intro k hk
  rw [fillI_length] at hk
  rw [fillI_getD _ _ _ hk, if_neg (by omega), List.getD_eq_getElem?_getD, List.getElem?_replicate, if_pos hk]; rfl
theorem fillB_zero (f : Nat → Bool) : fillB f 0 = List.replicate 256 false := by
  apply extB_getD (by rw [fillB_length, List.length_replicate])
  intro k hk
  rw [fillB_length] at hk
  rw [fillB_getD _ _ _ hk, if_neg (by omega), List.getD_eq_getElem?_getD, List.getElem?_replicate, if_pos hk]; rfl
theorem fillI_set (f : Nat → Int) (k : Nat) (hk : k < 256) : (fillI f k).set k (f k) = fillI f (k + 1) := by
  apply ext_getD (by rw [List.length_set, fillI_length, fillI_length])
  intro u hu
  rw [List.length_set, fillI_length] at hu
  rw [fillI_getD _ _ _ hu, iset_getD _ _ _ _ (by rw [fillI_length]; exact hk), fillI_getD _ _ _ hu]
  by_cases h : k = u
  · subst h; rw [if_pos rfl, if_pos (by omega)]
  · rw [if_neg h]
    by_cases h2 : u < k
    · rw [if_pos h2, if_pos (by omega)]
    · rw [if_neg h2, if_neg (by omega)]
theorem fillB_set (f : Nat → Bool) (k : Nat) (hk : k < 256) : (fillB f k).set k (f k) = fillB f (k + 1) := by
  apply extB_getD (by rw [List.length_set, fillB_length, fillB_length])
  intro u hu
  rw [List.length_set, fillB_length] at hu
  rw [fillB_getD _ _ _ hu, bset_getD _ _ _ _ (by rw [fillB_length]; exact hk), fillB_getD _ _ _ hu]
  by_cases h : k = u
  · subst h; rw [if_pos rfl, if_pos (by omega)]
  · rw [if_neg h]
    by_cases h2 : u < k
    · rw [if_pos h2, if_pos (by omega)]
    · rw [if_neg h2, if_neg (by omega)]
theorem fillB_skip (f : Nat → Bool) (k : Nat) (hk : k < 256) (hf : f k = false) : fillB f k = fillB f (k + 1) := by
  rw [← fillB_set f k hk, hf]
  apply extB_getD (by rw [List.length_set])
  intro u hu
  rw [fillB_length] at hu
  rw [bset_getD _ _ _ _ (by rw [fillB_length]; exact hk)]
  by_cases h : k = u
  · subst h; rw [if_pos rfl, fillB_getD _ _ _ hu, if_neg (by omega)]
  · rw [if_neg h]
theorem fillI_all (f : Nat → Int) (l : List Int) (hl : l.length = 256) (h : ∀ s, s < 256 → l.getD s 0 = f s) : fillI f 256 = l := by
  apply ext_getD (by rw [fillI_length, hl])
  intro u hu
  rw [fillI_length] at hu
  rw [fillI_getD _ _ _ hu, if_pos hu, h u hu]
theorem fillB_all (f : Nat → Bool) (l : List Bool) (hl : l.length = 256) (h : ∀ s, s < 256 → l.getD s false = f s) : fillB f 256 = l := by
  apply extB_getD (by rw [fillB_length, hl])
  intro u hu
  rw [fillB_length] at hu
  rw [fillB_getD _ _ _ hu, if_pos hu, h u hu]

theorem setset (l : List Int) (i : Nat) (x y : Int) : (l.set i x).set i y = l.set i y := by simp

/-- a row of bools is made -/
theorem zeros_bl (n : Nat) : (madeCells (Value.bool false).cells (n * 1)).toList = bl (List.replicate n false) := by
  rw [Nat.mul_one]
  apply List.ext_getElem (by simp [madeCells, bl])
  intro i h1 h2
  simp [madeCells, Value.cells, Nat.mod_one, bl]
theorem RowT.of_own {w : World} {base g n : Nat} {hs : List Bool} (h : w.ownsRow base 4 1 (.slice (some ⟨g, 0, none⟩) n n) n (bl hs)) : RowT w g 4 hs := by
  rcases h.2 with ⟨h0, _⟩ | ⟨g', cap, cur, he, _, hg, _, _, hs', ht⟩
  · simp at h0
  · simp only [Value.slice.injEq, Option.some.injEq, Addr.mk.injEq, and_true, true_and] at he
    obtain ⟨rfl, rfl⟩ := he
    have : cur = (bl hs).toArray := by
      apply Array.ext'
      rw [← ht, List.take_of_length_le (by rw [Array.length_toList, hs']; exact Nat.le_refl _)]
    rw [this] at hg
    exact hg
theorem wpList_make_bools {ops : Array Oper} {rest : List Oper} {o : Oper} {a : Act} {w : World} {Q : Exit → Act → World → Prop} (hg : o.guard = none) (l c : Operand) (hop : o.op = Op.makeSlice 26 l c)
    (L C : Int) (n : Nat) (hl : a.eval l = .int .i64 L) (hc : a.eval c = .int .i64 C) (hL : L = (n : Int)) (hC : C = (n : Int)) (hn : n < 100000000000) (Z : List Bool) (hZ : Z = List.replicate n false)
    (hK : ∀ w', RowT w' w.heap.size 4 Z → Chg (fun _ => False) w w' → wpList Try.prog ops Q rest (a.put o.dst (.slice (some ⟨w.heap.size, 0, none⟩) n n)) w') : wpList Try.prog ops Q (o :: rest) a w := by
  obtain ⟨i, hi, hz0, hz1, hz2⟩ := info_parts Try.infoBool
  refine wpList_make_full w hg l c 26 hop w.heap.size 4 i (.bool false) 1 Try.underlying26 hi hz0 hz1 .i64 .i64 L C n hl hc hL hC (by rw [hz2]; omega) (by unfold maxLen; omega) (Nat.le_refl _) ?_
  intro w1 h1 h2
  rw [zeros_bl, ← hZ] at h1
  exact hK w1 (RowT.of_own h1) ((Chg.of_grown h2).mono fun k _ hk => by simp at hk)

/-- whether counts can be normalized to the log r -/
def normOk (c : List Int) (r : Int) : Prop := isRight c ∧ 0 < tot c ∧ 1 ≤ r ∧ r ≤ 12 ∧ (pos c : Int) ≤ ((2 ^ r.toNat : Nat) : Int)
instance normOk_dec (c : List Int) (r : Int) : Decidable (normOk c r) := by unfold normOk; infer_instance
/-- what they are -/
def normR (c : List Int) (r : Int) : List Int := normC c ((2 ^ r.toNat : Nat) : Int)

theorem normOk.fit {c : List Int} {r : Int} (h : normOk c r) : Fit c ((2 ^ r.toNat : Nat) : Int) :=
  ⟨h.1.1, h.1.2.1, h.2.1, by have := Nat.two_pow_pos r.toNat; omega, h.2.2.2.2⟩
theorem pow12 {k : Nat} (h : k ≤ 12) : (2 ^ k : Nat) ≤ 4096 := by
  have := pow_le h
  have : (2 : Nat) ^ 12 = 4096 := by decide
  omega

/-- what Counts tells -/
def NormSays (w : World) (c : List Int) (r : Int) (e : Ending) (w' : World) : Prop :=
  ∃ v', e = .returned (.tuple #[v', .int .i64 (if normOk c r then 0 else 1)]) ∧ (normOk c r → OwnI w' w.heap.size v' (normR c r)) ∧ (¬ normOk c r → RdI w' v' []) ∧ Chg (fun _ => False) w w'

theorem total_pos {c : List Int} : totalI c = 0 ↔ ¬ (isRight c ∧ 0 < tot c) := by
  unfold totalI
  by_cases h : isRight c
  · rw [if_pos h]
    have := tot_nonneg c h.2.1
    constructor
    · rintro h0 ⟨_, h1⟩; omega
    · intro h1
      have : ¬ 0 < tot c := fun h2 => h1 ⟨h, h2⟩
      omega
  · rw [if_neg h]
    exact ⟨fun _ h1 => h h1.1, fun _ => rfl⟩

end Go.Proofs.Ytgnenelfbmpfgaa
