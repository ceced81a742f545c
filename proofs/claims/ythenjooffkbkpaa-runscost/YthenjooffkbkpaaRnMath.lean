/- Plain mathematics of chapter 14: how many zeros. -/
import Derived.Test.YthenjooffkbkpaaBfBack
namespace Go.Proofs.Ythenjooffkbkpaa
open Go

/-- the bits of n: as often as 3 goes into it 3, and then what is left -/
def rnB : Nat → List Bool
  | 0 => bitsOf 0 2
  | 1 => bitsOf 1 2
  | 2 => bitsOf 2 2
  | n + 3 => bitsOf 3 2 ++ rnB n
theorem rnB_small {n : Nat} (h : n < 3) : rnB n = bitsOf n 2 := by
  obtain rfl | rfl | rfl : n = 0 ∨ n = 1 ∨ n = 2 := by omega
  · rfl
  · rfl
  · rfl
theorem rnB_length : ∀ n : Nat, (rnB n).length = 2 * (n / 3) + 2
  | 0 => rfl
  | 1 => rfl
  | 2 => rfl
  | n + 3 => by
    have := rnB_length n
    simp only [rnB, List.length_append, bitsOf_length, this]
    omega
def rnOk (n : Int) : Prop := 0 ≤ n ∧ n ≤ 255
instance (n : Int) : Decidable (rnOk n) := by unfold rnOk; infer_instance
def rnPutB (bs : List Bool) (n : Int) : List Bool := if rnOk n then bs ++ rnB n.toNat else bs
def rnCostN (n : Int) : Nat := if rnOk n then 2 * (n.toNat / 3) + 2 else 0
theorem rnPutB_length (bs : List Bool) (n : Int) : (rnPutB bs n).length = bs.length + rnCostN n := by
  unfold rnPutB rnCostN
  split
  · rw [List.length_append, rnB_length]
  · rfl
theorem rnCost_le (n : Int) : rnCostN n ≤ 172 := by
  unfold rnCostN
  by_cases h : rnOk n
  · rw [if_pos h]; have := h.2; omega
  · rw [if_neg h]; omega
/-- twos of bits are taken and added up -/
def rnGo (xs : List Nat) (most : Nat) : Nat → Nat → Nat → Int × Int × Nat
  | 0, p, _ => (0, 3, p)
  | f + 1, p, acc => if p + 2 ≤ 8 * xs.length then (if most < acc + fv xs p 2 then (0, 13, p + 2) else if fv xs p 2 < 3 then (((acc + fv xs p 2 : Nat) : Int), 0, p + 2) else rnGo xs most f (p + 2) (acc + fv xs p 2)) else (0, 3, p)
def rnTk (xs : List Nat) (p : Nat) (most : Int) : Int × Int × Nat := if rnOk most then rnGo xs most.toNat (4 * xs.length + 1) p 0 else (0, 1, p)

theorem rnGo_le (xs : List Nat) (most : Nat) : ∀ f p acc, p ≤ 8 * xs.length → (rnGo xs most f p acc).2.2 ≤ 8 * xs.length
  | 0, p, acc, h => h
  | f + 1, p, acc, h => by
    simp only [rnGo]
    split
    · split
      · assumption
      · split
        · assumption
        · exact rnGo_le xs most f _ _ (by omega)
    · exact h
theorem rnTk_le (xs : List Nat) (p : Nat) (most : Int) (h : p ≤ 8 * xs.length) : (rnTk xs p most).2.2 ≤ 8 * xs.length := by
  unfold rnTk
  split
  · exact rnGo_le _ _ _ _ _ h
  · exact h

/-- bits at p -/
def atBits (xs : List Nat) (p : Nat) (bs : List Bool) : Prop := ∃ t, (bitsB xs).drop p = bs ++ t
theorem atBits.fit {xs : List Nat} {p : Nat} {bs : List Bool} (h : atBits xs p bs) (h0 : 0 < bs.length) : p + bs.length ≤ 8 * xs.length := by
  obtain ⟨t, ht⟩ := h
  have hl : ((bitsB xs).drop p).length = bs.length + t.length := by rw [ht, List.length_append]
  rw [List.length_drop, bitsB_length] at hl
  omega
theorem atBits.fv {xs : List Nat} {p v n : Nat} {r : List Bool} (h : atBits xs p (bitsOf v n ++ r)) (hv : v < 2 ^ n) : fv xs p n = v := by
  obtain ⟨t, ht⟩ := h
  unfold Go.Proofs.Ythenjooffkbkpaa.fv
  rw [ht, List.append_assoc, List.take_append_of_le_length (by rw [bitsOf_length]; exact Nat.le_refl _), List.take_of_length_le (by rw [bitsOf_length]; exact Nat.le_refl _), val_bitsOf, Nat.mod_eq_of_lt hv]
theorem atBits.next {xs : List Nat} {p v n : Nat} {r : List Bool} (h : atBits xs p (bitsOf v n ++ r)) : atBits xs (p + n) r := by
  obtain ⟨t, ht⟩ := h
  refine ⟨t, ?_⟩
  rw [← List.drop_drop, ht, List.append_assoc, List.drop_left' (bitsOf_length v n)]
/-- what is put is taken -/
theorem rnGo_put (xs : List Nat) (most : Nat) : ∀ (n f p acc : Nat), atBits xs p (rnB n) → acc + n ≤ most → 8 * xs.length < p + 2 * f → rnGo xs most f p acc = (((acc + n : Nat) : Int), 0, p + (rnB n).length) := by
  intro n
  induction n using Nat.strongRecOn with
  | ind n ih =>
    intro f p acc hb hm hf
    have hfit := hb.fit (by rw [rnB_length]; omega)
    rw [rnB_length] at hfit
    obtain ⟨f, rfl⟩ : ∃ f', f = f' + 1 := ⟨f - 1, by omega⟩
    by_cases h3 : n < 3
    · rw [rnB_small h3] at hb ⊢
      have hv := atBits.fv (r := []) (by rw [List.append_nil]; exact hb) (show n < 2 ^ 2 by omega)
      simp only [rnGo]
      rw [if_pos (by omega), hv, if_neg (by omega), if_pos h3, bitsOf_length]
    · obtain ⟨k, rfl⟩ : ∃ k, n = k + 3 := ⟨n - 3, by omega⟩
      have hb' : atBits xs p (bitsOf 3 2 ++ rnB k) := hb
      have hv := hb'.fv (by decide)
      have hn := hb'.next
      have := ih k (by omega) f (p + 2) (acc + 3) hn (by omega) (by omega)
      simp only [rnGo]
      rw [if_pos (by omega), hv, if_neg (by omega), if_neg (by omega), this]
      simp only [rnB, List.length_append, bitsOf_length, Prod.mk.injEq, true_and]
      omega
/-- with less at most it is refused -/
theorem rnGo_less (xs : List Nat) (most : Nat) : ∀ (n f p acc : Nat), atBits xs p (rnB n) → acc ≤ most → most < acc + n → 8 * xs.length < p + 2 * f → (rnGo xs most f p acc).1 = 0 ∧ (rnGo xs most f p acc).2.1 = 13 := by
  intro n
  induction n using Nat.strongRecOn with
  | ind n ih =>
    intro f p acc hb ha hm hf
    have hfit := hb.fit (by rw [rnB_length]; omega)
    rw [rnB_length] at hfit
    obtain ⟨f, rfl⟩ : ∃ f', f = f' + 1 := ⟨f - 1, by omega⟩
    by_cases h3 : n < 3
    · rw [rnB_small h3] at hb
      have hv := atBits.fv (r := []) (by rw [List.append_nil]; exact hb) (show n < 2 ^ 2 by omega)
      simp only [rnGo]
      rw [if_pos (by omega), hv, if_pos (by omega)]
      exact ⟨rfl, rfl⟩
    · obtain ⟨k, rfl⟩ : ∃ k, n = k + 3 := ⟨n - 3, by omega⟩
      have hb' : atBits xs p (bitsOf 3 2 ++ rnB k) := hb
      have hv := hb'.fv (by decide)
      have hn := hb'.next
      simp only [rnGo]
      rw [if_pos (by omega), hv]
      by_cases h4 : most < acc + 3
      · rw [if_pos h4]; exact ⟨rfl, rfl⟩
      · rw [if_neg h4, if_neg (by omega)]
        exact ih k (by omega) f (p + 2) (acc + 3) hn (by omega) (by omega) (by omega)
/-- what is taken, put again, has the same bits -/
theorem rnGo_again (xs : List Nat) (most : Nat) : ∀ (f p acc : Nat), acc ≤ most → (rnGo xs most f p acc).2.1 = 0 →
    ∃ v : Nat, (rnGo xs most f p acc).1 = ((acc + v : Nat) : Int) ∧ acc + v ≤ most ∧ (rnGo xs most f p acc).2.2 ≤ 8 * xs.length ∧ (bitsB xs).take p ++ rnB v = (bitsB xs).take (rnGo xs most f p acc).2.2 := by
  intro f
  induction f with
  | zero => intro p acc ha h; simp [rnGo] at h
  | succ f ih =>
    intro p acc ha h
    simp only [rnGo] at h ⊢
    by_cases h1 : p + 2 ≤ 8 * xs.length
    · rw [if_pos h1] at h ⊢
      by_cases h2 : most < acc + fv xs p 2
      · rw [if_pos h2] at h; simp at h
      · rw [if_neg h2] at h ⊢
        have hlt := fv_lt xs p 2
        have htake : ∀ m, p + m ≤ 8 * xs.length → (bitsB xs).take p ++ bitsOf (fv xs p m) m = (bitsB xs).take (p + m) := fun m hm => by
          have hl : (((bitsB xs).drop p).take m).length = m := by rw [List.length_take, List.length_drop, bitsB_length]; omega
          have hv := bitsOf_val (((bitsB xs).drop p).take m)
          rw [hl] at hv
          unfold fv
          rw [hv, List.take_add]
        by_cases h3 : fv xs p 2 < 3
        · rw [if_pos h3] at h ⊢
          exact ⟨fv xs p 2, rfl, by omega, h1, by rw [rnB_small h3]; exact htake 2 h1⟩
        · rw [if_neg h3] at h ⊢
          have h33 : fv xs p 2 = 3 := by omega
          rw [h33] at h ⊢
          obtain ⟨v, e1, e2, e3, e4⟩ := ih (p + 2) (acc + 3) (by omega) h
          refine ⟨v + 3, by rw [e1]; congr 1; omega, by omega, e3, ?_⟩
          have h2' := htake 2 h1
          rw [h33] at h2'
          rw [← e4, ← h2', List.append_assoc]
          rfl
    · rw [if_neg h1] at h; simp at h
theorem rnGo_err (xs : List Nat) (most : Nat) : ∀ (f p acc : Nat), (rnGo xs most f p acc).2.1 = 0 ∨ ((rnGo xs most f p acc).1 = 0 ∧ ((rnGo xs most f p acc).2.1 = 3 ∨ (rnGo xs most f p acc).2.1 = 13)) := by
  intro f
  induction f with
  | zero => intro p acc; exact .inr ⟨rfl, .inl rfl⟩
  | succ f ih =>
    intro p acc
    simp only [rnGo]
    split
    · split
      · exact .inr ⟨rfl, .inr rfl⟩
      · split
        · exact .inl rfl
        · exact ih _ _
    · exact .inr ⟨rfl, .inl rfl⟩

end Go.Proofs.Ythenjooffkbkpaa
