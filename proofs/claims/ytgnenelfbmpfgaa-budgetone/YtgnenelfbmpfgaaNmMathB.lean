/- Plain: normalized counts, and what chapter 8 promises of them. -/
import Derived.Test.YtgnenelfbmpfgaaNmMath
namespace Go.Proofs.Ytgnenelfbmpfgaa
open Go

def q0L (c : List Int) (size n : Int) : List Int := c.map fun x => x * size / n
def qBase (c : List Int) (size n : Int) : List Int := c.map fun x => if x * size / n = 0 then min x 1 else x * size / n
def rest0 (c : List Int) (size n : Int) : List Int := c.map fun x => x * size % n
def had0 (c : List Int) (size n : Int) : List Bool := c.map fun x => decide (x * size / n = 0)
def gaveC (c : List Int) (size n : Int) : List Int := (giveN (rest0 c size n) (size - tot (qBase c size n)).toNat (qBase c size n) (had0 c size n)).1
/-- the counts c, normalized to the sum size -/
def normC (c : List Int) (size : Int) : List Int := takeN c (tot (gaveC c size (tot c)) - size).toNat (gaveC c size (tot c))

/-- how many are raised to 1 -/
def zc (size n : Int) : List Int → Nat
  | [] => 0
  | x :: r => (if 0 < x ∧ x * size / n = 0 then 1 else 0) + zc size n r

theorem sum_parts (size n : Int) (c : List Int) : tot c * size = n * tot (q0L c size n) + tot (rest0 c size n) := by
  induction c with
  | nil => simp [q0L, rest0, tot]
  | cons x r ih =>
    have h := Int.mul_ediv_add_emod (x * size) n
    simp only [q0L, rest0, List.map_cons, tot] at ih ⊢
    rw [Int.add_mul, ih, Int.mul_add]
    omega

theorem base_sum (size n : Int) (c : List Int) (h0 : ∀ x ∈ c, 0 ≤ x) : tot (qBase c size n) = tot (q0L c size n) + (zc size n c : Int) := by
  induction c with
  | nil => simp [qBase, q0L, tot, zc]
  | cons x r ih =>
    have ih := ih (fun y hy => h0 y (by simp [hy]))
    have hx := h0 x (by simp)
    simp only [qBase, q0L, List.map_cons, tot, zc] at ih ⊢
    by_cases hq : x * size / n = 0
    · by_cases hp : 0 < x
      · rw [if_pos hq, if_pos ⟨hp, hq⟩]; omega
      · rw [if_pos hq, if_neg (fun h => hp h.1)]; omega
    · rw [if_neg hq, if_neg (fun h => hq h.2)]; omega

theorem rest_sum (size n : Int) (hn : 0 < n) (c : List Int) (h0 : ∀ x ∈ c, 0 ≤ x) : tot (rest0 c size n) ≤ (n - 1) * ((cntN (rest0 c size n) (had0 c size n) : Int) + (zc size n c : Int)) := by
  induction c with
  | nil => simp [rest0, had0, tot, zc, cntN]
  | cons x r ih =>
    have ih := ih (fun y hy => h0 y (by simp [hy]))
    have hx := h0 x (by simp)
    have e1 := Int.emod_nonneg (x * size) (show n ≠ 0 by omega)
    have e2 := Int.emod_lt_of_pos (x * size) hn
    simp only [rest0, had0, List.map_cons, tot, zc, cntN] at ih ⊢
    generalize hN : cntN (List.map (fun x => x * size % n) r) (List.map (fun x => decide (x * size / n = 0)) r) = N at *
    generalize hZ : zc size n r = Z at *
    have hstep : (n - 1) * ((N : Int) + (Z : Int) + 1) = (n - 1) * ((N : Int) + (Z : Int)) + (n - 1) := by rw [Int.mul_add, Int.mul_one]
    by_cases hq : x * size / n = 0
    · by_cases hp : 0 < x
      · rw [if_pos (show 0 < x ∧ x * size / n = 0 from ⟨hp, hq⟩), if_neg (by simp [hq])]
        rw [show (((0 + N : Nat)) : Int) + ((1 + Z : Nat) : Int) = (N : Int) + (Z : Int) + 1 by omega, hstep]
        omega
      · have : x = 0 := by omega
        subst this
        rw [if_neg (by simp), if_neg (by simp)]
        simp only [Int.zero_mul, Int.zero_emod] at *
        rw [show (((0 + N : Nat)) : Int) + ((0 + Z : Nat) : Int) = (N : Int) + (Z : Int) by omega]
        omega
    · rw [if_neg (show ¬ (0 < x ∧ x * size / n = 0) from fun h => hq h.2)]
      by_cases hr : 0 < x * size % n
      · rw [if_pos ⟨by simp [hq], hr⟩]
        rw [show (((1 + N : Nat)) : Int) + ((0 + Z : Nat) : Int) = (N : Int) + (Z : Int) + 1 by omega, hstep]
        omega
      · rw [if_neg (fun h => hr h.2)]
        rw [show (((0 + N : Nat)) : Int) + ((0 + Z : Nat) : Int) = (N : Int) + (Z : Int) by omega]
        omega

theorem give_room {c : List Int} {size n : Int} (h0 : ∀ x ∈ c, 0 ≤ x) (hn : tot c = n) (hn0 : 0 < n) : (size - tot (qBase c size n)).toNat ≤ cntN (rest0 c size n) (had0 c size n) := by
  have h1 := sum_parts size n c
  have h2 := base_sum size n c h0
  have h3 := rest_sum size n hn0 c h0
  rw [hn] at h1
  generalize cntN (rest0 c size n) (had0 c size n) = N at *
  generalize zc size n c = Z at *
  generalize tot (qBase c size n) = B at *
  generalize tot (q0L c size n) = Q at *
  generalize tot (rest0 c size n) = R at *
  rcases Nat.lt_or_ge N (size - B).toNat with hlt | hge
  · exfalso
    have hA : (N : Int) + Z ≤ size - Q - 1 := by omega
    have hR : R = n * (size - Q) := by rw [Int.mul_sub]; omega
    have h4 : (n - 1) * ((N : Int) + Z) ≤ (n - 1) * (size - Q - 1) := Int.mul_le_mul_of_nonneg_left hA (by omega)
    have h5 : (n - 1) * (size - Q - 1) = n * (size - Q) - n - (size - Q) + 1 := by
      rw [Int.sub_mul, Int.mul_sub n (size - Q) 1, Int.mul_one, Int.one_mul]; omega
    omega
  · exact hge

theorem mapI_getD (c : List Int) (f : Int → Int) (s : Nat) (h : s < c.length) : (c.map f).getD s 0 = f (c.getD s 0) := by
  simp [List.getD_eq_getElem?_getD, List.getElem?_map, List.getElem?_eq_getElem h]
theorem mapB_getD (c : List Int) (f : Int → Bool) (s : Nat) (h : s < c.length) : (c.map f).getD s false = f (c.getD s 0) := by
  simp [List.getD_eq_getElem?_getD, List.getElem?_map, List.getElem?_eq_getElem h]

/-- counts that can be normalized to the sum size -/
structure Fit (c : List Int) (size : Int) : Prop where
  len : c.length = 256
  low : ∀ x ∈ c, 0 ≤ x
  some : 0 < tot c
  sz : 0 < size
  many : (pos c : Int) ≤ size

theorem Fit.at {c : List Int} {size : Int} (h : Fit c size) (s : Nat) (hs : s < 256) : 0 ≤ c.getD s 0 := h.low _ (getD_mem (by rw [h.len]; exact hs))

theorem Fit.gave {c : List Int} {size : Int} (h : Fit c size) : Gave (rest0 c size (tot c)) (qBase c size (tot c)) (had0 c size (tot c)) (size - tot (qBase c size (tot c))).toNat (giveN (rest0 c size (tot c)) (size - tot (qBase c size (tot c))).toNat (qBase c size (tot c)) (had0 c size (tot c))) :=
  Go.Proofs.Ytgnenelfbmpfgaa.gave (by simp [rest0, h.len]) (by simp [qBase, h.len]) (by simp [had0, h.len]) _ (give_room h.low rfl h.some)

theorem div_parts (x size n : Int) (hn : 0 < n) (hx : 0 ≤ x) (hs : 0 < size) : 0 ≤ x * size / n ∧ n * (x * size / n) + x * size % n = x * size ∧ 0 ≤ x * size % n ∧ x * size % n < n ∧ 0 ≤ x * size :=
  have hp : 0 ≤ x * size := Int.mul_nonneg hx (by omega)
  ⟨Int.ediv_nonneg hp (by omega), Int.mul_ediv_add_emod _ _, Int.emod_nonneg _ (by omega), Int.emod_lt_of_pos _ hn, hp⟩

theorem base_at {c : List Int} {size n : Int} (s : Nat) (hs : s < c.length) : (qBase c size n).getD s 0 = if c.getD s 0 * size / n = 0 then min (c.getD s 0) 1 else c.getD s 0 * size / n := by
  unfold qBase; rw [mapI_getD c _ s hs]
theorem rest_at {c : List Int} {size n : Int} (s : Nat) (hs : s < c.length) : (rest0 c size n).getD s 0 = c.getD s 0 * size % n := by
  unfold rest0; rw [mapI_getD c _ s hs]
theorem had_at {c : List Int} {size n : Int} (s : Nat) (hs : s < c.length) : (had0 c size n).getD s false = decide (c.getD s 0 * size / n = 0) := by
  unfold had0; rw [mapB_getD c _ s hs]

/-- behind the gifts: a count, and what it was -/
theorem Fit.given {c : List Int} {size : Int} (h : Fit c size) (s : Nat) (hs : s < 256) :
    ((gaveC c size (tot c)).getD s 0 = 0 ∧ c.getD s 0 = 0) ∨ ((gaveC c size (tot c)).getD s 0 = 1 ∧ 0 < c.getD s 0 ∧ c.getD s 0 * size / tot c = 0) ∨
    (0 < c.getD s 0 ∧ 0 < c.getD s 0 * size / tot c ∧ ((gaveC c size (tot c)).getD s 0 = c.getD s 0 * size / tot c ∨ ((gaveC c size (tot c)).getD s 0 = c.getD s 0 * size / tot c + 1 ∧ 0 < c.getD s 0 * size % tot c))) := by
  have g := h.gave
  have hl : s < c.length := by rw [h.len]; exact hs
  have hv := g.val s hs
  have hso := g.some s hs
  rw [base_at s hl, had_at s hl] at hv
  rw [had_at s hl, rest_at s hl] at hso
  have hx := h.at s hs
  obtain ⟨d1, d2, d3, d4, d5⟩ := div_parts (c.getD s 0) size (tot c) h.some hx h.sz
  unfold gaveC
  generalize giveN (rest0 c size (tot c)) (size - tot (qBase c size (tot c))).toNat (qBase c size (tot c)) (had0 c size (tot c)) = p at *
  by_cases hq : c.getD s 0 * size / tot c = 0
  · rw [if_pos hq, if_neg (fun hh => by rw [decide_eq_true hq] at hh; exact Bool.noConfusion hh.1)] at hv
    by_cases hc0 : c.getD s 0 = 0
    · left; exact ⟨by rw [hv]; omega, hc0⟩
    · right; left; exact ⟨by rw [hv]; omega, by omega, hq⟩
  · right; right
    have hcp : 0 < c.getD s 0 := by
      rcases Int.lt_or_eq_of_le hx with h1 | h1
      · exact h1
      · rw [← h1] at hq; simp at hq
    refine ⟨hcp, by omega, ?_⟩
    rw [if_neg hq] at hv
    cases hp2 : p.2.getD s false with
    | false => left; rw [if_neg (fun hh => by rw [hp2] at hh; exact Bool.noConfusion hh.2)] at hv; omega
    | true =>
      right
      rw [if_pos ⟨decide_eq_false hq, hp2⟩] at hv
      exact ⟨hv, hso (decide_eq_false hq) hp2⟩

theorem div_mono {x y size n : Int} (hn : 0 < n) (hs : 0 < size) (h : x ≤ y) : x * size / n ≤ y * size / n :=
  Int.ediv_le_ediv hn (Int.mul_le_mul_of_nonneg_right h (by omega))

theorem Fit.givenOrder {c : List Int} {size : Int} (h : Fit c size) (a b : Nat) (ha : a < 256) (hb : b < 256) (hab : c.getD b 0 < c.getD a 0) : (gaveC c size (tot c)).getD b 0 ≤ (gaveC c size (tot c)).getD a 0 := by
  have ga := h.given a ha
  have gb := h.given b hb
  have hm := div_mono (n := tot c) h.some h.sz (Int.le_of_lt hab)
  have hxa := h.at a ha
  have hxb := h.at b hb
  by_cases hq : c.getD b 0 * size / tot c = c.getD a 0 * size / tot c ∧ 0 < c.getD b 0 * size / tot c
  · -- like quotients: who has more left is first
    have hla : a < c.length := by rw [h.len]; exact ha
    have hlb : b < c.length := by rw [h.len]; exact hb
    have g := h.gave
    have hva := g.val a ha
    have hvb := g.val b hb
    have hfi := g.first b a hb ha
    rw [base_at a hla, had_at a hla] at hva
    rw [base_at b hlb, had_at b hlb] at hvb
    rw [had_at b hlb, rest_at a hla, rest_at b hlb] at hfi
    obtain ⟨a1, a2, a3, a4, a5⟩ := div_parts (c.getD a 0) size (tot c) h.some hxa h.sz
    obtain ⟨b1, b2, b3, b4, b5⟩ := div_parts (c.getD b 0) size (tot c) h.some hxb h.sz
    have hlt : c.getD b 0 * size < c.getD a 0 * size := Int.mul_lt_mul_of_pos_right hab h.sz
    unfold gaveC
    generalize giveN (rest0 c size (tot c)) (size - tot (qBase c size (tot c))).toNat (qBase c size (tot c)) (had0 c size (tot c)) = p at *
    rw [if_neg (by omega)] at hva hvb
    rw [hva, hvb]
    cases hpb : p.2.getD b false with
    | false => rw [if_neg (show ¬ (_ ∧ false = true) from fun hh => Bool.noConfusion hh.2)]; split <;> omega
    | true =>
      cases hpa : p.2.getD a false with
      | true =>
        rw [if_pos ⟨decide_eq_false (by omega), rfl⟩, if_pos ⟨decide_eq_false (by omega), rfl⟩]; omega
      | false =>
        exfalso
        have := hfi (decide_eq_false (by omega)) hpb hpa
        rw [hq.1] at b2
        rcases this with h1 | h1 <;> omega
  · rcases ga with ⟨ga, ga'⟩ | ⟨ga, ga', ga''⟩ | ⟨ga, ga', ga''⟩ <;> rcases gb with ⟨gb, gb'⟩ | ⟨gb, gb', gb''⟩ | ⟨gb, gb', gb''⟩ <;> omega

theorem Fit.took0 {c : List Int} {size : Int} (h : Fit c size) : Took c (gaveC c size (tot c)) 0 (gaveC c size (tot c)) := by
  refine ⟨h.gave.len1, by simp, fun s hs => ?_, fun s _ => Int.le_refl _, fun a b ha hb hab => h.givenOrder a b ha hb hab⟩
  have := h.given s hs
  rcases this with ⟨g, g'⟩ | ⟨g, g', _⟩ | ⟨g, g', g''⟩ <;> omega

theorem Fit.gaveSum {c : List Int} {size : Int} (h : Fit c size) : tot (gaveC c size (tot c)) = max size (tot (qBase c size (tot c))) := by
  have := h.gave.sum
  unfold gaveC
  rw [this]; omega

theorem Fit.took {c : List Int} {size : Int} (h : Fit c size) : Took c (gaveC c size (tot c)) (tot (gaveC c size (tot c)) - size).toNat (normC c size) := by
  have hg := h.gaveSum
  have hm := h.many
  exact Go.Proofs.Ytgnenelfbmpfgaa.took h.len h.took0 _ (by omega)

theorem norm_len {c : List Int} {size : Int} (h : Fit c size) : (normC c size).length = 256 := h.took.len
theorem norm_sum {c : List Int} {size : Int} (h : Fit c size) : tot (normC c size) = size := by
  have := h.took.sum
  have := h.gaveSum
  omega
theorem norm_pos {c : List Int} {size : Int} (h : Fit c size) (s : Nat) (hs : s < 256) : 0 ≤ (normC c size).getD s 0 ∧ (0 < (normC c size).getD s 0 ↔ 0 < c.getD s 0) := h.took.low s hs
theorem norm_order {c : List Int} {size : Int} (h : Fit c size) (a b : Nat) (ha : a < 256) (hb : b < 256) (hab : c.getD b 0 < c.getD a 0) : (normC c size).getD b 0 ≤ (normC c size).getD a 0 := h.took.order a b ha hb hab
theorem norm_nonneg {c : List Int} {size : Int} (h : Fit c size) : ∀ x ∈ normC c size, 0 ≤ x := by
  intro x hx
  obtain ⟨i, hi, rfl⟩ := List.mem_iff_getElem.1 hx
  rw [norm_len h] at hi
  have := (norm_pos h i hi).1
  rwa [List.getD_eq_getElem?_getD, List.getElem?_eq_getElem (by rw [norm_len h]; exact hi)] at this

/-- none has its part and one, or more -/
theorem norm_near {c : List Int} {size : Int} (h : Fit c size) (s : Nat) (hs : s < 256) : (normC c size).getD s 0 * tot c < c.getD s 0 * size + tot c := by
  have ht := h.took.top s hs
  have hg := h.given s hs
  have hx := h.at s hs
  have hn := h.some
  obtain ⟨d1, d2, d3, d4, d5⟩ := div_parts (c.getD s 0) size (tot c) h.some hx h.sz
  have hle : (normC c size).getD s 0 * tot c ≤ (gaveC c size (tot c)).getD s 0 * tot c := Int.mul_le_mul_of_nonneg_right ht (by omega)
  rcases hg with ⟨g, g'⟩ | ⟨g, g', g''⟩ | ⟨g, g', g''⟩
  · rw [g, Int.zero_mul] at hle; omega
  · have : 0 < c.getD s 0 * size := Int.mul_pos g' h.sz
    rw [g, Int.one_mul] at hle; omega
  · rcases g'' with g2 | ⟨g2, g3⟩
    · rw [g2, Int.mul_comm (c.getD s 0 * size / tot c)] at hle; omega
    · rw [g2, Int.add_mul, Int.one_mul, Int.mul_comm (c.getD s 0 * size / tot c)] at hle; omega

theorem zc_zero (size n : Int) (c : List Int) (h : ∀ x ∈ c, 0 < x → ¬ x * size / n = 0) : zc size n c = 0 := by
  induction c with
  | nil => rfl
  | cons x r ih =>
    simp only [zc]
    rw [ih (fun y hy => h y (by simp [hy])), if_neg (fun hh => h x (by simp) hh.1 hh.2)]

theorem tot_rest_nonneg (size n : Int) (hn : 0 < n) (c : List Int) : 0 ≤ tot (rest0 c size n) := by
  refine tot_nonneg _ fun x hx => ?_
  simp only [rest0, List.mem_map] at hx
  obtain ⟨y, _, rfl⟩ := hx
  exact Int.emod_nonneg _ (by omega)

/-- where none is raised, none lacks one or more -/
theorem norm_near2 {c : List Int} {size : Int} (h : Fit c size) (hr : ∀ s, s < 256 → 0 < c.getD s 0 → tot c ≤ c.getD s 0 * size) (s : Nat) (hs : s < 256) : c.getD s 0 * size - tot c < (normC c size).getD s 0 * tot c := by
  have hn := h.some
  have hz : zc size (tot c) c = 0 := zc_zero size (tot c) c fun x hx h0 hq => by
    obtain ⟨i, hi, rfl⟩ := List.mem_iff_getElem.1 hx
    have h1 := hr i (by rw [← h.len]; exact hi)
    rw [List.getD_eq_getElem?_getD, List.getElem?_eq_getElem hi] at h1
    simp only [Option.getD_some] at h1
    have h2 := h1 h0
    have h3 := Int.mul_ediv_add_emod (c[i] * size) (tot c)
    have h4 := Int.emod_lt_of_pos (c[i] * size) hn
    rw [hq, Int.mul_zero] at h3
    omega
  have hb := base_sum size (tot c) c h.low
  have hp := sum_parts size (tot c) c
  have hrn := tot_rest_nonneg size (tot c) hn c
  rw [hz] at hb
  have hle : tot (qBase c size (tot c)) ≤ size := by
    have h1 : tot c * tot (q0L c size (tot c)) ≤ tot c * size := by omega
    have := Int.le_of_mul_le_mul_left h1 hn
    omega
  have hgs := h.gaveSum
  have hN : normC c size = gaveC c size (tot c) := by
    unfold normC
    rw [show (tot (gaveC c size (tot c)) - size).toNat = 0 by omega]; rfl
  rw [hN]
  have hg := h.given s hs
  have hx := h.at s hs
  obtain ⟨d1, d2, d3, d4, d5⟩ := div_parts (c.getD s 0) size (tot c) h.some hx h.sz
  rcases hg with ⟨g, g'⟩ | ⟨g, g', g''⟩ | ⟨g, g', g''⟩
  · rw [g, g', Int.zero_mul, Int.zero_mul]; omega
  · have := hr s hs g'
    rw [g'', Int.mul_zero] at d2; omega
  · rcases g'' with g2 | ⟨g2, g3⟩
    · rw [g2, Int.mul_comm (c.getD s 0 * size / tot c)]; omega
    · rw [g2, Int.add_mul, Int.one_mul, Int.mul_comm (c.getD s 0 * size / tot c)]; omega

/-- what is normalized stays as it is -/
theorem norm_again {q : List Int} (h0 : ∀ x ∈ q, 0 ≤ x) (hp : 0 < tot q) : normC q (tot q) = q := by
  have hb : qBase q (tot q) (tot q) = q := by
    have hid : q.map (fun x => if x * tot q / tot q = 0 then min x 1 else x * tot q / tot q) = q.map id := by
      apply List.map_congr_left
      intro x hx
      have hd : x * tot q / tot q = x := Int.mul_ediv_cancel x (by omega)
      rw [hd]
      by_cases hx0 : x = 0
      · rw [if_pos hx0, hx0]; rfl
      · rw [if_neg hx0]; rfl
    unfold qBase
    rw [hid, List.map_id]
  have hg : gaveC q (tot q) (tot q) = q := by
    unfold gaveC
    rw [hb, show (tot q - tot q).toNat = 0 by omega]; rfl
  unfold normC
  rw [hg, show (tot q - tot q).toNat = 0 by omega]; rfl

theorem tot_times (c : List Int) (f : Int) : tot (c.map (· * f)) = tot c * f := by
  induction c with
  | nil => simp [tot]
  | cons x r ih => simp only [List.map_cons, tot, ih, Int.add_mul]

/-- so many times as great, they are the same -/
theorem norm_times {c : List Int} {size f : Int} (h0 : ∀ x ∈ c, 0 ≤ x) (hf : 0 < f) : normC (c.map (· * f)) size = normC c size := by
  have hb : qBase (c.map (· * f)) size (tot c * f) = qBase c size (tot c) := by
    unfold qBase
    rw [List.map_map]
    apply List.map_congr_left
    intro x hx
    have hx0 := h0 x hx
    have hd : x * f * size / (tot c * f) = x * size / tot c := by
      rw [show x * f * size = x * size * f by rw [Int.mul_assoc, Int.mul_comm f size, ← Int.mul_assoc], Int.mul_ediv_mul_of_pos_left _ _ hf]
    simp only [Function.comp]
    rw [hd]
    by_cases hx1 : x = 0
    · subst hx1; simp
    · have hxf : 1 ≤ x * f := by
        have := Int.mul_pos (show 0 < x by omega) hf
        omega
      rw [show min (x * f) 1 = min x 1 by omega]
  have hr : rest0 (c.map (· * f)) size (tot c * f) = (rest0 c size (tot c)).map (· * f) := by
    unfold rest0
    rw [List.map_map, List.map_map]
    apply List.map_congr_left
    intro x hx
    simp only [Function.comp]
    rw [show x * f * size = f * (x * size) by rw [Int.mul_assoc, Int.mul_comm f size, ← Int.mul_assoc, Int.mul_comm], Int.mul_comm (tot c) f, Int.mul_emod_mul_of_pos _ _ hf, Int.mul_comm]
  have hh : had0 (c.map (· * f)) size (tot c * f) = had0 c size (tot c) := by
    unfold had0
    rw [List.map_map]
    apply List.map_congr_left
    intro x hx
    have hd : x * f * size / (tot c * f) = x * size / tot c := by
      rw [show x * f * size = x * size * f by rw [Int.mul_assoc, Int.mul_comm f size, ← Int.mul_assoc], Int.mul_ediv_mul_of_pos_left _ _ hf]
    simp only [Function.comp]
    rw [hd]
  have hg : gaveC (c.map (· * f)) size (tot c * f) = gaveC c size (tot c) := by
    unfold gaveC
    rw [hb, hr, hh, give_times _ f hf]
  unfold normC
  rw [tot_times, hg, takeN_times c f hf]

end Go.Proofs.Ytgnenelfbmpfgaa
