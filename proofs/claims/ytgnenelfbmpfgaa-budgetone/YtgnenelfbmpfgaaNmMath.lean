/- Plain mathematics of chapter 8: counts whose sum is a power of two. -/
import Derived.Test.YtgnenelfbmpfgaaBase2
namespace Go.Proofs.Ytgnenelfbmpfgaa
open Go

/-- who has one more next -/
def needyTo (rest : List Int) (had : List Bool) : Nat → Option Nat
  | 0 => none
  | s + 1 => match needyTo rest had s with
    | none => if had.getD s false then none else some s
    | some b => if had.getD s false = false ∧ rest.getD b 0 < rest.getD s 0 then some s else some b

theorem needy_none (rest : List Int) (had : List Bool) (k : Nat) (h : needyTo rest had k = none) : ∀ s, s < k → had.getD s false = true := by
  induction k with
  | zero => intro s hs; omega
  | succ k ih =>
    simp only [needyTo] at h
    cases hn : needyTo rest had k with
    | none =>
      rw [hn] at h
      simp only at h
      intro s hs
      by_cases hsk : s = k
      · subst hsk
        cases hh : had.getD s false with
        | true => rfl
        | false => rw [hh] at h; simp at h
      · exact ih hn s (by omega)
    | some b =>
      rw [hn] at h
      simp only at h
      split at h <;> simp at h

theorem needy_some (rest : List Int) (had : List Bool) (k b : Nat) (h : needyTo rest had k = some b) :
    b < k ∧ had.getD b false = false ∧ ∀ s, s < k → had.getD s false = false → rest.getD s 0 < rest.getD b 0 ∨ (rest.getD s 0 = rest.getD b 0 ∧ b ≤ s) := by
  induction k generalizing b with
  | zero => simp [needyTo] at h
  | succ k ih =>
    simp only [needyTo] at h
    cases hn : needyTo rest had k with
    | none =>
      rw [hn] at h
      simp only at h
      have hall := needy_none rest had k hn
      cases hh : had.getD k false with
      | true => rw [hh] at h; simp at h
      | false =>
        rw [hh] at h
        simp at h
        subst h
        refine ⟨by omega, hh, fun s hs h1 => ?_⟩
        by_cases hsk : s = k
        · subst hsk; right; exact ⟨rfl, Nat.le_refl _⟩
        · have := hall s (by omega); rw [this] at h1; simp at h1
    | some b' =>
      rw [hn] at h
      simp only at h
      obtain ⟨i1, i2, i3⟩ := ih b' hn
      by_cases hc : had.getD k false = false ∧ rest.getD b' 0 < rest.getD k 0
      · rw [if_pos hc] at h
        simp at h
        subst h
        refine ⟨by omega, hc.1, fun s hs h1 => ?_⟩
        by_cases hsk : s = k
        · subst hsk; right; exact ⟨rfl, Nat.le_refl _⟩
        · left
          rcases i3 s (by omega) h1 with h2 | h2
          · omega
          · omega
      · rw [if_neg hc] at h
        simp at h
        subst h
        refine ⟨by omega, i2, fun s hs h1 => ?_⟩
        by_cases hsk : s = k
        · subst hsk
          have : ¬ rest.getD b' 0 < rest.getD s 0 := fun hlt => hc ⟨h1, hlt⟩
          rcases Int.lt_or_eq_of_le (Int.not_lt.1 this) with h2 | h2
          · left; exact h2
          · right; exact ⟨h2, by omega⟩
        · exact i3 s (by omega) h1

theorem needy_times (rest : List Int) (had : List Bool) (f : Int) (hf : 0 < f) (k : Nat) : needyTo (rest.map (· * f)) had k = needyTo rest had k := by
  have hg : ∀ s, (rest.map (· * f)).getD s 0 = rest.getD s 0 * f := by
    intro s
    simp only [List.getD_eq_getElem?_getD, List.getElem?_map]
    cases rest[s]? <;> simp
  induction k with
  | zero => rfl
  | succ k ih =>
    simp only [needyTo, ih]
    cases needyTo rest had k with
    | none => rfl
    | some b =>
      simp only [hg]
      have : (rest.getD b 0 * f < rest.getD k 0 * f) ↔ (rest.getD b 0 < rest.getD k 0) := Int.mul_lt_mul_right hf
      simp only [this]

/-- one more for the neediest -/
def giveStep (rest : List Int) (p : List Int × List Bool) : List Int × List Bool := match needyTo rest p.2 256 with
  | none => p
  | some s => (p.1.set s (p.1.getD s 0 + 1), p.2.set s true)
theorem giveStep_some {rest : List Int} {p : List Int × List Bool} {s : Nat} (h : needyTo rest p.2 256 = some s) : giveStep rest p = (p.1.set s (p.1.getD s 0 + 1), p.2.set s true) := by
  unfold giveStep; rw [h]
theorem giveStep_times (rest : List Int) (f : Int) (hf : 0 < f) (p : List Int × List Bool) : giveStep (rest.map (· * f)) p = giveStep rest p := by
  unfold giveStep; rw [needy_times rest _ f hf]

/-- so k times -/
def giveN (rest : List Int) : Nat → List Int → List Bool → List Int × List Bool
  | 0, q, h => (q, h)
  | k + 1, q, h => giveStep rest (giveN rest k q h)
theorem giveN_succ (rest : List Int) (k : Nat) (q : List Int) (h : List Bool) : giveN rest (k + 1) q h = giveStep rest (giveN rest k q h) := rfl

theorem give_times (rest : List Int) (f : Int) (hf : 0 < f) (k : Nat) (q : List Int) (h : List Bool) : giveN (rest.map (· * f)) k q h = giveN rest k q h := by
  induction k with
  | zero => rfl
  | succ k ih => rw [giveN_succ, giveN_succ, ih, giveStep_times rest f hf]

/-- how many have had none and have some left -/
def cntN : List Int → List Bool → Nat
  | r :: rs, h :: hs => (if h = false ∧ 0 < r then 1 else 0) + cntN rs hs
  | _, _ => 0

theorem cntN_set : ∀ (rest : List Int) (had : List Bool) (s : Nat), s < rest.length → s < had.length → had.getD s false = false → 0 < rest.getD s 0 → cntN rest (had.set s true) + 1 = cntN rest had
  | [], _, s, h, _, _, _ => by simp at h
  | _ :: _, [], s, _, h, _, _ => by simp at h
  | r :: rs, h :: hs, 0, _, _, h1, h2 => by
    simp only [List.getD_cons_zero] at h1 h2
    subst h1
    simp [cntN, h2]; omega
  | r :: rs, h :: hs, s + 1, hl, hl2, h1, h2 => by
    have ih := cntN_set rs hs s (by simpa using hl) (by simpa using hl2) (by simpa using h1) (by simpa using h2)
    simp only [List.set_cons_succ, cntN]
    omega

theorem cntN_pos : ∀ (rest : List Int) (had : List Bool), 0 < cntN rest had → ∃ s, s < rest.length ∧ s < had.length ∧ had.getD s false = false ∧ 0 < rest.getD s 0
  | [], _, h => by simp [cntN] at h
  | _ :: _, [], h => by simp [cntN] at h
  | r :: rs, h :: hs, hp => by
    by_cases hc : h = false ∧ 0 < r
    · exact ⟨0, by simp, by simp, by simpa using hc.1, by simpa using hc.2⟩
    · simp only [cntN, if_neg hc, Nat.zero_add] at hp
      obtain ⟨s, h1, h2, h3, h4⟩ := cntN_pos rs hs hp
      exact ⟨s + 1, by simp; omega, by simp; omega, by simpa using h3, by simpa using h4⟩

/-- what is known behind k gifts -/
structure Gave (rest q : List Int) (had : List Bool) (k : Nat) (p : List Int × List Bool) : Prop where
  len1 : p.1.length = 256
  len2 : p.2.length = 256
  sum : tot p.1 = tot q + (k : Int)
  left : cntN rest p.2 + k = cntN rest had
  keep : ∀ s, had.getD s false = true → p.2.getD s false = true
  val : ∀ s, s < 256 → p.1.getD s 0 = q.getD s 0 + if had.getD s false = false ∧ p.2.getD s false = true then 1 else 0
  some : ∀ s, s < 256 → had.getD s false = false → p.2.getD s false = true → 0 < rest.getD s 0
  first : ∀ s t, s < 256 → t < 256 → had.getD s false = false → p.2.getD s false = true → p.2.getD t false = false → rest.getD t 0 < rest.getD s 0 ∨ (rest.getD t 0 = rest.getD s 0 ∧ s ≤ t)

theorem bset_getD (l : List Bool) (i j : Nat) (z : Bool) (hi : i < l.length) : (l.set i z).getD j false = if i = j then z else l.getD j false := by
  by_cases h : i = j
  · subst h; rw [if_pos rfl, List.getD_eq_getElem?_getD, List.getElem?_set_self hi]; rfl
  · rw [if_neg h, List.getD_eq_getElem?_getD, List.getElem?_set_ne h, ← List.getD_eq_getElem?_getD]
theorem iset_getD (l : List Int) (i j : Nat) (z : Int) (hi : i < l.length) : (l.set i z).getD j 0 = if i = j then z else l.getD j 0 := by
  by_cases h : i = j
  · subst h; rw [if_pos rfl, List.getD_eq_getElem?_getD, List.getElem?_set_self hi]; rfl
  · rw [if_neg h, List.getD_eq_getElem?_getD, List.getElem?_set_ne h, ← List.getD_eq_getElem?_getD]

theorem gave_step {rest q : List Int} {had : List Bool} (hr : rest.length = 256) {k : Nat} {p : List Int × List Bool} (g : Gave rest q had k p) (hk : k < cntN rest had) :
    ∃ s, needyTo rest p.2 256 = some s ∧ s < 256 ∧ p.2.getD s false = false ∧ Gave rest q had (k + 1) (p.1.set s (p.1.getD s 0 + 1), p.2.set s true) := by
  have hp : 0 < cntN rest p.2 := by have := g.left; omega
  obtain ⟨t, ht1, ht2, ht3, ht4⟩ := cntN_pos rest p.2 hp
  cases hn : needyTo rest p.2 256 with
  | none =>
    have := needy_none rest p.2 256 hn t (by omega)
    rw [this] at ht3; simp at ht3
  | some s =>
    obtain ⟨h1, h2, h3⟩ := needy_some rest p.2 256 s hn
    have hs0 : 0 < rest.getD s 0 := by
      rcases h3 t (by omega) ht3 with h | h <;> omega
    have hhs : had.getD s false = false := by
      cases hh : had.getD s false with
      | false => rfl
      | true => have := g.keep s hh; rw [this] at h2; simp at h2
    have l1 := g.len1; have l2 := g.len2
    refine ⟨s, rfl, h1, h2, ?_⟩
    constructor
    · simp [l1]
    · simp [l2]
    · have := tot_set p.1 s (p.1.getD s 0 + 1) (by omega)
      have := g.sum
      simp only; omega
    · have := cntN_set rest p.2 s (by omega) (by omega) h2 hs0
      have := g.left
      simp only; omega
    · intro u hu
      simp only
      rw [bset_getD _ _ _ _ (by omega)]
      split
      · rfl
      · exact g.keep u hu
    · intro u hu
      simp only
      rw [iset_getD _ _ _ _ (by omega), bset_getD _ _ _ _ (by omega)]
      by_cases hus : s = u
      · subst hus
        rw [if_pos rfl, if_pos rfl, if_pos ⟨hhs, rfl⟩, g.val s hu, if_neg (by rw [h2]; simp)]
        omega
      · rw [if_neg hus, if_neg hus]; exact g.val u hu
    · intro u hu hu1 hu2
      simp only at hu2
      rw [bset_getD _ _ _ _ (by omega)] at hu2
      by_cases hus : s = u
      · subst hus; exact hs0
      · rw [if_neg hus] at hu2; exact g.some u hu hu1 hu2
    · intro u t hu ht hu1 hu2 ht2
      simp only at hu2 ht2
      rw [bset_getD _ _ _ _ (by omega)] at hu2 ht2
      by_cases hst : s = t
      · subst hst; simp at ht2
      · rw [if_neg hst] at ht2
        by_cases hus : s = u
        · subst hus; exact h3 t ht ht2
        · rw [if_neg hus] at hu2
          exact g.first u t hu ht hu1 hu2 ht2

theorem gave_zero (rest q : List Int) (had : List Bool) (hq : q.length = 256) (hh : had.length = 256) : Gave rest q had 0 (q, had) := by
  refine ⟨hq, hh, by simp, by simp, fun s h => h, fun s hs => ?_, fun s hs h1 h2 => ?_, fun s t hs ht h1 h2 => ?_⟩
  · show q.getD s 0 = _
    rw [if_neg]
    · omega
    · rintro ⟨h1, h2⟩; simp only at h2; rw [h1] at h2; simp at h2
  · simp only at h2; rw [h1] at h2; simp at h2
  · simp only at h2; rw [h1] at h2; simp at h2

theorem gave {rest q : List Int} {had : List Bool} (hr : rest.length = 256) (hq : q.length = 256) (hh : had.length = 256) (k : Nat) (hk : k ≤ cntN rest had) : Gave rest q had k (giveN rest k q had) := by
  induction k with
  | zero => exact gave_zero rest q had hq hh
  | succ k ih =>
    obtain ⟨s, hs, _, _, g⟩ := gave_step hr (ih (by omega)) (by omega)
    rw [giveN_succ, giveStep_some hs]
    exact g

/-- who has one less next -/
def richTo (q c : List Int) : Nat → Nat
  | 0 => 0
  | s + 1 => if q.getD (richTo q c s) 0 < q.getD (s + 1) 0 ∨ (q.getD (s + 1) 0 = q.getD (richTo q c s) 0 ∧ c.getD (s + 1) 0 ≤ c.getD (richTo q c s) 0) then s + 1 else richTo q c s

theorem rich_spec (q c : List Int) (k : Nat) : richTo q c k ≤ k ∧ ∀ s, s ≤ k → q.getD s 0 < q.getD (richTo q c k) 0 ∨ (q.getD s 0 = q.getD (richTo q c k) 0 ∧ (c.getD (richTo q c k) 0 < c.getD s 0 ∨ (c.getD (richTo q c k) 0 = c.getD s 0 ∧ s ≤ richTo q c k))) := by
  induction k with
  | zero => exact ⟨Nat.le_refl _, fun s hs => by obtain rfl : s = 0 := by omega
                                                 right; exact ⟨rfl, .inr ⟨rfl, Nat.le_refl _⟩⟩⟩
  | succ k ih =>
    obtain ⟨i1, i2⟩ := ih
    simp only [richTo]
    by_cases hc : q.getD (richTo q c k) 0 < q.getD (k + 1) 0 ∨ (q.getD (k + 1) 0 = q.getD (richTo q c k) 0 ∧ c.getD (k + 1) 0 ≤ c.getD (richTo q c k) 0)
    · rw [if_pos hc]
      refine ⟨Nat.le_refl _, fun s hs => ?_⟩
      by_cases hsk : s = k + 1
      · subst hsk; right; exact ⟨rfl, .inr ⟨rfl, Nat.le_refl _⟩⟩
      · rcases i2 s (by omega) with h | ⟨h, h'⟩
        · left; omega
        · rcases hc with hc | ⟨hc, hc'⟩
          · left; omega
          · right
            refine ⟨by omega, ?_⟩
            rcases h' with h' | ⟨h', _⟩
            · left; omega
            · rcases Int.lt_or_eq_of_le hc' with h3 | h3
              · left; omega
              · right; exact ⟨by omega, by omega⟩
    · rw [if_neg hc]
      refine ⟨by omega, fun s hs => ?_⟩
      by_cases hsk : s = k + 1
      · subst hsk
        have n1 : ¬ q.getD (richTo q c k) 0 < q.getD (k + 1) 0 := fun h => hc (.inl h)
        rcases Int.lt_or_eq_of_le (Int.not_lt.1 n1) with h | h
        · left; exact h
        · right
          refine ⟨h, .inl ?_⟩
          have n2 : ¬ c.getD (k + 1) 0 ≤ c.getD (richTo q c k) 0 := fun h2 => hc (.inr ⟨h, h2⟩)
          omega
      · exact i2 s (by omega)

theorem rich_times (q c : List Int) (f : Int) (hf : 0 < f) (k : Nat) : richTo q (c.map (· * f)) k = richTo q c k := by
  have hg : ∀ s, (c.map (· * f)).getD s 0 = c.getD s 0 * f := by
    intro s
    simp only [List.getD_eq_getElem?_getD, List.getElem?_map]
    cases c[s]? <;> simp
  induction k with
  | zero => rfl
  | succ k ih =>
    simp only [richTo, ih, hg]
    have : (c.getD (k + 1) 0 * f ≤ c.getD (richTo q c k) 0 * f) ↔ (c.getD (k + 1) 0 ≤ c.getD (richTo q c k) 0) := Int.mul_le_mul_right hf
    simp only [this]

/-- one less for the richest -/
def takeStep (c q : List Int) : List Int := q.set (richTo q c 255) (q.getD (richTo q c 255) 0 - 1)
theorem takeStep_times (c q : List Int) (f : Int) (hf : 0 < f) : takeStep (c.map (· * f)) q = takeStep c q := by
  unfold takeStep; rw [rich_times _ _ f hf]
/-- so k times -/
def takeN (c : List Int) : Nat → List Int → List Int
  | 0, q => q
  | k + 1, q => takeStep c (takeN c k q)
theorem takeN_succ (c : List Int) (k : Nat) (q : List Int) : takeN c (k + 1) q = takeStep c (takeN c k q) := rfl

theorem takeN_times (c : List Int) (f : Int) (hf : 0 < f) (k : Nat) (q : List Int) : takeN (c.map (· * f)) k q = takeN c k q := by
  induction k with
  | zero => rfl
  | succ k ih => rw [takeN_succ, takeN_succ, ih, takeStep_times _ _ f hf]

theorem tot_le_pos (l : List Int) (h : ∀ c ∈ l, c ≤ 1) : tot l ≤ (pos l : Int) := by
  induction l with
  | nil => simp [tot, pos]
  | cons x r ih =>
    have := h x (by simp)
    have := ih (fun c hc => h c (by simp [hc]))
    simp only [tot, pos]
    split <;> omega

theorem pos_same : ∀ (a b : List Int), a.length = b.length → (∀ k, k < a.length → (0 < a.getD k 0 ↔ 0 < b.getD k 0)) → pos a = pos b
  | [], [], _, _ => by simp [pos]
  | [], _ :: _, h, _ => by simp at h
  | _ :: _, [], h, _ => by simp at h
  | x :: a, y :: b, h, hk => by
    have ih := pos_same a b (by simpa using h) (fun k hk1 => by have := hk (k + 1) (by simpa using hk1); simpa only [List.getD_cons_succ] using this)
    have h0 := hk 0 (by simp)
    simp only [List.getD_cons_zero] at h0
    simp only [pos]
    by_cases hx : 0 < x
    · rw [if_pos hx, if_pos (h0.1 hx)]; omega
    · rw [if_neg hx, if_neg (fun h => hx (h0.2 h))]; omega

/-- what is known behind k takings -/
structure Took (c q : List Int) (k : Nat) (p : List Int) : Prop where
  len : p.length = 256
  sum : tot p = tot q - (k : Int)
  low : ∀ s, s < 256 → 0 ≤ p.getD s 0 ∧ (0 < p.getD s 0 ↔ 0 < c.getD s 0)
  top : ∀ s, s < 256 → p.getD s 0 ≤ q.getD s 0
  order : ∀ a b, a < 256 → b < 256 → c.getD b 0 < c.getD a 0 → p.getD b 0 ≤ p.getD a 0

theorem took_step {c q : List Int} {k : Nat} {p : List Int} (hc : c.length = 256) (t : Took c q k p) (hp : (pos c : Int) < tot p) :
    richTo p c 255 < 256 ∧ 1 < p.getD (richTo p c 255) 0 ∧ Took c q (k + 1) (p.set (richTo p c 255) (p.getD (richTo p c 255) 0 - 1)) := by
  obtain ⟨r1, r2⟩ := rich_spec p c 255
  have hl := t.len
  have h2 : 1 < p.getD (richTo p c 255) 0 := by
    rcases Int.lt_or_le 1 (p.getD (richTo p c 255) 0) with h | h
    · exact h
    · exfalso
      have hall : ∀ z ∈ p, z ≤ 1 := by
        intro z hz
        obtain ⟨i, hi, rfl⟩ := List.mem_iff_getElem.1 hz
        have := r2 i (by omega)
        rw [List.getD_eq_getElem?_getD (i := i), List.getElem?_eq_getElem hi] at this
        simp only [Option.getD_some] at this
        rcases this with h3 | h3 <;> omega
      have h4 := tot_le_pos p hall
      have h5 := pos_same p c (by omega) (fun k hk => (t.low k (by omega)).2)
      omega
  refine ⟨by omega, h2, ?_⟩
  generalize richTo p c 255 = b at *
  have hb : b < 256 := by omega
  constructor
  · simp [hl]
  · have := tot_set p b (p.getD b 0 - 1) (by omega)
    have := t.sum
    omega
  · intro s hs
    rw [iset_getD _ _ _ _ (by omega)]
    have := t.low s hs
    by_cases hbs : b = s
    · subst hbs
      rw [if_pos rfl]
      refine ⟨by omega, ?_⟩
      rw [← this.2]; omega
    · rw [if_neg hbs]; exact this
  · intro s hs
    rw [iset_getD _ _ _ _ (by omega)]
    have := t.top s hs
    by_cases hbs : b = s
    · subst hbs; rw [if_pos rfl]; omega
    · rw [if_neg hbs]; exact this
  · intro x y hx hy hxy
    rw [iset_getD _ _ _ _ (by omega), iset_getD _ _ _ _ (by omega)]
    have ho := t.order x y hx hy hxy
    by_cases hbx : b = x
    · subst hbx
      rw [if_pos rfl]
      by_cases hby : b = y
      · subst hby; omega
      · rw [if_neg hby]
        rcases r2 y (by omega) with h | ⟨h, h'⟩
        · omega
        · rcases h' with h' | ⟨h', _⟩ <;> omega
    · rw [if_neg hbx]
      by_cases hby : b = y
      · subst hby; rw [if_pos rfl]; omega
      · rw [if_neg hby]; exact ho

theorem took {c q : List Int} (hc : c.length = 256) (t : Took c q 0 q) (k : Nat) (hk : (pos c : Int) ≤ tot q - (k : Int)) : Took c q k (takeN c k q) := by
  induction k with
  | zero => exact t
  | succ k ih =>
    have t' := ih (by omega)
    rw [takeN_succ]
    exact (took_step hc t' (by rw [t'.sum]; omega)).2.2

end Go.Proofs.Ytgnenelfbmpfgaa
