/- Plain mathematics of dtab's marks: rows of marks, a row for each symbol that is there; how many are not set yet. -/
import Derived.Test.YtkdfifkmgpogfaaBase3
namespace Go.Proofs.Ytkdfifkmgpogfaa
open Go

def falses : List Bool → Nat
  | [] => 0
  | b :: r => (if b then 0 else 1) + falses r
theorem falses_set : ∀ (r : List Bool) (x : Nat), x < r.length → r.getD x false = false → falses (r.set x true) + 1 = falses r
  | [], x, h, _ => by simp at h
  | b :: r, 0, _, h => by
    have : b = false := by simpa using h
    subst this
    simp [falses]; omega
  | b :: r, x + 1, h, h2 => by
    have := falses_set r x (by simpa using h) (by simpa using h2)
    simp only [List.set_cons_succ, falses]
    omega
theorem falses_rep (n : Nat) : falses (List.replicate n false) = n := by
  induction n with
  | zero => rfl
  | succ n ih => rw [List.replicate_succ, falses, ih]; simp; omega
theorem falses_le : ∀ r : List Bool, falses r ≤ r.length
  | [] => Nat.le_refl _
  | b :: r => by
    have := falses_le r
    simp only [falses, List.length_cons]
    split <;> omega
theorem falses_zero : ∀ r : List Bool, falses r = 0 ↔ ∀ x, x < r.length → r.getD x false = true
  | [] => by simp [falses]
  | b :: r => by
    have ih := falses_zero r
    constructor
    · intro h x hx
      simp only [falses] at h
      cases x with
      | zero => cases b <;> simp_all
      | succ x => simpa using ih.1 (by omega) x (by simpa using hx)
    · intro h
      have h0 := h 0 (by simp)
      have hb : b = true := by simpa using h0
      have : falses r = 0 := ih.2 fun x hx => by simpa using h (x + 1) (by simpa using hx)
      simp only [falses, hb, this]
      simp

def updM (M : Nat → List Bool) (s : Nat) (r : List Bool) : Nat → List Bool := fun t => if t = s then r else M t
theorem updM_self (M : Nat → List Bool) (s : Nat) (r : List Bool) : updM M s r s = r := by unfold updM; rw [if_pos rfl]
theorem updM_other (M : Nat → List Bool) {s t : Nat} (r : List Bool) (h : t ≠ s) : updM M s r t = M t := by unfold updM; rw [if_neg h]
def miss (M : Nat → List Bool) : Nat := sumTo (fun s => falses (M s)) 256
theorem sumTo_upd (f g : Nat → Nat) (s v : Nat) (hg : g s = v) (ho : ∀ t, t ≠ s → g t = f t) : ∀ n, s < n → sumTo g n + f s = sumTo f n + v
  | 0, h => by omega
  | n + 1, h => by
    simp only [sumTo]
    by_cases hn : s = n
    · subst hn
      rw [sumTo_congr s (g := g) (h := f) fun a ha => ho a (by omega), hg]; omega
    · have := sumTo_upd f g s v hg ho n (by omega)
      rw [ho n (by omega)]; omega
theorem miss_upd (M : Nat → List Bool) (s : Nat) (r : List Bool) (h : s < 256) : miss (updM M s r) + falses (M s) = miss M + falses r := by
  unfold miss
  exact sumTo_upd (fun t => falses (M t)) (fun t => falses (updM M s r t)) s (falses r) (by simp only [updM_self]) (fun t ht => by simp only [updM_other M r ht]) 256 h
theorem miss_zero (M : Nat → List Bool) : miss M = 0 ↔ ∀ s, s < 256 → falses (M s) = 0 := by
  unfold miss
  constructor
  · intro h s hs
    have := sumTo_at (fun s => falses (M s)) 256 s hs
    exact Nat.le_zero.1 (h ▸ this)
  · intro h
    have := sumTo_congr (g := fun s => falses (M s)) (h := fun _ => 0) 256 h
    rw [this, sumTo_zero]

/-- what is marked: P; of which symbols there is a row: S -/
structure Inv (n : Nat) (P : Nat → Nat → Prop) (S : Nat → Prop) (M : Nat → List Bool) : Prop where
  len : ∀ s, s < 256 → M s = [] ∨ (M s).length = n
  seen : ∀ s, s < 256 → (M s ≠ [] ↔ S s)
  at' : ∀ s x, s < 256 → x < n → ((M s).getD x false = true ↔ P s x)

/-- no two of the first k cells hold one state of one symbol -/
def Apart (l : List Cl) (k : Nat) : Prop := ∀ a b, a < k → b < k → ∀ s x, inC (l.getD a cl0) s x → inC (l.getD b cl0) s x → a = b
def MarkD (l : List Cl) (k s x : Nat) : Prop := ∃ b, b < k ∧ inC (l.getD b cl0) s x
def Seen (l : List Cl) (k s : Nat) : Prop := ∃ b, b < k ∧ (l.getD b cl0).Sym = s
/-- .. and the first t states of the cell k -/
def MarkDT (l : List Cl) (k t s x : Nat) : Prop := MarkD l k s x ∨ (s = (l.getD k cl0).Sym ∧ (l.getD k cl0).Base ≤ (x : Int) ∧ (x : Int) < (l.getD k cl0).Base + (t : Int))

theorem inv_start (n : Nat) (l : List Cl) : Inv n (MarkD l 0) (Seen l 0) (fun _ => []) :=
  ⟨fun _ _ => .inl rfl, fun s _ => ⟨fun h => absurd rfl h, fun ⟨b, hb, _⟩ => by omega⟩, fun s x _ _ => ⟨fun h => by simp at h, fun ⟨b, hb, _⟩ => by omega⟩⟩
theorem apart_start (l : List Cl) : Apart l 0 := fun a b ha => by omega
theorem miss_start : miss (fun _ => []) = 0 := sumTo_zero 256

theorem Seen.succ {l : List Cl} {k s : Nat} : Seen l (k + 1) s ↔ Seen l k s ∨ s = (l.getD k cl0).Sym := by
  constructor
  · rintro ⟨b, hb, h⟩
    by_cases hbk : b = k
    · subst hbk; exact .inr h.symm
    · exact .inl ⟨b, by omega, h⟩
  · rintro (⟨b, hb, h⟩ | h)
    · exact ⟨b, by omega, h⟩
    · exact ⟨k, by omega, h.symm⟩
/-- a row is made for the symbol of the cell k, if there is none -/
theorem Inv.make {n : Nat} {l : List Cl} {k : Nat} {M : Nat → List Bool} (h : Inv n (MarkD l k) (Seen l k) M) (hn : 0 < n) (h0 : M (l.getD k cl0).Sym = []) (hs : (l.getD k cl0).Sym < 256) :
    Inv n (MarkDT l k 0) (Seen l (k + 1)) (updM M (l.getD k cl0).Sym (List.replicate n false)) := by
  refine ⟨fun s hsl => ?_, fun s hsl => ?_, fun s x hsl hx => ?_⟩
  · by_cases he : s = (l.getD k cl0).Sym
    · rw [he, updM_self]; exact .inr List.length_replicate
    · rw [updM_other _ _ he]; exact h.len s hsl
  · rw [Seen.succ]
    by_cases he : s = (l.getD k cl0).Sym
    · rw [he, updM_self]
      refine ⟨fun _ => .inr rfl, fun _ hh => ?_⟩
      have := congrArg List.length hh
      simp at this; omega
    · rw [updM_other _ _ he, h.seen s hsl]
      exact ⟨.inl, fun h => h.resolve_right he⟩
  · have hM : ¬ MarkD l k (l.getD k cl0).Sym x := fun hm => by
      have := (h.at' _ x hs hx).2 hm
      rw [h0] at this; simp at this
    by_cases he : s = (l.getD k cl0).Sym
    · rw [he, updM_self]
      refine ⟨fun hh => by simp [List.getD_eq_getElem?_getD, List.getElem?_replicate, hx] at hh, fun hh => ?_⟩
      rcases hh with hh | ⟨_, h1, h2⟩
      · exact absurd hh hM
      · omega
    · rw [updM_other _ _ he, h.at' s x hsl hx]
      refine ⟨.inl, fun hh => ?_⟩
      rcases hh with hh | ⟨h1, _⟩
      · exact hh
      · exact absurd h1 he
theorem Inv.has {n : Nat} {l : List Cl} {k : Nat} {M : Nat → List Bool} (h : Inv n (MarkD l k) (Seen l k) M) (h0 : M (l.getD k cl0).Sym ≠ []) (hs : (l.getD k cl0).Sym < 256) :
    Inv n (MarkDT l k 0) (Seen l (k + 1)) M := by
  refine ⟨h.len, fun s hsl => ?_, fun s x hsl hx => ?_⟩
  · rw [Seen.succ, h.seen s hsl]
    exact ⟨.inl, fun hh => hh.elim id fun he => by rw [he, ← h.seen _ hs]; exact h0⟩
  · rw [h.at' s x hsl hx]
    refine ⟨.inl, fun hh => ?_⟩
    rcases hh with hh | ⟨_, h1, h2⟩
    · exact hh
    · omega
/-- a mark more -/
theorem Inv.mark {n : Nat} {l : List Cl} {k t : Nat} {M : Nat → List Bool} (h : Inv n (MarkDT l k t) (Seen l (k + 1)) M) (hs : (l.getD k cl0).Sym < 256) {x : Nat} (hx : x < n) (he : (x : Int) = (l.getD k cl0).Base + (t : Int)) (hl : (M (l.getD k cl0).Sym).length = n) :
    Inv n (MarkDT l k (t + 1)) (Seen l (k + 1)) (updM M (l.getD k cl0).Sym ((M (l.getD k cl0).Sym).set x true)) := by
  refine ⟨fun s hsl => ?_, fun s hsl => ?_, fun s y hsl hy => ?_⟩
  · by_cases hes : s = (l.getD k cl0).Sym
    · rw [hes, updM_self, List.length_set]; exact .inr hl
    · rw [updM_other _ _ hes]; exact h.len s hsl
  · rw [← h.seen s hsl]
    by_cases hes : s = (l.getD k cl0).Sym
    · rw [hes, updM_self]
      constructor
      · intro _ hh; rw [hh] at hl; simp at hl; omega
      · intro _ hh
        have h2 := congrArg List.length hh
        rw [List.length_set, hl] at h2
        simp at h2; omega
    · rw [updM_other _ _ hes]
  · have hat := h.at' s y hsl hy
    have hstep : MarkDT l k (t + 1) s y ↔ MarkDT l k t s y ∨ (s = (l.getD k cl0).Sym ∧ y = x) := by
      unfold MarkDT
      constructor
      · rintro (hh | ⟨h1, h2, h3⟩)
        · exact .inl (.inl hh)
        · by_cases hyx : y = x
          · exact .inr ⟨h1, hyx⟩
          · exact .inl (.inr ⟨h1, h2, by omega⟩)
      · rintro ((hh | ⟨h1, h2, h3⟩) | ⟨h1, h2⟩)
        · exact .inl hh
        · exact .inr ⟨h1, h2, by omega⟩
        · exact .inr ⟨h1, by omega, by omega⟩
    rw [hstep, ← hat]
    by_cases hes : s = (l.getD k cl0).Sym
    · rw [hes, updM_self]
      by_cases hyx : y = x
      · subst hyx
        rw [List.getD_eq_getElem?_getD, List.getElem?_set_self (by omega)]
        simp
      · rw [List.getD_eq_getElem?_getD, List.getElem?_set_ne (by omega), ← List.getD_eq_getElem?_getD]
        exact ⟨.inl, fun hh => hh.elim id fun h => absurd h.2 hyx⟩
    · rw [updM_other _ _ hes]
      exact ⟨.inl, fun hh => hh.elim id fun h => absurd h.1 hes⟩
/-- none of the first t states of the cell k was marked -/
def ApartT (l : List Cl) (k t : Nat) : Prop := Apart l k ∧ ∀ b (x : Nat), b < k → (l.getD k cl0).Base ≤ (x : Int) → (x : Int) < (l.getD k cl0).Base + (t : Int) → ¬ inC (l.getD b cl0) (l.getD k cl0).Sym x
theorem Apart.zero {l : List Cl} {k : Nat} (h : Apart l k) : ApartT l k 0 := ⟨h, fun b x _ h1 h2 => by omega⟩
theorem ApartT.step {l : List Cl} {k t : Nat} (h : ApartT l k t) {x : Nat} (he : (x : Int) = (l.getD k cl0).Base + (t : Int)) (hm : ¬ MarkDT l k t (l.getD k cl0).Sym x) : ApartT l k (t + 1) := by
  refine ⟨h.1, fun b y hb h1 h2 hin => ?_⟩
  by_cases hyx : y = x
  · subst hyx; exact hm (.inl ⟨b, hb, hin⟩)
  · exact h.2 b y hb h1 (by omega) hin
theorem ApartT.all {l : List Cl} {k t : Nat} (h : ApartT l k t) (ht : t = 2 ^ (l.getD k cl0).Bits.toNat) : Apart l (k + 1) := by
  have key : ∀ b s x, b < k → inC (l.getD k cl0) s x → ¬ inC (l.getD b cl0) s x := fun b s x hb hk hin => by
    obtain ⟨h1, h2, h3⟩ := hk
    rw [← h1] at hin
    exact h.2 b x hb h2 (by rw [ht]; exact h3) hin
  intro a b ha hb s x h1 h2
  by_cases hak : a = k
  · by_cases hbk : b = k
    · omega
    · rw [hak] at h1; exact absurd h2 (key b s x (by omega) h1)
  · by_cases hbk : b = k
    · rw [hbk] at h2; exact absurd h1 (key a s x (by omega) h2)
    · exact h.1 a b (by omega) (by omega) s x h1 h2
theorem Inv.all {n : Nat} {l : List Cl} {k t : Nat} {M : Nat → List Bool} (h : Inv n (MarkDT l k t) (Seen l (k + 1)) M) (ht : t = 2 ^ (l.getD k cl0).Bits.toNat) : Inv n (MarkD l (k + 1)) (Seen l (k + 1)) M := by
  refine ⟨h.len, h.seen, fun s x hs hx => ?_⟩
  rw [h.at' s x hs hx]
  constructor
  · rintro (⟨b, hb, hin⟩ | ⟨h1, h2, h3⟩)
    · exact ⟨b, by omega, hin⟩
    · exact ⟨k, by omega, h1.symm, h2, by rw [← ht]; exact h3⟩
  · rintro ⟨b, hb, hin⟩
    by_cases hbk : b = k
    · subst hbk
      obtain ⟨h1, h2, h3⟩ := hin
      exact .inr ⟨h1.symm, h2, by rw [ht]; exact h3⟩
    · exact .inl ⟨b, by omega, hin⟩

/-- of each symbol that is there each state comes once -/
def OnceL (l : List Cl) (n : Nat) : Prop := ∀ a x, a < n → x < n → countTo (fun b => decide (inC (l.getD b cl0) (l.getD a cl0).Sym x)) n = 1
/-- a state that is marked twice -/
theorem not_once {l : List Cl} {n k t : Nat} (hk : k < n) {x : Nat} (hx : x < n) (he : (x : Int) = (l.getD k cl0).Base + (t : Int)) (ht : t < 2 ^ (l.getD k cl0).Bits.toNat) (hm : MarkDT l k t (l.getD k cl0).Sym x) : ¬ OnceL l n := by
  intro h
  have h1 := h k x hk hx
  rcases hm with ⟨b, hb, hin⟩ | ⟨_, h2, h3⟩
  · have hin2 : inC (l.getD k cl0) (l.getD k cl0).Sym x := ⟨rfl, by omega, by omega⟩
    have := countTo_unique h1 (show b < n by omega) hk (decide_eq_true hin) (decide_eq_true hin2)
    omega
  · omega
theorem once_iff {l : List Cl} {n : Nat} {M : Nat → List Bool} (h : Inv n (MarkD l n) (Seen l n) M) (ha : Apart l n) (hs : ∀ a, a < n → (l.getD a cl0).Sym < 256) : miss M = 0 ↔ OnceL l n := by
  rw [miss_zero]
  constructor
  · intro h0 a x hal hx
    have hsa := hs a hal
    have hne := (h.seen _ hsa).2 ⟨a, hal, rfl⟩
    have hl := (h.len _ hsa).resolve_left hne
    have hall := (falses_zero _).1 (h0 _ hsa)
    obtain ⟨b, hb, hin⟩ := (h.at' _ x hsa hx).1 (hall x (by omega))
    refine countTo_exact hb (decide_eq_true hin) fun c hc hin2 => ?_
    rw [decide_eq_true_eq] at hin2
    exact ha c b hc hb _ x hin2 hin
  · intro h0 s hsl
    rw [falses_zero]
    intro x hx
    by_cases he : M s = []
    · rw [he] at hx; simp at hx
    · have hl := (h.len s hsl).resolve_left he
      obtain ⟨a, hal, hae⟩ := (h.seen s hsl).1 he
      have h1 := h0 a x hal (by omega)
      obtain ⟨b, hb, hin⟩ := countTo_pos (p := fun b => decide (inC (l.getD b cl0) (l.getD a cl0).Sym x)) n (by omega)
      rw [decide_eq_true_eq, hae] at hin
      exact (h.at' s x hsl (by omega)).2 ⟨b, hb, hin⟩
theorem miss_le {n : Nat} {P : Nat → Nat → Prop} {S : Nat → Prop} {M : Nat → List Bool} (h : Inv n P S M) : miss M ≤ 256 * n := by
  have h1 : ∀ a, a < 256 → falses (M a) ≤ n := fun a ha => by
    have := falses_le (M a)
    rcases h.len a ha with h0 | h0
    · rw [h0]; simp [falses]
    · omega
  have h2 := sumTo_le (g := fun s => falses (M s)) (h := fun _ => n) 256 h1
  have h3 : ∀ k, sumTo (fun _ => n) k = k * n := fun k => by
    induction k with
    | zero => simp [sumTo]
    | succ k ih => rw [sumTo, ih, Nat.add_mul, Nat.one_mul]
  rw [h3] at h2
  exact h2
theorem WholeL.iff {l : List Cl} {R : Nat} (h1 : 1 ≤ R) (h2 : R ≤ 12) (hl : l.length = 2 ^ R) (hc : ∀ a, a < l.length → 0 ≤ (l.getD a cl0).Bits ∧ (l.getD a cl0).Bits ≤ 12 ∧ 0 ≤ (l.getD a cl0).Base ∧ (l.getD a cl0).Base ≤ (l.length : Int) - ((2 ^ (l.getD a cl0).Bits.toNat : Nat) : Int)) : WholeL l ↔ OnceL l l.length :=
  ⟨fun h => h.2.2, fun h => ⟨⟨R, h1, h2, hl⟩, hc, h⟩⟩

end Go.Proofs.Ytkdfifkmgpogfaa
