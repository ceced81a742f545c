/- Texts that other texts of this claim rest on, one behind the other (DtMath EtMath EtRef EtPos ApInts EtProgA EtMap RowBy SpOf HpMath HpB HpBB FrMath FrRef FrProg KqBase KqHeap KqSwap KqOps KqMath HsHist HpA HpAB NqBase NqMath NqHeap NqSwap NqDiv NqOps NqFill). -/
import Derived.Test.YtkdfifkmgpogfaaBase1
import Derived.Handy
import Derived.BigQuiet
import Derived.Deep.RegionHeld3
import Derived.Deep.LoopGhost
import Derived.Maps.OwnRows
import Derived.Maps.Views
import Derived.StillTailTactics
import Derived.BigRegion
import Derived.WalkSmall
import Derived.OneCell
import Derived.Deep.AppendLies
import Derived.Deep.RegionLaw
/- Plain mathematics of chapter 11: cells, and that each state is reached from each symbol in one way. -/
namespace Go.Proofs.Ytkdfifkmgpogfaa
open Go

/-- a cell -/
structure Cl where
  Sym : Nat
  Bits : Int
  Base : Int
  deriving DecidableEq
def cl0 : Cl := ⟨0, 0, 0⟩

/-- how many bits the key of i takes -/
def bitsN (R i : Nat) : Nat := R - Nat.log2 i
def cellOf (R s i : Nat) : Cl := ⟨s, ((bitsN R i : Nat) : Int), ((i * 2 ^ bitsN R i : Nat) : Int) - ((2 ^ R : Nat) : Int)⟩

theorem log2_spec {i : Nat} (h : 1 ≤ i) : 2 ^ Nat.log2 i ≤ i ∧ i < 2 ^ (Nat.log2 i + 1) := by
  have := floor_spec (n := (i : Int)) (by omega)
  unfold floorI at this
  rw [Int.toNat_natCast] at this
  omega
theorem log2_unique {i k : Nat} (h1 : 2 ^ k ≤ i) (h2 : i < 2 ^ (k + 1)) : Nat.log2 i = k := by
  have := floor_unique (n := (i : Int)) (k := k) (by omega) (by omega)
  unfold floorI at this
  rw [Int.toNat_natCast] at this
  exact this
theorem log2_mono {i j : Nat} (h : i ≤ j) : Nat.log2 i ≤ Nat.log2 j := by
  have := floor_mono (n := (i : Int)) (m := (j : Int)) (by omega)
  unfold floorI at this
  rw [Int.toNat_natCast, Int.toNat_natCast] at this
  exact this
theorem log2_lt {i R : Nat} (h : 1 ≤ i) (h2 : i < 2 ^ (R + 1)) : Nat.log2 i ≤ R := by
  have := lt_of_pow (Nat.lt_of_le_of_lt (log2_spec h).1 h2)
  omega
/-- where a key's states lie -/
theorem bits_range {R i : Nat} (h : 1 ≤ i) (h2 : i < 2 ^ (R + 1)) : 2 ^ R ≤ i * 2 ^ bitsN R i ∧ (i + 1) * 2 ^ bitsN R i ≤ 2 ^ (R + 1) := by
  have h3 := log2_lt h h2
  obtain ⟨h4, h5⟩ := log2_spec h
  have e1 : 2 ^ R = 2 ^ Nat.log2 i * 2 ^ bitsN R i := by rw [← Nat.pow_add]; congr 1; unfold bitsN; omega
  have e2 : 2 ^ (R + 1) = 2 ^ (Nat.log2 i + 1) * 2 ^ bitsN R i := by rw [← Nat.pow_add]; congr 1; unfold bitsN; omega
  rw [e1, e2]
  exact ⟨Nat.mul_le_mul_right _ h4, Nat.mul_le_mul_right _ h5⟩

/-- i's numbers hold y -/
def covers (R i y : Nat) : Prop := i * 2 ^ bitsN R i ≤ y ∧ y < (i + 1) * 2 ^ bitsN R i
theorem covers_div {R i y : Nat} (h : covers R i y) : y / 2 ^ bitsN R i = i := by
  have hp := Nat.two_pow_pos (bitsN R i)
  refine Nat.div_eq_of_lt_le h.1 ?_
  exact h.2
theorem half_more {y k m : Nat} (h : k < m) : y / 2 ^ m ≤ y / 2 ^ k / 2 := by
  have : 2 ^ m = 2 ^ (k + 1) * 2 ^ (m - (k + 1)) := by rw [← Nat.pow_add]; congr 1; omega
  rw [this, ← Nat.div_div_eq_div_mul]
  refine Nat.le_trans (Nat.div_le_self _ _) ?_
  rw [Nat.pow_succ, ← Nat.div_div_eq_div_mul]
  exact Nat.le_refl _
theorem covers_one {R q i j y : Nat} (hi : q ≤ i) (hi2 : i < 2 * q) (hj : q ≤ j) (hj2 : j < 2 * q) (h1 : covers R i y) (h2 : covers R j y) : i = j := by
  have e1 := covers_div h1
  have e2 := covers_div h2
  by_cases hk : bitsN R i = bitsN R j
  · rw [hk] at e1; omega
  · by_cases hlt : bitsN R i < bitsN R j
    · have := half_more (y := y) hlt
      rw [e1, e2] at this; omega
    · have := half_more (y := y) (show bitsN R j < bitsN R i by omega)
      rw [e1, e2] at this; omega
theorem shift_in {q y : Nat} (hq : q ≤ y) : ∀ n, y / 2 ^ n < 2 * q → ∃ k, k ≤ n ∧ q ≤ y / 2 ^ k ∧ y / 2 ^ k < 2 * q
  | 0, h => ⟨0, Nat.le_refl _, by simpa using hq, h⟩
  | n + 1, h => by
    by_cases h2 : y / 2 ^ n < 2 * q
    · obtain ⟨k, hk, h3⟩ := shift_in hq n h2
      exact ⟨k, by omega, h3⟩
    · refine ⟨n + 1, Nat.le_refl _, ?_, h⟩
      rw [Nat.pow_succ, ← Nat.div_div_eq_div_mul]
      omega
theorem covers_some {R q x : Nat} (h1 : 1 ≤ q) (h2 : q ≤ 2 ^ R) (hx : x < 2 ^ R) : ∃ i, q ≤ i ∧ i < 2 * q ∧ covers R i (2 ^ R + x) := by
  have hp := Nat.two_pow_pos R
  have hd : (2 ^ R + x) / 2 ^ R < 2 * q := by
    have : (2 ^ R + x) / 2 ^ R < 2 := (Nat.div_lt_iff_lt_mul hp).2 (by omega)
    omega
  obtain ⟨k, hk, h3, h4⟩ := shift_in (show q ≤ 2 ^ R + x by omega) R hd
  refine ⟨_, h3, h4, ?_⟩
  have hpk := Nat.two_pow_pos k
  have e1 : 2 ^ R = 2 ^ (R - k) * 2 ^ k := by rw [← Nat.pow_add]; congr 1; omega
  have e2 : 2 ^ (R + 1) = 2 ^ (R - k + 1) * 2 ^ k := by rw [← Nat.pow_add]; congr 1; omega
  have hlo : 2 ^ (R - k) ≤ (2 ^ R + x) / 2 ^ k := (Nat.le_div_iff_mul_le hpk).2 (by rw [← e1]; omega)
  have hhi : (2 ^ R + x) / 2 ^ k < 2 ^ (R - k + 1) := (Nat.div_lt_iff_lt_mul hpk).2 (by rw [← e2, two_pow_succ]; omega)
  have hb : bitsN R ((2 ^ R + x) / 2 ^ k) = k := by unfold bitsN; rw [log2_unique hlo hhi]; omega
  unfold covers
  rw [hb]
  have hdm := Nat.div_add_mod (2 ^ R + x) (2 ^ k)
  have hmod := Nat.mod_lt (2 ^ R + x) hpk
  rw [Nat.mul_comm] at hdm
  refine ⟨by omega, ?_⟩
  rw [Nat.add_mul, Nat.one_mul]; omega

/-- a cell of the symbol s holds x -/
def inC (c : Cl) (s x : Nat) : Prop := c.Sym = s ∧ c.Base ≤ (x : Int) ∧ (x : Int) < c.Base + ((2 ^ c.Bits.toNat : Nat) : Int)
instance (c : Cl) (s x : Nat) : Decidable (inC c s x) := by unfold inC; infer_instance
theorem inC_cell {R s i t x : Nat} : inC (cellOf R s i) t x ↔ s = t ∧ covers R i (2 ^ R + x) := by
  unfold inC cellOf covers
  simp only [Int.toNat_natCast]
  rw [Nat.add_mul, Nat.one_mul]
  omega

structure IsDtab (f : Nat → Nat) (R : Nat) (l : List Cl) : Prop where
  len : l.length = 2 ^ R
  at' : ∀ s d, s < 256 → d < f s → l.getD (placeF f 256 s (f s + d)) cl0 = cellOf R s (f s + d)

theorem countTo_exact {p : Nat → Bool} {n a : Nat} (ha : a < n) (h : p a = true) (hu : ∀ b, b < n → p b = true → b = a) : countTo p n = 1 := by
  have h1 := countTo_some ha h
  have h2 := countTo_one (p := p) n fun x y hx hy h3 h4 => by rw [hu x hx h3, hu y hy h4]
  omega
theorem countTo_unique {p : Nat → Bool} {n : Nat} (h : countTo p n = 1) {a b : Nat} (ha : a < n) (hb : b < n) (h1 : p a = true) (h2 : p b = true) : a = b := by
  by_cases e : a = b
  · exact e
  · have : countTo (fun x => decide (x = a)) n < countTo p n := countTo_mono_lt n (fun x hx hh => by rw [decide_eq_true_eq] at hh; rw [hh]; exact h1) b hb (decide_eq_false fun hh => e hh.symm) h2
    have h3 := countTo_some (p := fun x => decide (x = a)) ha (decide_eq_true rfl)
    omega

theorem IsDtab.is {f : Nat → Nat} {R : Nat} {l : List Cl} (h : IsDtab f R l) (hs : sumTo f 256 = 2 ^ R) {a : Nat} (ha : a < 2 ^ R) : ∃ s d, s < 256 ∧ d < f s ∧ placeF f 256 s (f s + d) = a ∧ l.getD a cl0 = cellOf R s (f s + d) := by
  obtain ⟨s, d, h1, h2, h3⟩ := place_onto (f := f) (N := 256) (p := a) (by rw [hs]; exact ha)
  refine ⟨s, d, h1, h2, h3, ?_⟩
  rw [← h3]; exact h.at' s d h1 h2
theorem IsDtab.one {f : Nat → Nat} {R : Nat} {l m : List Cl} (hs : sumTo f 256 = 2 ^ R) (h : IsDtab f R l) (g : IsDtab f R m) : l = m := by
  refine List.ext_getElem (by rw [h.len, g.len]) fun p h1 h2 => ?_
  have hp : p < 2 ^ R := by rw [← h.len]; exact h1
  obtain ⟨s, d, hs1, hd, hpl, he⟩ := h.is hs hp
  have e2 := g.at' s d hs1 hd
  rw [hpl] at e2
  rw [List.getD_eq_getElem?_getD, List.getElem?_eq_getElem h1] at he
  rw [List.getD_eq_getElem?_getD, List.getElem?_eq_getElem h2] at e2
  simp only [Option.getD_some] at he e2
  rw [he, e2]
theorem f_le {f : Nat → Nat} {R s : Nat} (hs : sumTo f 256 = 2 ^ R) (h : s < 256) : f s ≤ 2 ^ R := by
  have := sumTo_at f 256 s h; omega
/-- each state is reached from each symbol that is there in one way -/
theorem IsDtab.reach {f : Nat → Nat} {R : Nat} {l : List Cl} (h : IsDtab f R l) (hs : sumTo f 256 = 2 ^ R) {s x : Nat} (h256 : s < 256) (hx : x < 2 ^ R) : countTo (fun b => decide (inC (l.getD b cl0) s x)) (2 ^ R) = if 0 < f s then 1 else 0 := by
  by_cases h0 : 0 < f s
  · rw [if_pos h0]
    obtain ⟨i, hi1, hi2, hcov⟩ := covers_some (R := R) (q := f s) (x := x) h0 (f_le hs h256) hx
    have hroom := place_room (f := f) (N := 256) (s := s) (d := i - f s) h256 (by omega)
    rw [hs] at hroom
    have hat := h.at' s (i - f s) h256 (by omega)
    rw [show f s + (i - f s) = i by omega] at hroom hat
    refine countTo_exact hroom (decide_eq_true (by rw [hat]; exact inC_cell.2 ⟨rfl, hcov⟩)) fun b hb hin => ?_
    obtain ⟨t, d, ht, hd, hpl, he⟩ := h.is hs hb
    rw [decide_eq_true_eq, he, inC_cell] at hin
    obtain ⟨rfl, hc2⟩ := hin
    have := covers_one hi1 hi2 (by omega) (by omega) hcov hc2
    rw [← hpl, this]
  · rw [if_neg h0]
    refine countTo_none _ _ fun b hb => decide_eq_false fun hin => ?_
    obtain ⟨t, d, ht, hd, hpl, he⟩ := h.is hs hb
    rw [he, inC_cell] at hin
    obtain ⟨rfl, _⟩ := hin
    omega

/-- whole cells -/
def WholeL (l : List Cl) : Prop :=
  (∃ R, 1 ≤ R ∧ R ≤ 12 ∧ l.length = 2 ^ R) ∧
  (∀ a, a < l.length → 0 ≤ (l.getD a cl0).Bits ∧ (l.getD a cl0).Bits ≤ 12 ∧ 0 ≤ (l.getD a cl0).Base ∧ (l.getD a cl0).Base ≤ (l.length : Int) - ((2 ^ (l.getD a cl0).Bits.toNat : Nat) : Int)) ∧
  ∀ a x, a < l.length → x < l.length → countTo (fun b => decide (inC (l.getD b cl0) (l.getD a cl0).Sym x)) l.length = 1

theorem cell_bounds {R q s i : Nat} (h1 : 1 ≤ q) (h2 : q ≤ 2 ^ R) (hi : q ≤ i) (hi2 : i < 2 * q) : 0 ≤ (cellOf R s i).Base ∧ (cellOf R s i).Base + ((2 ^ bitsN R i : Nat) : Int) ≤ ((2 ^ R : Nat) : Int) := by
  have := bits_range (R := R) (i := i) (by omega) (by rw [two_pow_succ]; omega)
  rw [Nat.add_mul, Nat.one_mul, two_pow_succ] at this
  unfold cellOf
  simp only []
  omega
theorem IsDtab.whole {f : Nat → Nat} {R : Nat} {l : List Cl} (h : IsDtab f R l) (hs : sumTo f 256 = 2 ^ R) (h1 : 1 ≤ R) (h2 : R ≤ 12) : WholeL l := by
  refine ⟨⟨R, h1, h2, h.len⟩, fun a ha => ?_, fun a x ha hx => ?_⟩
  · rw [h.len] at ha ⊢
    obtain ⟨s, d, hs1, hd, hpl, he⟩ := h.is hs ha
    rw [he]
    have hb := cell_bounds (R := R) (q := f s) (s := s) (i := f s + d) (by omega) (f_le hs hs1) (by omega) (by omega)
    have e : (cellOf R s (f s + d)).Bits = ((bitsN R (f s + d) : Nat) : Int) := rfl
    rw [e, Int.toNat_natCast]
    have : bitsN R (f s + d) ≤ R := by unfold bitsN; omega
    exact ⟨by omega, by omega, hb.1, by omega⟩
  · rw [h.len] at ha hx ⊢
    obtain ⟨s, d, hs1, hd, hpl, he⟩ := h.is hs ha
    rw [he, show (cellOf R s (f s + d)).Sym = s from rfl, h.reach hs hs1 hx, if_pos (by omega)]

theorem getD_set_self {l : List Cl} {a : Nat} (h : a < l.length) (c : Cl) : (l.set a c).getD a cl0 = c := by
  rw [List.getD_eq_getElem?_getD, List.getElem?_set_self h]; rfl
theorem getD_set_other {l : List Cl} {a b : Nat} (h : a ≠ b) (c : Cl) : (l.set a c).getD b cl0 = l.getD b cl0 := by
  rw [List.getD_eq_getElem?_getD, List.getElem?_set_ne h, ← List.getD_eq_getElem?_getD]

theorem whole_moved {l : List Cl} (h : WholeL l) {a : Nat} (ha : a < l.length) {e : Int} (he : e ≠ 0) : ¬ WholeL (l.set a ⟨(l.getD a cl0).Sym, (l.getD a cl0).Bits, (l.getD a cl0).Base + e⟩) := by
  intro h'
  obtain ⟨_, hb, hc⟩ := h
  obtain ⟨_, _, hc'⟩ := h'
  obtain ⟨b0, b1, b2, b3⟩ := hb a ha
  have hp := Nat.two_pow_pos (l.getD a cl0).Bits.toNat
  have key : ∀ x : Nat, x < l.length → inC (l.getD a cl0) (l.getD a cl0).Sym x → ¬ inC ⟨(l.getD a cl0).Sym, (l.getD a cl0).Bits, (l.getD a cl0).Base + e⟩ (l.getD a cl0).Sym x → False := fun x hx hin hout => by
    have h1 := hc a x ha hx
    have h2 := hc' a x (by rw [List.length_set]; exact ha) (by rw [List.length_set]; exact hx)
    rw [getD_set_self ha, List.length_set] at h2
    rw [countTo_none _ _ fun b hb' => ?_] at h2
    · omega
    · by_cases hab : a = b
      · subst hab
        rw [getD_set_self ha]
        exact decide_eq_false hout
      · rw [getD_set_other hab]
        refine decide_eq_false fun hin2 => hab ?_
        exact countTo_unique h1 ha hb' (decide_eq_true hin) (decide_eq_true hin2)
  by_cases hpos : 0 < e
  · refine key (l.getD a cl0).Base.toNat (by omega) ⟨rfl, by omega, by omega⟩ fun hh => ?_
    have := hh.2.1
    simp only [] at this
    omega
  · refine key ((l.getD a cl0).Base + ((2 ^ (l.getD a cl0).Bits.toNat : Nat) : Int) - 1).toNat (by omega) ⟨rfl, by omega, by omega⟩ fun hh => ?_
    have := hh.2.2
    simp only [] at this
    omega
theorem whole_wider {l : List Cl} (h : WholeL l) {a : Nat} (ha : a < l.length) : ¬ WholeL (l.set a ⟨(l.getD a cl0).Sym, (l.getD a cl0).Bits + 1, (l.getD a cl0).Base⟩) := by
  intro h'
  obtain ⟨_, hb, hc⟩ := h
  obtain ⟨_, hb', hc'⟩ := h'
  obtain ⟨b0, b1, b2, b3⟩ := hb a ha
  have h3 := hb' a (by rw [List.length_set]; exact ha)
  rw [getD_set_self ha, List.length_set] at h3
  simp only [] at h3
  obtain ⟨c0, c1, c2, c3⟩ := h3
  have hp := Nat.two_pow_pos (l.getD a cl0).Bits.toNat
  have ht : ((l.getD a cl0).Bits + 1).toNat = (l.getD a cl0).Bits.toNat + 1 := by omega
  rw [ht, two_pow_succ] at c3
  obtain ⟨x, hx⟩ : ∃ x : Nat, (x : Int) = (l.getD a cl0).Base + ((2 ^ (l.getD a cl0).Bits.toNat : Nat) : Int) := ⟨((l.getD a cl0).Base + ((2 ^ (l.getD a cl0).Bits.toNat : Nat) : Int)).toNat, by omega⟩
  have hxl : x < l.length := by omega
  have h1 := hc a x ha hxl
  have h2 := hc' a x (by rw [List.length_set]; exact ha) (by rw [List.length_set]; exact hxl)
  rw [getD_set_self ha, List.length_set] at h2
  obtain ⟨b, hbl, hin⟩ := countTo_pos (p := fun b => decide (inC (l.getD b cl0) (l.getD a cl0).Sym x)) l.length (by omega)
  rw [decide_eq_true_eq] at hin
  have hab : a ≠ b := fun hh => by
    subst hh
    have := hin.2.2
    omega
  refine hab (countTo_unique h2 ha hbl (decide_eq_true ?_) (decide_eq_true ?_))
  · rw [getD_set_self ha]
    refine ⟨rfl, by simp only []; omega, ?_⟩
    simp only []
    rw [ht, two_pow_succ]; omega
  · rw [getD_set_other hab]; exact hin

/-- who has more states takes no more bits, but for one -/
theorem bits_near {R p q i j : Nat} (hp : 1 ≤ q) (h : q ≤ p) (hi : p ≤ i) (hj2 : j < 2 * q) (hj : q ≤ j) (hR : j < 2 ^ (R + 1)) : bitsN R i ≤ bitsN R j + 1 := by
  have h1 := log2_mono (show q ≤ i by omega)
  have h2 := log2_mono (show j ≤ 2 * q by omega)
  have h3 : Nat.log2 (2 * q) = Nat.log2 q + 1 := by
    have := (floor_double (n := (q : Int)) (by omega)).1
    unfold floorI at this
    rw [show (2 * (q : Int)).toNat = 2 * q by omega, Int.toNat_natCast] at this
    exact this
  have h4 := log2_lt (show 1 ≤ j by omega) hR
  unfold bitsN
  omega

end Go.Proofs.Ytkdfifkmgpogfaa

/- Plain mathematics of chapter 12: how symbols are encoded. -/
namespace Go.Proofs.Ytkdfifkmgpogfaa
open Go

/-- n bits are left over of y, by a symbol of the count q -/
def lefts (q y n : Nat) : Prop := q ≤ y / 2 ^ n ∧ y / 2 ^ n < 2 * q
theorem lefts_one {q y n m : Nat} (h1 : lefts q y n) (h2 : lefts q y m) : n = m := by
  obtain ⟨a1, a2⟩ := h1
  obtain ⟨b1, b2⟩ := h2
  by_cases hlt : n < m
  · have := half_more (y := y) hlt; omega
  · by_cases hgt : m < n
    · have := half_more (y := y) hgt; omega
    · omega
theorem lefts_some {R q x : Nat} (h1 : 1 ≤ q) (h2 : q ≤ 2 ^ R) (hx : x < 2 ^ R) : ∃ n, n ≤ R ∧ lefts q (2 ^ R + x) n := by
  have hp := Nat.two_pow_pos R
  have hd : (2 ^ R + x) / 2 ^ R < 2 * q := by
    have : (2 ^ R + x) / 2 ^ R < 2 := (Nat.div_lt_iff_lt_mul hp).2 (by omega)
    omega
  exact shift_in (show q ≤ 2 ^ R + x by omega) R hd
theorem lefts_le {R q x n : Nat} (h1 : 1 ≤ q) (h2 : q ≤ 2 ^ R) (hx : x < 2 ^ R) (h : lefts q (2 ^ R + x) n) : n ≤ R := by
  obtain ⟨m, hm, hl⟩ := lefts_some h1 h2 hx
  rw [lefts_one h hl]; exact hm
/-- the bits that are left over are those that the key takes -/
theorem lefts_bits {R q x n : Nat} (h1 : 1 ≤ q) (h2 : q ≤ 2 ^ R) (hx : x < 2 ^ R) (h : lefts q (2 ^ R + x) n) : bitsN R ((2 ^ R + x) / 2 ^ n) = n := by
  have hn := lefts_le h1 h2 hx h
  have hpk := Nat.two_pow_pos n
  have e1 : 2 ^ R = 2 ^ (R - n) * 2 ^ n := by rw [← Nat.pow_add]; congr 1; omega
  have e2 : 2 ^ (R + 1) = 2 ^ (R - n + 1) * 2 ^ n := by rw [← Nat.pow_add]; congr 1; omega
  have hlo : 2 ^ (R - n) ≤ (2 ^ R + x) / 2 ^ n := (Nat.le_div_iff_mul_le hpk).2 (by rw [← e1]; omega)
  have hhi : (2 ^ R + x) / 2 ^ n < 2 ^ (R - n + 1) := (Nat.div_lt_iff_lt_mul hpk).2 (by rw [← e2, two_pow_succ]; omega)
  unfold bitsN; rw [log2_unique hlo hhi]; omega
/-- what is encoded is decoded -/
theorem enc_cell {R q s x n : Nat} (h1 : 1 ≤ q) (h2 : q ≤ 2 ^ R) (hx : x < 2 ^ R) (h : lefts q (2 ^ R + x) n) :
    (cellOf R s ((2 ^ R + x) / 2 ^ n)).Bits = (n : Int) ∧ (cellOf R s ((2 ^ R + x) / 2 ^ n)).Base + (((2 ^ R + x) % 2 ^ n : Nat) : Int) = (x : Int) := by
  have hb := lefts_bits h1 h2 hx h
  unfold cellOf
  rw [hb]
  refine ⟨rfl, ?_⟩
  have := Nat.div_add_mod (2 ^ R + x) (2 ^ n)
  rw [Nat.mul_comm] at this
  simp only []
  omega
/-- what is decoded is encoded -/
theorem dec_lefts {R q i m : Nat} (hi : q ≤ i) (hi2 : i < 2 * q) (h1 : 1 ≤ q) (h2 : q ≤ 2 ^ R) (hm : m < 2 ^ bitsN R i) :
    ∃ x, x < 2 ^ R ∧ 2 ^ R + x = i * 2 ^ bitsN R i + m ∧ lefts q (2 ^ R + x) (bitsN R i) ∧ (2 ^ R + x) / 2 ^ bitsN R i = i ∧ (2 ^ R + x) % 2 ^ bitsN R i = m := by
  have hr := bits_range (R := R) (i := i) (by omega) (by rw [two_pow_succ]; omega)
  have hpk := Nat.two_pow_pos (bitsN R i)
  rw [Nat.add_mul, Nat.one_mul, two_pow_succ] at hr
  obtain ⟨x, hx⟩ : ∃ x, 2 ^ R + x = i * 2 ^ bitsN R i + m := ⟨i * 2 ^ bitsN R i + m - 2 ^ R, by omega⟩
  have hd : (i * 2 ^ bitsN R i + m) / 2 ^ bitsN R i = i := by
    rw [Nat.add_comm, Nat.add_mul_div_right _ _ hpk, Nat.div_eq_of_lt hm, Nat.zero_add]
  have hmm : (i * 2 ^ bitsN R i + m) % 2 ^ bitsN R i = m := by
    rw [Nat.add_comm, Nat.add_mul_mod_self_right, Nat.mod_eq_of_lt hm]
  refine ⟨x, by omega, hx, ?_, by rw [hx]; exact hd, by rw [hx]; exact hmm⟩
  unfold lefts
  rw [hx, hd]
  exact ⟨hi, hi2⟩

end Go.Proofs.Ytkdfifkmgpogfaa

/- What the document's own steps (puncheonref12) tell: Step, Many. -/
namespace Go.Proofs.Ytkdfifkmgpogfaa
open Go.RowKit

/-- may the symbol s be encoded from the state x? -/
def eCan (q : List Int) (k : Nat) (x : Int) (s : Nat) : Prop := 0 ≤ x ∧ x < ((2 ^ k : Nat) : Int) ∧ 0 < fq q s
/-- what Step tells -/
def EncSays (q : List Int) (k : Nat) (x : Int) (s : Nat) (e : Ending) : Prop :=
  (¬ eCan q k x s → e = .returned (.tuple #[.int .i64 0, .int .i64 0, .int .u32 0, .bool false])) ∧
  (eCan q k x s → ∃ n, lefts (fq q s) (2 ^ k + x.toNat) n ∧ e = .returned (.tuple #[.int .i64 ((placeF (fq q) 256 s ((2 ^ k + x.toNat) / 2 ^ n) : Nat) : Int), .int .i64 (n : Int), .int .u32 (((2 ^ k + x.toNat) % 2 ^ n : Nat) : Int), .bool true]))
theorem EncSays.one {q : List Int} {k : Nat} {x : Int} {s : Nat} {e f : Ending} (h : EncSays q k x s e) (g : EncSays q k x s f) : e = f := by
  by_cases hc : eCan q k x s
  · obtain ⟨n, h1, h2⟩ := h.2 hc
    obtain ⟨m, g1, g2⟩ := g.2 hc
    rw [h2, g2, lefts_one h1 g1]
  · rw [h.1 hc, g.1 hc]

theorem low_step (y n : Nat) : y % 2 ^ (n + 1) = y % 2 ^ n + y / 2 ^ n % 2 * 2 ^ n := by
  rw [Nat.mod_pow_succ, Nat.mul_comm]
theorem div_step (y n : Nat) : y / 2 ^ (n + 1) = y / 2 ^ n / 2 := by rw [Nat.pow_succ, Nat.div_div_eq_div_mul]

set_option maxHeartbeats 2000000 in
theorem r12step_any (v : Value) (q : List Int) (k : Nat) (x : Int) (s : Nat) (w : World) (h : RdI w v q) (hq : NormQ q k) (hs : s < 256) (hx : -9223372036854775808 ≤ x ∧ x ≤ 9223372036854775807) :
    Calls Try.prog 16 #[v, .int .i64 x, .int .i64 (s : Int)] w fun e w' => EncSays q k x s e ∧ ∃ m, w' = w.drewN m := by
  have HLG := Lib.hid (r8log_any v q w h hq.bnd (by rw [hq.1]; omega))
  have hlog := hq.log
  rw [hlog] at HLG
  clear hlog
  obtain ⟨ao, cap, rfl⟩ := h.form
  obtain ⟨g, off, rfl, -⟩ := h.at s (by rw [hq.1]; exact hs)
  have hcell := hq.cell h s hs
  have hle := hq.le s
  have hsz := hq.size
  have hfl := f_le (f := fq q) (R := k) hq.sum hs
  have hsn : (s : Int) < (q.length : Int) := by rw [hq.1]; omega
  have HPL := Lib.hid fun (W : World) (hW : RdI W (.slice (some ⟨g, off, none⟩) q.length cap) q) (i : Nat) hi => r10place_any (.slice (some ⟨g, off, none⟩) q.length cap) q k s i W hW hq hs hi
  have hk12 := hq.2.2.2.2
  have hk64 : (k : Int) < 64 := by omega
  obtain ⟨F, hF⟩ : ∃ F, fq q s = F := ⟨_, rfl⟩
  rw [hF] at hcell hle hfl
  have HF := Lib.hid hF; have H := Lib.hid h
  obtain ⟨n, hn⟩ : ∃ n, q.length = n := ⟨_, rfl⟩
  rw [hn] at hsn HLG HPL H ⊢
  obtain ⟨L, hL⟩ : ∃ L, 2 ^ k = L := ⟨_, rfl⟩
  have hLI : (2 : Int) ^ k = (L : Int) := by rw [← hL]; simp
  rw [hL] at hsz hfl
  have HL := Lib.hid hL; have HFL := Lib.hid hfl
  have hL4 : (L : Int) ≤ 4096 := by omega
  clear hq hF h hn hL hfl hk12
  by_cases h1 : x < 0
  · have d1 : decide (x < 0) = true := decide_eq_true h1
    have hno : ¬ eCan q k x s := fun hh => by have := hh.1; omega
    have HNO := Lib.hid hno
    clear hno
    go_enter Try.func16, Try.ntmps16
    go_wp2_with fail
    refine HLG.out.mono ?_
    rintro e w1 ⟨rfl, rfl⟩
    go_wp2
    go_returns
    exact ⟨⟨fun _ => rfl, fun hh => absurd hh HNO.out⟩, 0, rfl⟩
  · have d1 : decide (x < 0) = false := decide_eq_false h1
    by_cases h2 : (L : Int) ≤ x
    · have d2 : decide ((L : Int) ≤ x) = true := decide_eq_true h2
      have hno : ¬ eCan q k x s := fun hh => by have := hh.2.1; rw [HL.out] at this; omega
      have HNO := Lib.hid hno
      clear hno
      go_enter Try.func16, Try.ntmps16
      go_wp2_with fail
      refine HLG.out.mono ?_
      rintro e w1 ⟨rfl, rfl⟩
      go_wp2
      go_returns
      exact ⟨⟨fun _ => rfl, fun hh => absurd hh HNO.out⟩, 0, rfl⟩
    · have d2 : decide ((L : Int) ≤ x) = false := decide_eq_false h2
      by_cases h3 : F = 0
      · have hno : ¬ eCan q k x s := fun hh => by have := hh.2.2; rw [HF.out] at this; omega
        have HNO := Lib.hid hno
        subst h3
        clear hno
        go_enter Try.func16, Try.ntmps16
        go_wp2_with fail
        refine HLG.out.mono ?_
        rintro e w1 ⟨rfl, rfl⟩
        go_wp2
        go_returns
        exact ⟨⟨fun _ => rfl, fun hh => absurd hh HNO.out⟩, 0, rfl⟩
      · have d3 : ((F : Int) == 0) = false := by simp; omega
        obtain ⟨x', rfl⟩ : ∃ x' : Nat, x = (x' : Int) := ⟨x.toNat, by omega⟩
        have hyes : eCan q k (x' : Int) s := ⟨by omega, by rw [HL.out]; omega, by rw [HF.out]; omega⟩
        have HYES := Lib.hid hyes
        obtain ⟨y, hy⟩ : ∃ y, L + x' = y := ⟨_, rfl⟩
        have hyI : (L : Int) + (x' : Int) = (y : Int) := by omega
        have hy8 : y < 8192 := by omega
        have hFy : F ≤ y := by have := HFL.out; omega
        have HY := Lib.hid hy; have HFY := Lib.hid hFy; have HY8 := Lib.hid hy8; have HF0 := Lib.hid h3
        have hyI8 : (y : Int) < 8192 := by omega
        have h2n : ¬ L ≤ x' := by omega
        clear hyes hy hFy h3 h1 h2 hy8
        go_enter Try.func16, Try.ntmps16
        go_wp2_with fail
        refine HLG.out.mono ?_
        rintro e w1 ⟨rfl, rfl⟩
        go_wp2
        go_loopw [11, 12, 13, 14] (fun o11 o12 o13 o14 wr => ∃ m : Nat, o11 = .int .i64 ((y / 2 ^ m : Nat) : Int) ∧ o12 = .int .i64 (m : Int) ∧ o13 = .int .i64 ((y % 2 ^ m : Nat) : Int) ∧ o14 = .int .i64 ((2 ^ m : Nat) : Int) ∧ F ≤ y / 2 ^ m ∧ wr = w1) (fun o11 _ _ _ _ => (intOf o11).toNat)
        case atStart => exact ⟨0, by simp, rfl, by simp [Nat.mod_one], by simp, by simpa using HFY.out, rfl⟩
        case round =>
          obtain ⟨m, rfl, rfl, rfl, rfl, hge, rfl⟩ := hrel
          have hls := low_step y m
          have hds := div_step y m
          have hps := two_pow_succ m
          have hdy := Nat.div_le_self y (2 ^ m)
          have hmy := Nat.mod_le y (2 ^ m)
          have hp1 := Nat.two_pow_pos m
          have hpy : 2 ^ m ≤ y := by
            by_cases hh : 2 ^ m ≤ y
            · exact hh
            · rw [Nat.div_eq_of_lt (by omega)] at hge; have := HF0.out; omega
          have hm13 : m < 13 := lt_of_pow (Nat.lt_of_le_of_lt hpy HY8.out)
          have hfin : y / 2 ^ m < 2 * F → lefts F y m := fun hh => ⟨hge, hh⟩
          obtain ⟨I, hI⟩ : ∃ I, y / 2 ^ m = I := ⟨_, rfl⟩
          obtain ⟨W, hW⟩ : ∃ W, y % 2 ^ m = W := ⟨_, rfl⟩
          obtain ⟨P, hP⟩ : ∃ P, 2 ^ m = P := ⟨_, rfl⟩
          rw [hI] at hls hds hdy hfin hge ⊢
          rw [hW] at hls hmy ⊢
          rw [hP] at hls hps hp1 hpy ⊢
          have hI8 : (I : Int) < 8192 := by omega
          have hW8 : (W : Int) < 8192 := by omega
          have hP8 : (P : Int) < 8192 := by have := HY8.out; omega
          have hmI : (m : Int) < 13 := by omega
          have HLS := Lib.hid hls; have HDS := Lib.hid hds; have HPS := Lib.hid hps; have HGE := Lib.hid hge; have HI := Lib.hid hI; have HW := Lib.hid hW; have HFIN := Lib.hid hfin
          clear hls hds hps hdy hmy hpy hm13 hfin hge hI hW hP
          by_cases hlt : I < 2 * F
          · have dl : decide (2 * (F : Int) ≤ (I : Int)) = false := decide_eq_false (by omega)
            have hpl := HPL.out wr H.out I (by omega)
            have HPL2 := Lib.hid hpl
            have hW32 : (W : Int) % 4294967296 = (W : Int) := by omega
            have HLT := Lib.hid hlt
            clear hpl hlt
            go_wp2_with fail
            refine HPL2.out.mono ?_
            rintro e w2 ⟨rfl, m2, rfl⟩
            go_wp2
            go_returns
            refine ⟨⟨fun hh => absurd HYES.out hh, fun _ => ⟨m, ?_, ?_⟩⟩, m2, rfl⟩
            · rw [HF.out, HL.out, Int.toNat_natCast, HY.out]; exact HFIN.out HLT.out
            · rw [HL.out, Int.toNat_natCast, HY.out, HI.out, HW.out]
          · have dl : decide (2 * (F : Int) ≤ (I : Int)) = true := decide_eq_true (by omega)
            obtain ⟨b, hb⟩ : ∃ b, I % 2 = b := ⟨_, rfl⟩
            obtain ⟨I2, hI2⟩ : ∃ I2, I / 2 = I2 := ⟨_, rfl⟩
            have hbT : (I : Int).tmod 2 = (b : Int) := by rw [Int.tmod_eq_emod_of_nonneg (by omega)]; omega
            have hI2T : (I : Int).tdiv 2 = (I2 : Int) := by rw [Int.tdiv_eq_ediv_of_nonneg (by omega)]; omega
            obtain ⟨Q, hQ⟩ : ∃ Q, b * P = Q := ⟨_, rfl⟩
            have hQI : (b : Int) * (P : Int) = (Q : Int) := by rw [← hQ]; simp
            have hQP : Q ≤ P := by rw [← hQ]; have : b = 0 ∨ b = 1 := by omega
                                   rcases this with h | h <;> rw [h] <;> omega
            have hls := HLS.out
            rw [hb, hQ] at hls
            have HLS2 := Lib.hid hls
            have hds := HDS.out
            rw [hI2] at hds
            have HDS2 := Lib.hid hds
            have hmeas : I2 < I := by have := HF0.out; omega
            have hge2 : F ≤ I2 := by omega
            have HME := Lib.hid hmeas; have HG2 := Lib.hid hge2
            clear hls hds hb hI2 hQ HLS HDS hlt HFIN hmeas hge2
            have hQ8 : (Q : Int) < 8192 := by omega
            have hwI2 : wrap64 (I2 : Int) = (I2 : Int) := by have := HME.out; unfold wrap64; omega
            go_wp2
            go_roundw
            case rel => exact ⟨m + 1, by rw [HDS2.out, hwI2], by go_num, by rw [HLS2.out]; go_num, by rw [HPS.out]; go_num, by rw [HDS2.out]; exact HG2.out, trivial⟩
            case measure => rw [hwI2]; simp [intOf]; exact HME.out

set_option maxHeartbeats 1000000 in
theorem r12many_any (v : Value) (q : List Int) (k : Nat) (w : World) (h : RdI w v q) (hq : NormQ q k) :
    Calls Try.prog 19 #[v] w fun e w' => e = .returned (.int .i64 ((countTo (fun t => decide (0 < fq q t)) 256 : Nat) : Int)) ∧ w' = w := by
  obtain ⟨ao, cap, rfl⟩ := h.form
  obtain ⟨g, off, rfl, -⟩ := h.at 0 (by rw [hq.1]; omega)
  have HQ := Lib.hid hq; have H := Lib.hid h
  obtain ⟨n, hn⟩ : ∃ n, q.length = n := ⟨_, rfl⟩
  have hn6 := hq.1
  rw [hn] at hn6 H ⊢
  have HN := Lib.hid hn6
  obtain ⟨p, hp⟩ : ∃ p : Nat → Bool, p = fun t => decide (0 < fq q t) := ⟨_, rfl⟩
  have hpa : ∀ t, p t = decide (0 < fq q t) := fun t => by rw [hp]
  rw [← hp]
  have HPA := Lib.hid hpa
  clear hq h hn hn6 hp hpa
  go_enter Try.func19, Try.ntmps19
  go_wp2
  go_loopw [3, 4] (fun o3 o4 wr => ∃ t : Nat, t ≤ 256 ∧ o4 = .int .i64 (t : Int) ∧ o3 = .int .i64 ((countTo p t : Nat) : Int) ∧ wr = w) (fun _ o4 _ => 256 - (intOf o4).toNat)
  case atStart => exact ⟨0, Nat.zero_le _, rfl, rfl, rfl⟩
  case round =>
    obtain ⟨t, ht, rfl, rfl, rfl⟩ := hrel
    have hcl := countTo_le p t
    have hcs : countTo p (t + 1) = countTo p t + if p t then 1 else 0 := rfl
    rw [HPA.out t] at hcs
    obtain ⟨c, hc⟩ : ∃ c, countTo p t = c := ⟨_, rfl⟩
    rw [hc] at hcl hcs ⊢
    have HCC := Lib.hid hc
    clear hc
    by_cases hlt : t < 256
    · have hcell := HQ.out.cell H.out t hlt
      have htn : t < n := by have := HN.out; omega
      obtain ⟨F, hF⟩ : ∃ F, fq q t = F := ⟨_, rfl⟩
      rw [hF] at hcell hcs
      clear hF
      by_cases h0 : 0 < F
      · rw [decide_eq_true h0] at hcs
        have HCS := Lib.hid hcs
        clear hcs
        go_wp2
        go_roundw
        case rel => exact ⟨t + 1, by omega, by go_num, by rw [HCS.out]; go_num, trivial⟩
        case measure => simp [intOf]; omega
      · rw [decide_eq_false h0] at hcs
        have HCS := Lib.hid hcs
        have d0 : F = 0 := by omega
        clear hcs
        subst d0
        go_wp2
        go_roundw
        case rel => exact ⟨t + 1, by omega, by go_num, by rw [HCS.out]; go_num, trivial⟩
        case measure => simp [intOf]; omega
    · have ht6 : t = 256 := by omega
      have htn : ¬ t < n := by have := HN.out; omega
      have hM : countTo p 256 = c := by rw [← ht6]; exact HCC.out
      have HM := Lib.hid hM
      clear hM hcs ht6
      go_wp2
      go_ret
      rw [HM.out]
      exact ⟨rfl, rfl⟩

end Go.Proofs.Ytkdfifkmgpogfaa

/- Plain: the places of a symbol in a spread, and the binary search for the bits that are left over. -/
namespace Go.Proofs.Ytkdfifkmgpogfaa
open Go

/-- the places below p of the symbol s -/
def posL (l : List Nat) (s : Nat) : Nat → List Int
  | 0 => []
  | p + 1 => if l.getD p 0 = s then posL l s p ++ [(p : Int)] else posL l s p
theorem posL_hit {l : List Nat} {s p : Nat} (h : l.getD p 0 = s) : posL l s (p + 1) = posL l s p ++ [(p : Int)] := if_pos h
theorem posL_miss {l : List Nat} {s p : Nat} (h : l.getD p 0 ≠ s) : posL l s (p + 1) = posL l s p := if_neg h
theorem posL_length (l : List Nat) (s : Nat) : ∀ p, (posL l s p).length = countTo (fun a => decide (l.getD a 0 = s)) p
  | 0 => rfl
  | p + 1 => by
    simp only [countTo]
    by_cases h : l.getD p 0 = s
    · rw [posL_hit h, List.length_append, posL_length l s p, if_pos (decide_eq_true h)]; rfl
    · rw [posL_miss h, posL_length l s p, if_neg (by simpa using h)]; rfl
theorem posL_at (l : List Nat) (s : Nat) {a : Nat} (ha : l.getD a 0 = s) : ∀ p, a < p → (posL l s p)[countTo (fun a => decide (l.getD a 0 = s)) a]? = some (a : Int)
  | 0, h => by omega
  | p + 1, h => by
    by_cases e : a = p
    · subst e
      rw [posL_hit ha, List.getElem?_append_right (by rw [posL_length]; exact Nat.le_refl _), posL_length, Nat.sub_self]; rfl
    · have ih := posL_at l s ha p (by omega)
      have hlt := (List.getElem?_eq_some_iff.1 ih).1
      by_cases hp : l.getD p 0 = s
      · rw [posL_hit hp, List.getElem?_append_left hlt]; exact ih
      · rw [posL_miss hp]; exact ih
/-- a symbol's places are its keys', in their order -/
theorem IsSpread.pos {f : Nat → Nat} {N : Nat} {l : List Nat} (h : IsSpread f N l) {s d : Nat} (hs : s < N) (hd : d < f s) :
    (posL l s l.length)[d]? = some ((placeF f N s (f s + d) : Nat) : Int) := by
  have h1 := posL_at l s (h.at' s d hs hd) l.length (by rw [h.len]; exact place_room hs hd)
  rwa [h.nth hs hd] at h1
theorem IsSpread.pos_length {f : Nat → Nat} {N : Nat} {l : List Nat} (h : IsSpread f N l) {s : Nat} (hs : s < N) : (posL l s l.length).length = f s := by
  rw [posL_length, h.all hs]
theorem posL_none {l : List Nat} {s : Nat} (p : Nat) (hp : p ≤ l.length) (h : ∀ x ∈ l, x ≠ s) : posL l s p = [] := by
  rw [← List.length_eq_zero_iff, posL_length]
  exact countTo_none _ _ fun a ha => decide_eq_false (by
    rw [List.getD_eq_getElem?_getD, List.getElem?_eq_getElem (show a < l.length by omega)]
    exact h _ (List.getElem_mem _))

/-- halves fall -/
theorem div_fall (y : Nat) {a b : Nat} (h : a ≤ b) : y / 2 ^ b ≤ y / 2 ^ a := Nat.div_le_div_left (Nat.pow_le_pow_right (by decide) h) (Nat.two_pow_pos a)
/-- the least number of bits without which y comes below twice q leaves no less than q -/
theorem lefts_least {R q x n : Nat} (h1 : 1 ≤ q) (h2 : q ≤ 2 ^ R) (hx : x < 2 ^ R) (hn : n ≤ R)
    (lo : ∀ m, m < n → ¬ (2 ^ R + x) / 2 ^ m < 2 * q) (hi : ∀ m, n ≤ m → m < R → (2 ^ R + x) / 2 ^ m < 2 * q) : lefts q (2 ^ R + x) n := by
  obtain ⟨m, hm, hl⟩ := lefts_some h1 h2 hx
  have hmn : m = n := by
    by_cases hlt : m < n
    · exact absurd hl.2 (lo m hlt)
    · by_cases hgt : n < m
      · have a1 := hi n (Nat.le_refl _) (by omega)
        have a2 := half_more (y := 2 ^ R + x) hgt
        have a3 := hl.1
        omega
      · omega
  rw [← hmn]; exact hl

end Go.Proofs.Ytkdfifkmgpogfaa

/- append(s, x...): numbers x that are read, nil or not, onto a row of numbers of the call's own. -/
namespace Go.Proofs.Ytkdfifkmgpogfaa
open Go.RowKit

theorem RdI.news {w : World} {a : Addr} {n cap : Nat} {xs : List Int} (h : RdI w (.slice (some a) n cap) xs) : ∀ j u, (iw xs)[j]? = some u → w.cell? (a.add j) = some u := by
  intro j u hu
  rcases h with ⟨rfl, _⟩ | ⟨g, off, cap', he, hc⟩
  · simp [iw] at hu
  · simp only [Value.slice.injEq, Option.some.injEq] at he
    obtain ⟨rfl, rfl, rfl⟩ := he
    have hj : j < xs.length := by rw [← iw_length]; exact (List.getElem?_eq_some_iff.1 hu).1
    rw [iw_get xs j hj] at hu
    rw [← Option.some.inj hu, add_lit]
    exact hc j hj
theorem iw_one (xs : List Int) : ∀ u ∈ iw xs, u.oneCell' = true := by
  intro u hu
  simp only [iw, List.mem_map] at hu
  obtain ⟨x, _, rfl⟩ := hu
  rfl
theorem run_appendI_nil (w : World) (ty : TypeId) (base n c : Nat) (v : Value) (ys : List Value) (hown : w.ownsRow base 3 1 v n ys) :
    (Builtin.append_ #[22, 22] ty #[v, .slice none 0 c]).run Try.prog w = .ok v w := by
  obtain ⟨i, hi, hz0, hz1, hz2⟩ := info_parts Try.infoInt
  rcases hown.2 with ⟨rfl, _⟩ | ⟨g, cap, cur, rfl, _, hg, hn, _⟩
  · simp [Builtin.append_, run_underlying Try.underlying22, sizeOf, typeInfo, hi, Builtin.lenOf, Builtin.firstCells]
  · simp [Builtin.append_, run_underlying Try.underlying22, sizeOf, typeInfo, hi, Builtin.lenOf, Builtin.firstCells, hn, storeCells]

theorem wp_append_ints {o : Oper} {a : Act} {w : World} {K : Act → World → Prop} {Q : Exit → Act → World → Prop} (s x : Operand)
    (ho : o.op = .call { callee := .builtin .append, args := #[s, x], argTypes := #[22, 22] })
    (base : Nat) (v : Value) (ys : List Int) (hs : a.eval s = v) (hown : w.ownsRow base 3 1 v ys.length (iw ys))
    (u : Value) (xs : List Int) (hx : a.eval x = u) (hr : RdI w u xs) (hb : base ≤ w.heap.size) (hl : ys.length + xs.length < 100000000000)
    (h : ∀ v' w', w'.ownsRow base 3 1 v' (ys ++ xs).length (iw (ys ++ xs)) → Chg (fun k => some k = v.ownBlock) w w' → K (a.put o.dst v') w') : o.wp Try.prog a w K Q := by
  obtain ⟨i, hi, hz0, hz1, hz2⟩ := info_parts Try.infoInt
  obtain ⟨ao, cap, hu⟩ := hr.form
  subst hu
  cases ao with
  | none =>
    have h0 : xs = [] := by
      rcases hr with ⟨h0, _⟩ | ⟨g, off, cap', he, _⟩
      · exact h0
      · simp at he
    subst h0
    have hrun := run_appendI_nil w o.type base ys.length cap v (iw ys) hown
    rw [List.length_nil] at hx
    unfold Oper.wp execOp
    simp only [ho, resolve, invoke, builtin, Sem.run_bind, Sem.run_pure, Result.andThen_ok, List.map_toArray, List.map_cons, List.map_nil, hs, hx, hrun]
    exact h v w (by rw [List.append_nil]; exact hown) (Chg.refl _ _)
  | some ad =>
    refine wp_append_own w s x 22 ho base 3 i (.int .i64 0) 1 8 Try.underlying22 hi hz0 hz1 hz2 rfl (by decide) v ys.length (iw ys) hs hown ad xs.length cap (iw xs) hx (by rw [iw_length, Nat.mul_one]) (RdI.news hr) (iw_one xs) (by unfold maxLen; omega) (by omega) hb fun v' w' h2 h3 _ => ?_
    exact h v' w' (by rw [List.length_append, show iw (ys ++ xs) = iw ys ++ iw xs from by simp [iw]]; exact h2) (Chg.of_grown h3)

theorem wpList_append_ints {ops : Array Oper} {rest : List Oper} {o : Oper} {a : Act} {w : World} {Q : Exit → Act → World → Prop} (hgd : o.guard = none) (s x : Operand)
    (ho : o.op = .call { callee := .builtin .append, args := #[s, x], argTypes := #[22, 22] })
    (base : Nat) (v : Value) (ys : List Int) (hs : a.eval s = v) (hown : w.ownsRow base 3 1 v ys.length (iw ys))
    (u : Value) (xs : List Int) (hx : a.eval x = u) (hr : RdI w u xs) (hb : base ≤ w.heap.size) (hl : ys.length + xs.length < 100000000000)
    (h : ∀ v' w', w'.ownsRow base 3 1 v' (ys ++ xs).length (iw (ys ++ xs)) → Chg (fun k => some k = v.ownBlock) w w' → wpList Try.prog ops Q rest (a.put o.dst v') w') :
    wpList Try.prog ops Q (o :: rest) a w :=
  wpList_plain hgd fun _ hK => wp_append_ints s x ho base v ys hs hown u xs hx hr hb hl fun v' w' h2 h3 => hK _ _ (h v' w' h2 h3)

/-- numbers that the call has laid -/
theorem rdi_new (w : World) (xs : List Int) (cs : Array Value) (n : Nat) (fr : Nat × Nat) (h : cs.toList = iw xs) (hn : n = xs.length) : RdI (w.alloc (.cells cs 3 fr)) (.slice (some ⟨w.heap.size, 0, none⟩) n n) xs := by
  subst hn
  refine .inr ⟨w.heap.size, 0, xs.length, rfl, fun j hj => ?_⟩
  rw [cell_of_row _ _ _ _ _ _ (heap_alloc_new w _), Nat.zero_add, ← Array.getElem?_toList, h, iw_get xs j hj]

theorem RdI.of_own {w : World} {base : Nat} {v : Value} {n : Nat} {xs : List Int} (h : w.ownsRow base 3 1 v n (iw xs)) : RdI w v xs := by
  have hl := h.1
  rw [iw_length] at hl
  rcases h.2 with ⟨rfl, rfl⟩ | ⟨g, cap, cur, rfl, _⟩
  · exact .inl ⟨List.eq_nil_of_length_eq_zero (by omega), none, 0, rfl⟩
  · refine .inr ⟨g, 0, cap, by simp [hl], fun j hj => ?_⟩
    rw [Nat.zero_add, h.cellAt j (by omega), iw_get xs j hj]

/-- nil is a row of no numbers -/
theorem nil_owns (w : World) (base : Nat) : w.ownsRow base 3 1 (.slice none 0 0) ([] : List Int).length (iw []) := ⟨rfl, .inl ⟨rfl, rfl⟩⟩

end Go.Proofs.Ytkdfifkmgpogfaa

/- What etab's number tells (without, fits, lowest), and sort.Search over fits. THIS SPEAKS OF THE PROGRAM'S OWN TEXT. -/
namespace Go.Proofs.Ytkdfifkmgpogfaa
open Go.RowKit

/-- a number, and what it must come below, in a block -/
def Nb (w : World) (g : Nat) (y b : Int) : Prop := w.heap[g]? = some (.cells #[.int .i64 y, .int .i64 b] 62 (0, 0))
theorem Nb.cells {w : World} {g : Nat} {y b : Int} (h : Nb w g y b) : w.cell? ⟨g, 0, none⟩ = some (.int .i64 y) ∧ w.cell? ⟨g, 1, none⟩ = some (.int .i64 b) := by
  refine ⟨?_, ?_⟩
  · rw [cell_of_row _ _ 0 _ _ _ h]; rfl
  · rw [cell_of_row _ _ 1 _ _ _ h]; rfl
theorem Nb.kept {S : Nat → Prop} {w w' : World} {g : Nat} {y b : Int} (h : Nb w g y b) (hc : Chg S w w') (hS : ¬ S g) : Nb w' g y b := (hc.block g (lt_of_block h) hS).trans h
theorem Nb.made (w : World) (y b : Int) : Nb (w.alloc (.cells #[.int .i64 y, .int .i64 b] 62)) w.heap.size y b := heap_alloc_new w _

theorem shr_div (y n : Nat) : ((y / 2 ^ n : Nat) : Int) = (y : Int) / (2 : Int) ^ n := by simp

set_option maxHeartbeats 600000 in
theorem ewithout_any (y n : Nat) (b : Int) (w : World) (hy : y ≤ 100000) (hn : n ≤ 60) :
    Calls Try.prog 29 #[.agg #[.int .i64 (y : Int), .int .i64 b], .int .i64 (n : Int)] w fun e w' => e = .returned (.int .i64 ((y / 2 ^ n : Nat) : Int)) ∧ Chg (fun _ => False) w w' := by
  have hb := Nb.made w (y : Int) b
  have hc := Chg.alloc (fun _ => False) w (.cells #[.int .i64 (y : Int), .int .i64 b] 62)
  obtain ⟨W, hW⟩ : ∃ W, w.alloc (.cells #[.int .i64 (y : Int), .int .i64 b] 62) = W := ⟨_, rfl⟩
  obtain ⟨G, hG⟩ : ∃ G, w.heap.size = G := ⟨_, rfl⟩
  rw [hW] at hb hc
  rw [hG] at hb
  obtain ⟨c0, c1⟩ := hb.cells
  have HC := Lib.hid hc
  have hS := shr_div y n
  have hz : y / 2 ^ n ≤ y := Nat.div_le_self _ _
  obtain ⟨Z, hZ⟩ : ∃ Z, y / 2 ^ n = Z := ⟨_, rfl⟩
  rw [hZ] at hS hz ⊢
  have hw : IntKind.i64.wrap (Z : Int) = (Z : Int) := by rw [IntKind.wrap_i64]; omega
  have HS := Lib.hid hS
  clear hb hc hZ hS
  go_enter Try.func29, Try.ntmps29
  go_wp2
  go_ret
  exact ⟨by rw [HS.out]; rfl, HC.out⟩

set_option maxHeartbeats 600000 in
theorem elowest_any (y n : Nat) (b : Int) (w : World) (hy : y ≤ 100000) (hn : n ≤ 60) (hp : y / 2 ^ n * 2 ^ n ≤ y) :
    Calls Try.prog 30 #[.agg #[.int .i64 (y : Int), .int .i64 b], .int .i64 (n : Int)] w fun e w' => e = .returned (.int .u32 ((y % 2 ^ n : Nat) : Int)) ∧ Chg (fun _ => False) w w' := by
  have hb := Nb.made w (y : Int) b
  have hc := Chg.alloc (fun _ => False) w (.cells #[.int .i64 (y : Int), .int .i64 b] 62)
  obtain ⟨W, hW⟩ : ∃ W, w.alloc (.cells #[.int .i64 (y : Int), .int .i64 b] 62) = W := ⟨_, rfl⟩
  obtain ⟨G, hG⟩ : ∃ G, w.heap.size = G := ⟨_, rfl⟩
  rw [hW] at hb hc
  rw [hG] at hb
  have HB := Lib.hid hb; have HC := Lib.hid hc
  obtain ⟨c0, c1⟩ := hb.cells
  have HWO := Lib.hid fun W1 => ewithout_any y n b W1 hy hn
  have hmod : y % 2 ^ n = y - y / 2 ^ n * 2 ^ n := by have := Nat.div_add_mod y (2 ^ n); rw [Nat.mul_comm] at this; omega
  have hzy : y / 2 ^ n ≤ y := Nat.div_le_self _ _
  have hz0 : 0 < y → y / 2 ^ n * 2 ^ n ≤ y := fun _ => hp
  obtain ⟨Z, hZ⟩ : ∃ Z, y / 2 ^ n = Z := ⟨_, rfl⟩
  rw [hZ] at hmod hzy hp HWO
  obtain ⟨M, hM⟩ : ∃ M, Z * 2 ^ n = M := ⟨_, rfl⟩
  have hMI : (Z : Int) * (2 : Int) ^ n = (M : Int) := by rw [← hM]; simp
  rw [hM] at hp hmod
  have hw1 : IntKind.i64.wrap (M : Int) = (M : Int) := by rw [IntKind.wrap_i64]; omega
  have hw2 : IntKind.i64.wrap ((y : Int) - (M : Int)) = ((y - M : Nat) : Int) := by rw [IntKind.wrap_i64]; omega
  have hw3 : IntKind.u32.wrap ((y - M : Nat) : Int) = ((y - M : Nat) : Int) := by rw [IntKind.wrap_u32]; omega
  have hn64 : (n : Int) < 64 := by omega
  have HMO := Lib.hid hmod
  clear hb hc hZ hM hmod hz0 hzy hp
  go_enter Try.func30, Try.ntmps30
  go_wp2
  go_region_held3 (fun W => W.cell? ⟨G, 0, none⟩ = some (.int .i64 (y : Int)) ∧ W.cell? ⟨G, 1, none⟩ = some (.int .i64 b)) (first | exact ⟨c0, c1⟩ | exact ⟨k0, k1⟩) (first
    | (go_at_call 29; refine (HWO.out _).mono ?_; rintro e w1 ⟨rfl, hc1⟩; have hc2 := (Chg.refl (fun _ => False) W).drew.trans hc1 fun _ _ h => h; obtain ⟨k0, k1⟩ := (HB.out.kept hc2 (fun h => h)).cells; have HC2 := Lib.hid (HC.out.trans hc2 fun _ _ h => h); clear hc1 hc2))
  go_wp2
  go_ret
  exact ⟨by rw [HMO.out]; rfl, HC2.out⟩

set_option maxHeartbeats 600000 in
theorem efits_any (y n : Nat) (b : Int) (w : World) (hy : y ≤ 100000) (hn : n ≤ 60) :
    Calls Try.prog 28 #[.agg #[.int .i64 (y : Int), .int .i64 b], .int .i64 (n : Int)] w fun e w' => e = .returned (.bool (decide (((y / 2 ^ n : Nat) : Int) < b))) ∧ Chg (fun _ => False) w w' := by
  have hb := Nb.made w (y : Int) b
  have hc := Chg.alloc (fun _ => False) w (.cells #[.int .i64 (y : Int), .int .i64 b] 62)
  obtain ⟨W, hW⟩ : ∃ W, w.alloc (.cells #[.int .i64 (y : Int), .int .i64 b] 62) = W := ⟨_, rfl⟩
  obtain ⟨G, hG⟩ : ∃ G, w.heap.size = G := ⟨_, rfl⟩
  rw [hW] at hb hc
  rw [hG] at hb
  have HB := Lib.hid hb; have HC := Lib.hid hc
  obtain ⟨c0, c1⟩ := hb.cells
  have HWO := Lib.hid fun W1 => ewithout_any y n b W1 hy hn
  obtain ⟨Z, hZ⟩ : ∃ Z, y / 2 ^ n = Z := ⟨_, rfl⟩
  rw [hZ] at HWO ⊢
  clear hb hc hZ
  go_enter Try.func28, Try.ntmps28
  go_wp2
  go_region_held3 (fun W => W.cell? ⟨G, 0, none⟩ = some (.int .i64 (y : Int)) ∧ W.cell? ⟨G, 1, none⟩ = some (.int .i64 b)) (first | exact ⟨c0, c1⟩ | exact ⟨k0, k1⟩) (first
    | (go_at_call 29; refine (HWO.out _).mono ?_; rintro e w1 ⟨rfl, hc1⟩; have hc2 := (Chg.refl (fun _ => False) W).drew.trans hc1 fun _ _ h => h; obtain ⟨k0, k1⟩ := (HB.out.kept hc2 (fun h => h)).cells; have HC2 := Lib.hid (HC.out.trans hc2 fun _ _ h => h); clear hc1 hc2))
  go_wp2
  go_ret
  exact ⟨rfl, HC2.out⟩

/-- sort.Search, of the bits that are left over -/
def LeastBits (y : Nat) (b : Int) (n r : Nat) : Prop := r ≤ n ∧ (∀ t, t < r → b ≤ ((y / 2 ^ t : Nat) : Int)) ∧ ∀ t, r ≤ t → t < n → ((y / 2 ^ t : Nat) : Int) < b

set_option maxHeartbeats 2000000 in
set_option maxRecDepth 100000 in
theorem esearch_any (y n : Nat) (b : Int) (w : World) (hy : y ≤ 100000) (hn : n ≤ 12) :
    Calls Try.prog 27 #[.int .i64 (n : Int), .func (.func 28) #[.agg #[.int .i64 (y : Int), .int .i64 b]] #[]] w fun e w' => (∃ r : Nat, e = .returned (.int .i64 (r : Int)) ∧ LeastBits y b n r) ∧ Chg (fun _ => False) w w' := by
  have HF := Lib.hid fun (t : Nat) (ht : t ≤ 60) W => efits_any y t b W hy ht
  have HM := Lib.hid fun (a c : Nat) (h : a ≤ c) (hp : ((y / 2 ^ a : Nat) : Int) < b) => (show ((y / 2 ^ c : Nat) : Int) < b from by have := div_fall y h; omega)
  clear hy
  go_enter Try.func27, Try.ntmps27
  go_wp2
  go_loopg [5, 6] n (fun kx s5 s6 wr => ∃ (lo hi : Nat), s5 = .int .i64 lo ∧ s6 = .int .i64 hi ∧ lo ≤ hi ∧ hi ≤ n ∧ hi - lo ≤ kx ∧ Chg (fun _ => False) w wr ∧ Aside ((∀ t, t < lo → b ≤ ((y / 2 ^ t : Nat) : Int)) ∧ (∀ t, hi ≤ t → t < n → ((y / 2 ^ t : Nat) : Int) < b)))
  case atStart => exact ⟨0, n, rfl, rfl, Nat.zero_le _, Nat.le_refl _, by omega, Chg.refl _ _, (⟨fun t ht => absurd ht (Nat.not_lt_zero _), fun t h1 h2 => by omega⟩ : (∀ t, t < 0 → b ≤ ((y / 2 ^ t : Nat) : Int)) ∧ (∀ t, n ≤ t → t < n → ((y / 2 ^ t : Nat) : Int) < b))⟩
  case round =>
    obtain ⟨lo, hi, rfl, rfl, hlh, hin, hg, hc, I⟩ := hrel
    have HC := Lib.hid hc
    clear hc
    by_cases hlt : lo < hi
    · have hcf := HF.out ((lo + hi) / 2) (by omega)
      rw [show (((lo + hi) / 2 : Nat) : Int) = ((lo : Int) + (hi : Int)) / 2 by omega] at hcf
      have HCF := Lib.hid hcf
      clear hcf
      go_wp2_with fail
      refine (HCF.out _).mono ?_
      rintro e w1 ⟨rfl, hc1⟩
      have HC1 := Lib.hid (HC.out.trans hc1 fun _ _ h => h)
      clear hc1
      by_cases hp : ((y / 2 ^ ((lo + hi) / 2) : Nat) : Int) < b
      · rw [decide_eq_true hp]
        have HP := Lib.hid hp
        clear hp
        go_wp2
        go_roundg ((lo + hi) / 2 - lo)
        case measure => omega
        case rel =>
          have I2 : Aside ((∀ t, t < lo → b ≤ ((y / 2 ^ t : Nat) : Int)) ∧ (∀ t, (lo + hi) / 2 ≤ t → t < n → ((y / 2 ^ t : Nat) : Int) < b)) := ⟨I.out.1, fun t ht _ => HM.out _ t ht HP.out⟩
          exact ⟨lo, (lo + hi) / 2, rfl, by rw [show ((lo : Int) + (hi : Int)) / 2 = (((lo + hi) / 2 : Nat) : Int) by omega], by omega, by omega, Nat.le_refl _, HC1.out, I2⟩
      · rw [decide_eq_false hp]
        have HP := Lib.hid hp
        clear hp
        go_wp2
        go_roundg (hi - ((lo + hi) / 2 + 1))
        case measure => omega
        case rel =>
          have I2 : Aside ((∀ t, t < (lo + hi) / 2 + 1 → b ≤ ((y / 2 ^ t : Nat) : Int)) ∧ (∀ t, hi ≤ t → t < n → ((y / 2 ^ t : Nat) : Int) < b)) := ⟨fun t ht => by have h1 := HP.out; have h2 := HM.out t ((lo + hi) / 2) (by omega); omega, I.out.2⟩
          exact ⟨(lo + hi) / 2 + 1, hi, by rw [show ((lo : Int) + (hi : Int)) / 2 + 1 = (((lo + hi) / 2 + 1 : Nat) : Int) by omega], rfl, by omega, hin, Nat.le_refl _, HC1.out, I2⟩
    · obtain rfl : hi = lo := by omega
      go_wp2
      go_ret
      exact ⟨⟨hi, rfl, hin, I.out.1, I.out.2⟩, HC.out⟩

end Go.Proofs.Ytkdfifkmgpogfaa

/- A map of lists of places in memory: one that the call makes, symbol by symbol, and one that is read. -/
namespace Go.Proofs.Ytkdfifkmgpogfaa
open Go.RowKit Go.Maps Go.ChangeShapes Go.ChangeMaps Go.MapKept

theorem keyU8 : Keyed Try.prog 5 := int_keyed Try.underlying5
theorem zeroInts (w : World) : (zeroValue 22).run Try.prog w = .ok (.slice none 0 0) w := by kernel_rfl
theorem wf_u8 {s : Nat} (hs : s < 256) : (Lit.int .u8 (s : Int)).wf = true := by
  simp [Lit.wf, IntKind.min, IntKind.max, IntKind.bits, IntKind.signed]; omega
theorem key_u8 {s : Nat} (hs : s < 256) : keyOf Try.prog 5 (.int .u8 (s : Int)) = some (.int .u8 (s : Int)) := keyOf_int_mk Try.underlying5 (wf_u8 hs)

/-- a list as it reads in a map -/
def datL (l : List Int) : DataW Unit := if l = [] then .nil else .slice (lits .i64 l) []
theorem lits_inj {a b : List Int} (h : lits (H := Unit) .i64 a = lits .i64 b) : a = b := (List.map_inj_right (fun x y hxy => by simpa using hxy)).1 h
theorem datL_own {w : World} {base : Nat} {v : Value} {zs l : List Int} (h : w.ownsInts base 3 .i64 v zs) (hd : rowDatum (H := Unit) .i64 v zs = datL l) : zs = l := by
  unfold datL at hd
  rcases h.datum (H := Unit) with ⟨h1, h2⟩ | h1
  · rw [h1] at hd
    by_cases e : l = []
    · rw [h2, e]
    · rw [if_neg e] at hd; cases hd
  · rw [h1] at hd
    by_cases e : l = []
    · rw [if_pos e] at hd; cases hd
    · rw [if_neg e] at hd
      injection hd with hd
      exact lits_inj hd

theorem groups_kept {w w' : World} {P : Program} {k : TypeId} {base : Nat} {e : TypeId} {q : IntKind} {b n : Nat} {D : DataW Unit} (h : w.ownsGroups P k base e q b n D) (hc : Chg (fun _ => False) w w') : w'.ownsGroups P k base e q b n D := by
  obtain ⟨es, clock, hb, F, hs, rfl, hbb, hlen, hap⟩ := h
  have hg : w.grownBy w' none := ⟨hc.os, hc.tape, hc.output, hc.size, fun k hk _ => hc.block k hk (fun h => h)⟩
  have hno : ∀ v : Value, v.ownBlock = none ∨ v.ownBlock ≠ none := fun v => by cases v.ownBlock <;> simp
  obtain ⟨F2, hmap, _⟩ := F.stay (R' := rowElem (H := Unit) w' base e q) (fun x _ z hz => by
    obtain ⟨zs, ho, rfl⟩ := rowElem_inv hz
    exact rowElem_mk (ho.kept hg (hno _)))
  refine ⟨es, clock, (hc.block b (Array.getElem?_eq_some_iff.1 hb).1 (fun h => h)).trans hb, F2, hs, by rw [hmap], hbb, fun x hx zs ho => ?_, hap⟩
  obtain ⟨y, hy⟩ := F.reads x hx
  obtain ⟨z, hz, _⟩ := WideElems.rd_val hy
  obtain ⟨ys, ho0, rfl⟩ := rowElem_inv hz
  rw [ho.unique (ho0.kept hg (hno _))]
  exact hlen x hx ys ho0

/-- block b is a map of at most n lists, each in a row of its own from base on; that of s is g s -/
def Gm (w : World) (base b n : Nat) (g : Nat → List Int) : Prop :=
  ∃ D : DataW Unit, w.ownsGroups Try.prog 5 base 3 .i64 b n D ∧ IsMap D ∧ ∀ s : Nat, s < 256 → D.atKey (.int .u8 (s : Int)) .nil = datL (g s)
theorem Gm.kept {w w' : World} {base b n : Nat} {g : Nat → List Int} (h : Gm w base b n g) (hc : Chg (fun _ => False) w w') : Gm w' base b n g :=
  let ⟨D, h1, h2, h3⟩ := h; ⟨D, groups_kept h1 hc, h2, h3⟩
theorem Gm.made (w : World) : Gm (w.alloc (.map #[] 0)) (w.heap.size + 1) w.heap.size 0 (fun _ => []) :=
  ⟨.map [], World.ownsGroups_made _ _ _ _ _, isMap_empty, fun s _ => rfl⟩
theorem Gm.congr {w : World} {base b n : Nat} {g g' : Nat → List Int} (h : Gm w base b n g) (he : ∀ s : Nat, s < 256 → g s = g' s) : Gm w base b n g' :=
  let ⟨D, h1, h2, h3⟩ := h; ⟨D, h1, h2, fun s hs => by rw [h3 s hs, he s hs]⟩
/-- one more in the list of s -/
theorem Gm.put {w : World} {base b n : Nat} {g : Nat → List Int} {D : DataW Unit} {s : Nat} {v : Value} {zs : List Int} (hs : s < 256) (him : IsMap D) (hat : ∀ s : Nat, s < 256 → D.atKey (.int .u8 (s : Int)) .nil = datL (g s))
    (hne : zs ≠ []) {w1 : World} (ho : w1.ownsInts base 3 .i64 v zs) (hown : w.ownsGroups Try.prog 5 base 3 .i64 b n (D.put (.int .u8 (s : Int)) (rowDatum .i64 v zs))) : Gm w base b n (fun t => if t = s then zs else g t) := by
  refine ⟨_, hown, him.put _ _, fun t ht => ?_⟩
  by_cases e : t = s
  · subst e
    rw [atKey_put_same him (by trivial), ho.datum_pos hne]
    simp only [if_true, datL, if_neg hne]
  · rw [atKey_put_other (fun he => e (by injection he with _ h2; omega)), hat t ht]
    show datL (g t) = datL (if t = s then zs else g t)
    rw [if_neg e]
/-- the list of s, read -/
theorem Gm.look {w : World} {base b n : Nat} {g : Nat → List Int} (h : Gm w base b n g) (hn : n ≤ 100000) {s : Nat} (hs : s < 256) :
    ∃ v, (Instr.lookup 54 (.map (some b)) (.int .u8 (s : Int)) false).run Try.prog w = .ok v w ∧ RdI w v (g s) := by
  obtain ⟨D, h1, h2, h3⟩ := h
  have hn' : n < maxLen := by unfold maxLen; omega
  obtain ⟨v, zs, hrun, hat, ho, _, _⟩ := h1.at keyU8 Try.underlying54 (zeroInts w) hn' (key_u8 hs)
  have hz := datL_own ho (by rw [← hat, h3 s hs])
  exact ⟨v, hrun, by rw [← hz]; exact RdI.of_own ho.1⟩

end Go.Proofs.Ytkdfifkmgpogfaa

/- Rows of bytes in memory that may be written; make of bytes. -/
namespace Go.Proofs.Ytkdfifkmgpogfaa
open Go.RowKit

/-- A block that is a row of bytes, of any kind (a slice's, or an array's). -/
def RowB (w : World) (g : Nat) (t : TypeId) (xs : List Nat) : Prop := w.heap[g]? = some (.cells (bv xs).toArray t (0, 0))
theorem RowB.cell {w : World} {g : Nat} {t : TypeId} {xs : List Nat} (h : RowB w g t xs) (k : Nat) (hk : k < xs.length) : w.cell? ⟨g, k, none⟩ = some (.int .u8 ((xs.getD k 0 : Nat) : Int)) := by
  rw [cell_of_row w g k _ _ _ h, List.getElem?_toArray, bv_get xs k hk]
theorem RowB.free {w : World} {g : Nat} {t : TypeId} {xs : List Nat} (h : RowB w g t xs) (k : Nat) : w.frozen? ⟨g, k, none⟩ = false := frozen_of_row w g k _ _ h
theorem RowB.kept {S : Nat → Prop} {w w' : World} {g : Nat} {t : TypeId} {xs : List Nat} (h : RowB w g t xs) (hc : Chg S w w') (hS : ¬ S g) : RowB w' g t xs := (hc.block g (lt_of_block h) hS).trans h
theorem RowB.lt {w : World} {g : Nat} {t : TypeId} {xs : List Nat} (h : RowB w g t xs) : g < w.heap.size := lt_of_block h
theorem RowB.set {w : World} {g : Nat} {t : TypeId} {xs : List Nat} (h : RowB w g t xs) (i n : Nat) : RowB (w.setCell ⟨g, i, none⟩ (.int .u8 (n : Int))) g t (xs.set i n) := by
  have := heap_setCell_same w g i _ _ (.int .u8 (n : Int)) h
  unfold RowB
  rw [this, List.setIfInBounds_toArray, bv_set]
theorem RowB.rd {w : World} {g : Nat} {t : TypeId} {xs : List Nat} (h : RowB w g t xs) (cap : Nat) : RdB w (.slice (some ⟨g, 0, none⟩) xs.length cap) xs :=
  .inr ⟨g, 0, cap, rfl, fun j hj => by rw [Nat.zero_add]; exact h.cell j hj⟩

/-- The value v is a slice of the bytes xs, in memory from block base on, that may be written. -/
def OwnB (w : World) (base : Nat) (v : Value) (xs : List Nat) : Prop :=
  ∃ g off cap, v = .slice (some ⟨g, off, none⟩) xs.length cap ∧ base ≤ g ∧ g < w.heap.size ∧ (∀ j, j < xs.length → w.cell? ⟨g, off + j, none⟩ = some (.int .u8 ((xs.getD j 0 : Nat) : Int))) ∧ ∀ j, w.frozen? ⟨g, off + j, none⟩ = false
theorem OwnB.rd {w : World} {base : Nat} {v : Value} {xs : List Nat} (h : OwnB w base v xs) : RdB w v xs := by
  obtain ⟨g, off, cap, rfl, _, _, hc, _⟩ := h
  exact .inr ⟨g, off, cap, rfl, hc⟩
theorem OwnB.mono {w : World} {base base' : Nat} {v : Value} {xs : List Nat} (h : OwnB w base v xs) (hb : base' ≤ base) : OwnB w base' v xs := by
  obtain ⟨g, off, cap, rfl, h1, h2⟩ := h
  exact ⟨g, off, cap, rfl, Nat.le_trans hb h1, h2⟩
theorem RowB.own {w : World} {g : Nat} {t : TypeId} {xs : List Nat} (h : RowB w g t xs) (cap base : Nat) (hb : base ≤ g) : OwnB w base (.slice (some ⟨g, 0, none⟩) xs.length cap) xs :=
  ⟨g, 0, cap, rfl, hb, h.lt, fun j hj => by rw [Nat.zero_add]; exact h.cell j hj, fun j => by rw [Nat.zero_add]; exact h.free j⟩

theorem zeros_bvs (n : Nat) : (madeCells (Value.int .u8 0).cells (n * 1)).toList = bv (List.replicate n 0) := by
  rw [Nat.mul_one]
  apply List.ext_getElem (by simp [madeCells, bv])
  intro i h1 h2
  simp [madeCells, Value.cells, Nat.mod_one, bv]
theorem RowB.of_own {w : World} {base g n : Nat} {xs : List Nat} (h : w.ownsRow base 5 1 (.slice (some ⟨g, 0, none⟩) n n) n (bv xs)) : RowB w g 5 xs := by
  rcases h.2 with ⟨h0, _⟩ | ⟨g', cap, cur, he, _, hg, _, _, hs, ht⟩
  · simp at h0
  · simp only [Value.slice.injEq, Option.some.injEq, Addr.mk.injEq, and_true, true_and] at he
    obtain ⟨rfl, rfl⟩ := he
    have : cur = (bv xs).toArray := by
      apply Array.ext'
      rw [← ht, List.take_of_length_le (by rw [Array.length_toList, hs]; exact Nat.le_refl _)]
    rw [this] at hg
    exact hg
theorem wpList_make_bytes {ops : Array Oper} {rest : List Oper} {o : Oper} {a : Act} {w : World} {Q : Exit → Act → World → Prop} (hg : o.guard = none) (l c : Operand) (hop : o.op = Op.makeSlice 51 l c)
    (L C : Int) (n : Nat) (hl : a.eval l = .int .i64 L) (hc : a.eval c = .int .i64 C) (hL : L = (n : Int)) (hC : C = (n : Int)) (hn : n < 100000000000) (Z : List Nat) (hZ : Z = List.replicate n 0)
    (hK : ∀ w', RowB w' w.heap.size 5 Z → Chg (fun _ => False) w w' → wpList Try.prog ops Q rest (a.put o.dst (.slice (some ⟨w.heap.size, 0, none⟩) n n)) w') : wpList Try.prog ops Q (o :: rest) a w := by
  obtain ⟨i, hi, hz0, hz1, hz2⟩ := info_parts Try.infoU8
  refine wpList_make_full w hg l c 51 hop w.heap.size 5 i (.int .u8 0) 1 Try.underlying51 hi hz0 hz1 .i64 .i64 L C n hl hc hL hC (by rw [hz2]; omega) (by unfold maxLen; omega) (Nat.le_refl _) ?_
  intro w1 h1 h2
  rw [zeros_bvs, ← hZ] at h1
  exact hK w1 (RowB.of_own h1) ((Chg.of_grown h2).mono fun k _ hk => by simp at hk)

end Go.Proofs.Ytkdfifkmgpogfaa

/- What the document's own spread.Of (puncheonref10.Of) tells. -/
namespace Go.Proofs.Ytkdfifkmgpogfaa
open Go.RowKit

/-- what Of tells -/
def SpreadSays (w : World) (q : List Int) (e : Ending) (w' : World) : Prop :=
  ∃ v', e = .returned (.tuple #[v', .int .i64 (if logI (totalI q) = 0 then 1 else 0)]) ∧ (logI (totalI q) ≠ 0 → ∃ l, OwnB w' w.heap.size v' l ∧ IsSpread (fq q) 256 l) ∧ (logI (totalI q) = 0 → RdB w' v' []) ∧ Chg (fun _ => False) w w'

/-- the keys up to that of s and d stand in their places -/
def Done (f : Nat → Nat) (s d : Nat) (out : List Nat) : Prop := ∀ t e, (t < s ∧ e < f t) ∨ (t = s ∧ e < d) → out.getD (placeF f 256 t (f t + e)) 0 = t
theorem done_zero (f : Nat → Nat) (out : List Nat) : Done f 0 0 out := fun t e h => by omega
theorem done_next {f : Nat → Nat} {s : Nat} {out : List Nat} (h : Done f s (f s) out) : Done f (s + 1) 0 out := fun t e ht => by
  refine h t e ?_
  by_cases hts : t = s
  · subst hts; exact .inr ⟨rfl, by omega⟩
  · exact .inl ⟨by omega, by omega⟩
theorem done_step {f : Nat → Nat} {s d : Nat} {out : List Nat} (hl : out.length = sumTo f 256) (hs : s < 256) (hd : d < f s) (h : Done f s d out) : Done f s (d + 1) (out.set (placeF f 256 s (f s + d)) s) := fun t e ht => by
  have hp := place_room (f := f) (N := 256) hs hd
  rw [List.getD_eq_getElem?_getD]
  by_cases hk : t = s ∧ e = d
  · obtain ⟨rfl, rfl⟩ := hk
    rw [List.getElem?_set_self (by omega)]; rfl
  · have hte : t ≤ s ∧ e < f t := by
      rcases ht with ⟨h1, h2⟩ | ⟨rfl, h2⟩
      · exact ⟨by omega, h2⟩
      · exact ⟨Nat.le_refl _, by omega⟩
    rw [List.getElem?_set_ne (fun he => hk (by
      have := place_inj (f := f) (N := 256) hs (by omega) hd hte.2 he
      exact ⟨this.1.symm, this.2.symm⟩)), ← List.getD_eq_getElem?_getD]
    exact h t e (by omega)
theorem done_all {f : Nat → Nat} {out : List Nat} (hl : out.length = sumTo f 256) (h : Done f 256 0 out) : IsSpread f 256 out := ⟨hl, fun s d hs hd => h s d (.inl ⟨hs, hd⟩)⟩

end Go.Proofs.Ytkdfifkmgpogfaa

/- Plain: heaps, as container/heap keeps them (a row; who stands at k stands behind who stands at (k - 1) / 2). -/
namespace Go.Proofs.Ytkdfifkmgpogfaa
open Go

structure TotalOrd {α : Type} (le : α → α → Prop) : Prop where
  total : ∀ a b, le a b ∨ le b a
  trans : ∀ {a b c}, le a b → le b c → le a c

theorem TotalOrd.refl {α : Type} {le : α → α → Prop} (o : TotalOrd le) (a : α) : le a a := (o.total a a).elim id id

section
variable {α : Type} [Inhabited α]

/-- two have changed places -/
def swp (l : List α) (i j : Nat) : List α := (l.set i (l.getD j default)).set j (l.getD i default)
theorem swp_length (l : List α) (i j : Nat) : (swp l i j).length = l.length := by simp [swp]
theorem aset_getD (l : List α) (i k : Nat) (x : α) (hi : i < l.length) : (l.set i x).getD k default = if i = k then x else l.getD k default := by
  by_cases h : i = k
  · subst h; rw [if_pos rfl, List.getD_eq_getElem?_getD, List.getElem?_set_self hi]; rfl
  · rw [if_neg h, List.getD_eq_getElem?_getD, List.getElem?_set_ne h, ← List.getD_eq_getElem?_getD]
theorem swp_getD (l : List α) (i j k : Nat) (hi : i < l.length) (hj : j < l.length) : (swp l i j).getD k default = if j = k then l.getD i default else if i = k then l.getD j default else l.getD k default := by
  unfold swp
  rw [aset_getD _ _ _ _ (by simpa using hj), aset_getD _ _ _ _ hi]
theorem swp_perm (l : List α) (i j : Nat) (hi : i < l.length) (hj : j < l.length) : (swp l i j).Perm l := by
  classical
  rw [List.perm_iff_count]
  intro a
  have hp : l[i] ∈ l := List.getElem_mem hi
  have hgi : l.getD i default = l[i] := by rw [List.getD_eq_getElem?_getD, List.getElem?_eq_getElem hi]; rfl
  have hgj : l.getD j default = l[j] := by rw [List.getD_eq_getElem?_getD, List.getElem?_eq_getElem hj]; rfl
  have hs : swp l i j = (l.set i l[j]).set j l[i] := by unfold swp; rw [hgi, hgj]
  rw [hs, List.count_set (h := by simpa using hj), List.count_set (h := hi), List.getElem_set]
  by_cases hij : i = j
  · subst hij
    rw [if_pos rfl]
    have hc : (if (l[i] == a) = true then 1 else 0) ≤ l.count a := by
      split
      · next h => rw [List.one_le_count_iff]; have := LawfulBEq.eq_of_beq h; rw [← this]; exact hp
      · omega
    omega
  · rw [if_neg hij]
    have hc : (if (l[i] == a) = true then 1 else 0) ≤ l.count a := by
      split
      · next h => rw [List.one_le_count_iff]; have := LawfulBEq.eq_of_beq h; rw [← this]; exact hp
      · omega
    have hc2 : (if (l[j] == a) = true then 1 else 0) ≤ l.count a := by
      split
      · next h => rw [List.one_le_count_iff]; have := LawfulBEq.eq_of_beq h; rw [← this]; exact List.getElem_mem hj
      · omega
    omega

/-- the first n are a heap -/
def Heap (le : α → α → Prop) (l : List α) (n : Nat) : Prop := ∀ k, 0 < k → k < n → le (l.getD ((k - 1) / 2) default) (l.getD k default)

theorem Heap.least {le : α → α → Prop} (o : TotalOrd le) {l : List α} {n : Nat} (h : Heap le l n) : ∀ k, k < n → le (l.getD 0 default) (l.getD k default) := by
  intro k
  induction k using Nat.strongRecOn with
  | ind k ih =>
    intro hk
    by_cases h0 : k = 0
    · subst h0; exact o.refl _
    · exact o.trans (ih ((k - 1) / 2) (by omega) (by omega)) (h k (by omega) hk)

/-- a heap, but for who stands at j, that may stand too far behind -/
structure UpInv (le : α → α → Prop) (l : List α) (n j : Nat) : Prop where
  lt : j < n
  rest : ∀ k, 0 < k → k < n → k ≠ j → le (l.getD ((k - 1) / 2) default) (l.getD k default)
  over : ∀ k, 0 < k → k < n → (k - 1) / 2 = j → 0 < j → le (l.getD ((j - 1) / 2) default) (l.getD k default)

theorem UpInv.done {le : α → α → Prop} {l : List α} {n j : Nat} (h : UpInv le l n j) (hd : j = 0 ∨ le (l.getD ((j - 1) / 2) default) (l.getD j default)) : Heap le l n := by
  intro k h0 hk
  by_cases hkj : k = j
  · subst hkj
    rcases hd with hd | hd
    · omega
    · exact hd
  · exact h.rest k h0 hk hkj

theorem UpInv.step {le : α → α → Prop} (o : TotalOrd le) {l : List α} {n j : Nat} (hn : n ≤ l.length) (h : UpInv le l n j) (hj : 0 < j) (hl : ¬ le (l.getD ((j - 1) / 2) default) (l.getD j default)) : UpInv le (swp l ((j - 1) / 2) j) n ((j - 1) / 2) := by
  have hlt := h.lt
  obtain ⟨i, hi⟩ : ∃ i, (j - 1) / 2 = i := ⟨_, rfl⟩
  rw [hi] at hl ⊢
  have hij : i < j := by omega
  have hji : le (l.getD j default) (l.getD i default) := (o.total _ _).resolve_left hl
  have g := fun k => swp_getD l i j k (by omega) (by omega)
  refine ⟨by omega, fun k h0 hk hki => ?_, fun k h0 hk hpk hi0 => ?_⟩
  · rw [g, g]
    by_cases hkj : j = k
    · subst hkj
      rw [if_neg (show ¬ j = (j - 1) / 2 by omega), if_pos hi.symm, if_pos rfl]
      exact hji
    · rw [if_neg hkj, if_neg (show ¬ i = k from fun hh => hki hh.symm)]
      by_cases hp1 : j = (k - 1) / 2
      · rw [if_pos hp1]
        have := h.over k h0 hk hp1.symm hj
        rw [hi] at this
        exact this
      · rw [if_neg hp1]
        by_cases hp2 : i = (k - 1) / 2
        · rw [if_pos hp2]
          have := h.rest k h0 hk (fun hh => hkj hh.symm)
          rw [← hp2] at this
          exact o.trans hji this
        · rw [if_neg hp2]
          exact h.rest k h0 hk (fun hh => hkj hh.symm)
  · rw [g, g]
    have hpi : le (l.getD ((i - 1) / 2) default) (l.getD i default) := h.rest i hi0 (by omega) (by omega)
    rw [if_neg (show ¬ j = (i - 1) / 2 by omega), if_neg (show ¬ i = (i - 1) / 2 by omega)]
    by_cases hkj : j = k
    · rw [if_pos hkj]; exact hpi
    · rw [if_neg hkj, if_neg (show ¬ i = k by omega)]
      have := h.rest k h0 hk (fun hh => hkj hh.symm)
      rw [hpk] at this
      exact o.trans hpi this

/-- the first n are a heap, as far as those go whose parents stand at lo or behind -/
def HeapFrom (le : α → α → Prop) (l : List α) (n lo : Nat) : Prop := ∀ k, 0 < k → k < n → lo ≤ (k - 1) / 2 → le (l.getD ((k - 1) / 2) default) (l.getD k default)
theorem HeapFrom.heap {le : α → α → Prop} {l : List α} {n : Nat} (h : HeapFrom le l n 0) : Heap le l n := fun k h0 hk => h k h0 hk (Nat.zero_le _)
theorem Heap.all {le : α → α → Prop} {l : List α} {n : Nat} (h : Heap le l n) : HeapFrom le l n 0 := fun k h0 hk _ => h k h0 hk

/-- a heap (from lo on), but for who stands at i, that may stand too far ahead -/
structure DownInv (le : α → α → Prop) (l : List α) (n lo i : Nat) : Prop where
  ge : lo ≤ i
  rest : ∀ k, 0 < k → k < n → lo ≤ (k - 1) / 2 → (k - 1) / 2 ≠ i → le (l.getD ((k - 1) / 2) default) (l.getD k default)
  over : ∀ k, 0 < k → k < n → (k - 1) / 2 = i → 0 < i → lo ≤ (i - 1) / 2 → le (l.getD ((i - 1) / 2) default) (l.getD k default)

theorem DownInv.done {le : α → α → Prop} {l : List α} {n lo i : Nat} (h : DownInv le l n lo i) (hd : ∀ k, 0 < k → k < n → (k - 1) / 2 = i → le (l.getD i default) (l.getD k default)) : HeapFrom le l n lo := by
  intro k h0 hk hlo
  by_cases hp : (k - 1) / 2 = i
  · rw [hp]; exact hd k h0 hk hp
  · exact h.rest k h0 hk hlo hp

theorem DownInv.step {le : α → α → Prop} (o : TotalOrd le) {l : List α} {n lo i j : Nat} (hn : n ≤ l.length) (h : DownInv le l n lo i) (hj0 : 0 < j) (hjn : j < n) (hpj : (j - 1) / 2 = i)
    (hmin : ∀ k, 0 < k → k < n → (k - 1) / 2 = i → le (l.getD j default) (l.getD k default)) (hji : le (l.getD j default) (l.getD i default)) : DownInv le (swp l i j) n lo j := by
  have hij : i < j := by omega
  have hge := h.ge
  have g := fun k => swp_getD l i j k (by omega) (by omega)
  refine ⟨by omega, fun k h0 hk hlo hpk => ?_, fun k h0 hk hpk hj hlo => ?_⟩
  · rw [g, g]
    rw [if_neg (show ¬ j = (k - 1) / 2 from fun hh => hpk hh.symm)]
    by_cases hpi : i = (k - 1) / 2
    · rw [if_pos hpi]
      by_cases hkj : j = k
      · rw [if_pos hkj]; exact hji
      · rw [if_neg hkj, if_neg (show ¬ i = k by omega)]
        exact hmin k h0 hk hpi.symm
    · rw [if_neg hpi, if_neg (show ¬ j = k by omega)]
      by_cases hki : i = k
      · subst hki
        rw [if_pos rfl]
        exact h.over j hj0 hjn hpj h0 hlo
      · rw [if_neg hki]
        exact h.rest k h0 hk hlo (fun hh => hpi hh.symm)
  · rw [g, g]
    rw [if_neg (show ¬ j = (j - 1) / 2 by omega), if_pos hpj.symm, if_neg (show ¬ j = k by omega), if_neg (show ¬ i = k by omega)]
    have := h.rest k h0 hk (by omega) (by omega)
    rw [hpk] at this
    exact this

theorem DownInv.start {le : α → α → Prop} {l : List α} {n i : Nat} (h : HeapFrom le l n (i + 1)) : DownInv le l n i i :=
  ⟨Nat.le_refl _, fun k h0 hk hlo hne => h k h0 hk (by omega), fun k h0 hk hp hi hlo => by omega⟩

/-- a heap, one behind it: it may stand too far behind -/
theorem UpInv.pushed {le : α → α → Prop} {l : List α} (h : Heap le l l.length) (x : α) : UpInv le (l ++ [x]) (l.length + 1) l.length := by
  have g : ∀ k, k < l.length → (l ++ [x]).getD k default = l.getD k default := fun k hk => by
    rw [List.getD_eq_getElem?_getD, List.getElem?_append_left hk, ← List.getD_eq_getElem?_getD]
  refine ⟨by omega, fun k h0 hk hkl => ?_, fun k h0 hk hp _ => by omega⟩
  rw [g k (by omega), g ((k - 1) / 2) (by omega)]
  exact h k h0 (by omega)

/-- the last one put first: it may stand too far ahead -/
theorem DownInv.popped {le : α → α → Prop} {l : List α} {n : Nat} (hl : l.length = n + 1) (h : Heap le l (n + 1)) : DownInv le (swp l 0 n) n 0 0 := by
  have g := fun k => swp_getD l 0 n k (by omega) (by omega)
  refine ⟨Nat.le_refl _, fun k h0 hk _ hp => ?_, fun k h0 hk hp hh => by omega⟩
  rw [g, g, if_neg (show ¬ n = (k - 1) / 2 by omega), if_neg (show ¬ 0 = (k - 1) / 2 by omega), if_neg (show ¬ n = k by omega), if_neg (show ¬ 0 = k by omega)]
  exact h k h0 (by omega)

/-- who stands first was changed: it may stand too far ahead -/
theorem DownInv.changed0 {le : α → α → Prop} {l : List α} {n : Nat} (x : α) (hi : 0 < l.length) (h : Heap le l n) : DownInv le (l.set 0 x) n 0 0 := by
  have g := fun k => aset_getD l 0 k x hi
  refine ⟨Nat.le_refl _, fun k h0 hk _ hp => ?_, fun k h0 hk hp h0i _ => by omega⟩
  rw [g, g, if_neg (show ¬ 0 = k by omega), if_neg (fun hh => hp hh.symm)]
  exact h k h0 hk

theorem UpInv.of_heap {le : α → α → Prop} {l : List α} {n : Nat} (h : Heap le l n) (h0 : 0 < n) : UpInv le l n 0 := ⟨h0, fun k h0 hk _ => h k h0 hk, fun k _ _ _ h => by omega⟩

theorem HeapFrom.leaves {le : α → α → Prop} {l : List α} {n lo : Nat} (h : n ≤ 2 * lo + 1) : HeapFrom le l n lo := fun k h0 hk hlo => by omega

/-- the last one apart -/
theorem last_apart (l : List α) (n : Nat) (h : l.length = n + 1) : l = l.take n ++ [l.getD n default] := by
  rw [List.getD_eq_getElem?_getD, List.getElem?_eq_getElem (by omega)]
  have := List.take_append_getElem (l := l) (i := n) (by omega)
  simp only [Option.getD_some]
  rw [this, List.take_of_length_le (by omega)]

theorem Heap.take {le : α → α → Prop} {l : List α} {n : Nat} (h : Heap le l n) (hn : n ≤ l.length) : Heap le (l.take n) (l.take n).length := by
  have g : ∀ k, k < n → (l.take n).getD k default = l.getD k default := fun k hk => by
    rw [List.getD_eq_getElem?_getD, List.getElem?_take_of_lt hk, ← List.getD_eq_getElem?_getD]
  intro k h0 hk
  rw [List.length_take, Nat.min_eq_left hn] at hk
  rw [g k hk, g _ (by omega)]
  exact h k h0 hk

theorem Heap.least_mem {le : α → α → Prop} (o : TotalOrd le) {l : List α} (h : Heap le l l.length) {y : α} (hy : y ∈ l) : le (l.getD 0 default) y := by
  obtain ⟨k, hk, rfl⟩ := List.getElem_of_mem hy
  have := h.least o k hk
  rw [List.getD_eq_getElem?_getD (l := l) (i := k), List.getElem?_eq_getElem hk] at this
  exact this

end

/-- no less: what a heap keeps -/
def noLess {α : Type} (lt : α → α → Bool) (a b : α) : Prop := lt b a = false
theorem noLess_of {α : Type} {lt : α → α → Bool} (o : TotalOrd (noLess lt)) {a b : α} (h : lt a b = true) : noLess lt a b := by
  rcases o.total b a with h1 | h1
  · unfold noLess at h1; rw [h] at h1; cases h1
  · exact h1

end Go.Proofs.Ytkdfifkmgpogfaa

/- What container/heap's up, down, Init, Push, Pop and Fix do with one type's heap (hpB), whatever it holds. -/
namespace Go.Proofs.Ytkdfifkmgpogfaa
open Go.RowKit

/-- The value p is a heap's receiver: R tells what the heap holds; val, an item as a value; lt, who is less; only blocks of S turn. -/
structure HpB {α : Type} [Inhabited α] (p : Value) (R : World → List α → Prop) (lt : α → α → Bool) (S : Nat → Prop) : Prop where
  len : ∀ w l, R w l → ∃ r, (method 221 71 p "Len").run Try.prog w = .ok (35, r) w ∧
    Calls Try.prog 35 #[r] w fun e w' => e = .returned (.int .i64 ((l.length : Nat) : Int)) ∧ R w' l ∧ Chg S w w'
  less : ∀ w l, R w l → ∃ r, (method 221 71 p "Less").run Try.prog w = .ok (73, r) w ∧ ∀ i j : Nat, i < l.length → j < l.length →
    Calls Try.prog 73 #[r, .int .i64 (i : Int), .int .i64 (j : Int)] w fun e w' => e = .returned (.bool (lt (l.getD i default) (l.getD j default))) ∧ R w' l ∧ Chg S w w'
  swap : ∀ w l, R w l → ∃ r, (method 221 71 p "Swap").run Try.prog w = .ok (76, r) w ∧ ∀ i j : Nat, i < l.length → j < l.length →
    Calls Try.prog 76 #[r, .int .i64 (i : Int), .int .i64 (j : Int)] w fun e w' => e = .returned (.tuple #[]) ∧ R w' (swp l i j) ∧ Chg S w w'
  small : ∀ w l, R w l → l.length < 1000000000

section
variable {α : Type} [Inhabited α] {p : Value} {R : World → List α → Prop} {lt : α → α → Bool} {S : Nat → Prop}

set_option maxHeartbeats 1000000 in
theorem hpB_up (o : TotalOrd (noLess lt)) (h : HpB p R lt S) (w : World) (l : List α) (n j : Nat) (hR : R w l) (hn : n ≤ l.length) (hu : UpInv (noLess lt) l n j) :
    Calls Try.prog 52 #[.iface 71 p, .int .i64 (j : Int)] w fun e w' => e = .returned (.tuple #[]) ∧ ∃ l', R w' l' ∧ l'.Perm l ∧ Heap (noLess lt) l' n ∧ Chg S w w' := by
  have H := Lib.hid h; have HU := Lib.hid hu; have HR := Lib.hid hR; have HN := Lib.hid hn
  clear h hu hR hn
  go_enter Try.func52, Try.ntmps52
  go_wp2
  go_loopw [1] (fun o1 wr => ∃ (j : Nat) (l' : List α), o1 = .int .i64 (j : Int) ∧ R wr l' ∧ l'.Perm l ∧ UpInv (noLess lt) l' n j ∧ Chg S w wr) (fun o1 _ => (intOf o1).toNat)
  case atStart => exact ⟨j, l, rfl, HR.out, List.Perm.refl _, HU.out, Chg.refl _ _⟩
  case round =>
    obtain ⟨j, l', rfl, hR, hp, hu, hc⟩ := hrel
    have hsm := H.out.small _ _ hR
    have hln := hp.length_eq
    have hn := HN.out
    have hjn := hu.lt
    by_cases h0 : j = 0
    · subst h0
      have HH := Lib.hid (hu.done (.inl rfl)); have HR := Lib.hid hR; have HP := Lib.hid hp; have HC := Lib.hid hc
      clear hu hR hp hc hln hn hsm hjn
      go_wp2
      go_returns
      exact ⟨rfl, l', HR.out, HP.out, HH.out, HC.out⟩
    · obtain ⟨i, hi⟩ : ∃ i, (j - 1) / 2 = i := ⟨_, rfl⟩
      have e1 : ((j : Int) - 1).tdiv 2 = (i : Int) := by rw [Int.tdiv_eq_ediv_of_nonneg (by omega)]; omega
      have e2 : wrap64 ((j : Int) - 1) = (j : Int) - 1 := by unfold wrap64; omega
      have e3 : ((i : Int) == (j : Int)) = false := by simp; omega
      obtain ⟨r, hm, hless⟩ := H.out.less _ _ hR
      have hless := hless j i (by omega) (by omega)
      have hb : (j : Int) ≤ 1000000000 ∧ (i : Int) ≤ 1000000000 := by omega
      have HI := Lib.hid hi; have HP := Lib.hid hp; have HC := Lib.hid hc; have HU2 := Lib.hid hu; have HL := Lib.hid hless
      have HLN := Lib.hid hln; have HN0 := Lib.hid h0; have HJN := Lib.hid hjn
      clear hi hR hp hc hu hless hln hn hsm hjn h0
      go_wp2_with fail
      refine (HL.out).mono ?_
      rintro e w2 ⟨rfl, hR2, hc2⟩
      cases hlt : lt (l'.getD j default) (l'.getD i default) with
      | false =>
        have HH := Lib.hid (HU2.out.done (.inr (by rw [HI.out]; exact hlt))); have HR2 := Lib.hid hR2; have HC2 := Lib.hid (HC.out.trans hc2 (fun _ _ h => h))
        clear hR2 hc2 hlt hm
        go_wp2
        go_returns
        exact ⟨rfl, l', HR2.out, HP.out, HH.out, HC2.out⟩
      | true =>
        have hst : UpInv (noLess lt) (swp l' i j) n i := by
          have := HU2.out.step o (by have := HLN.out; have := HN.out; omega) (by have := HN0.out; omega) (by rw [HI.out]; unfold noLess; rw [hlt]; simp)
          rw [HI.out] at this
          exact this
        have hij : i < j := by have := HI.out; have := HN0.out; omega
        obtain ⟨r2, hm2, hsw⟩ := H.out.swap _ _ hR2
        have hln := HLN.out
        have hnn := HN.out
        have hjn := HJN.out
        have hsw := hsw i j (by omega) (by omega)
        have hpm := swp_perm l' i j (by omega) (by omega)
        have HSW := Lib.hid hsw; have HST := Lib.hid hst; have HPM := Lib.hid (hpm.trans HP.out); have HC2 := Lib.hid (HC.out.trans hc2 (fun _ _ h => h)); have HIJ := Lib.hid hij
        clear hsw hst hpm hc2 hR2 hlt hm hln hnn hjn hij
        go_wp2_with fail
        refine (HSW.out).mono ?_
        rintro e w3 ⟨rfl, hR3, hc3⟩
        have HR3 := Lib.hid hR3; have HC3 := Lib.hid (HC2.out.trans hc3 (fun _ _ h => h))
        clear hR3 hc3 hm2
        go_wp2
        go_roundw
        case rel => exact ⟨i, swp l' i j, rfl, HR3.out, HPM.out, HST.out, HC3.out⟩
        case measure => simp [intOf]; exact HIJ.out

set_option maxHeartbeats 2000000 in
theorem hpB_down (o : TotalOrd (noLess lt)) (h : HpB p R lt S) (w : World) (l : List α) (n lo i0 : Nat) (hR : R w l) (hn : n ≤ l.length) (hi0 : i0 < 1000000000) (hd : DownInv (noLess lt) l n lo i0) :
    Calls Try.prog 51 #[.iface 71 p, .int .i64 (i0 : Int), .int .i64 (n : Int)] w fun e w' => ∃ l' b, e = .returned (.bool b) ∧ R w' l' ∧ l'.Perm l ∧ (∀ k, n ≤ k → l'.getD k default = l.getD k default) ∧ HeapFrom (noLess lt) l' n lo ∧ (b = false → l' = l) ∧ Chg S w w' := by
  have hsm := h.small _ _ hR
  have hnb : (n : Int) ≤ 1000000000 := by omega
  have H := Lib.hid h; have HD := Lib.hid hd; have HR := Lib.hid hR; have HN := Lib.hid hn; have HI0 := Lib.hid hi0
  clear h hd hR hn hsm hi0
  go_enter Try.func51, Try.ntmps51
  go_wp2
  go_loopw [7] (fun o7 wr => ∃ (i : Nat) (l' : List α), o7 = .int .i64 (i : Int) ∧ R wr l' ∧ l'.Perm l ∧ (∀ k, n ≤ k → l'.getD k default = l.getD k default) ∧ DownInv (noLess lt) l' n lo i ∧ i0 ≤ i ∧ (i ≤ i0 → l' = l) ∧ i < 1000000000 ∧ Chg S w wr) (fun o7 _ => n - (intOf o7).toNat)
  case atStart => exact ⟨i0, l, rfl, HR.out, List.Perm.refl _, fun _ _ => rfl, HD.out, Nat.le_refl _, fun _ => rfl, HI0.out, Chg.refl _ _⟩
  case round =>
    clear HD HR
    obtain ⟨i, l', rfl, hR, hp, ht, hd, hge, hs0, hib, hc⟩ := hrel
    have hln := hp.length_eq
    have hib2 : (i : Int) < 1000000000 := by omega
    have e1 : wrap64 (2 * (i : Int)) = 2 * (i : Int) := by unfold wrap64; omega
    obtain ⟨j1, hj1⟩ : ∃ j1, 2 * i + 1 = j1 := ⟨_, rfl⟩
    have e2 : 2 * (i : Int) + 1 = (j1 : Int) := by omega
    have e3 : wrap64 (j1 : Int) = (j1 : Int) := by unfold wrap64; omega
    have HRQ := Lib.hid hR; have HP := Lib.hid hp; have HT := Lib.hid ht; have HD := Lib.hid hd; have HGE := Lib.hid hge; have HS0 := Lib.hid hs0; have HCQ := Lib.hid hc; have HLN := Lib.hid hln; have HJ1 := Lib.hid hj1
    clear hR hp ht hd hge hs0 hc hln hib
    by_cases hend : n ≤ j1
    · have d1 : decide ((n : Int) ≤ (j1 : Int)) = true := by simp; omega
      have HH := Lib.hid (HD.out.done (fun k h0 hk hp => by have := HJ1.out; omega))
      clear hj1
      go_wp2
      go_returns
      exact ⟨l', _, rfl, HRQ.out, HP.out, HT.out, HH.out, fun hb => HS0.out (by simpa using hb), HCQ.out⟩
    · have d1 : decide ((n : Int) ≤ (j1 : Int)) = false := by simp; omega
      have d2 : decide ((j1 : Int) < 0) = false := by simp
      obtain ⟨j2, hj2⟩ : ∃ j2, j1 + 1 = j2 := ⟨_, rfl⟩
      have e4 : (j1 : Int) + 1 = (j2 : Int) := by omega
      have e5 : wrap64 (j2 : Int) = (j2 : Int) := by unfold wrap64; omega
      have HJ2 := Lib.hid hj2; have HEND := Lib.hid hend
      by_cases h2 : j2 < n
      · have d3 : decide ((j2 : Int) < (n : Int)) = true := by simp; omega
        obtain ⟨ra, hma, hla⟩ := H.out.less _ _ HRQ.out
        have hla := hla j2 j1 (by have := HLN.out; have := HN.out; omega) (by have := HLN.out; have := HN.out; omega)
        have HLA := Lib.hid hla; have HL2 := Lib.hid h2
        clear hla hj1 hj2
        go_wp2_with fail
        refine (HLA.out).mono ?_
        rintro e w4 ⟨rfl, hR4, hc4⟩
        have HRQ0 := HRQ; have HCQ0 := HCQ
        clear HRQ HCQ
        have HRQ := Lib.hid hR4; have HCQ := Lib.hid (HCQ0.out.trans hc4 (fun _ _ h => h))
        clear hR4 hc4 HRQ0 HCQ0 hma
        cases hlt : lt (l'.getD j2 default) (l'.getD j1 default) with
        | true =>
          have HJ := Lib.hid (show 0 < j2 ∧ j2 < n ∧ (j2 - 1) / 2 = i by have := HJ1.out; have := HJ2.out; have := HL2.out; omega)
          have HMIN := Lib.hid (show ∀ k, 0 < k → k < n → (k - 1) / 2 = i → noLess lt (l'.getD j2 default) (l'.getD k default) from fun k h0 hk hp => by
            have hk2 : k = j1 ∨ k = j2 := by have := HJ1.out; have := HJ2.out; omega
            rcases hk2 with rfl | rfl
            · exact noLess_of o hlt
            · exact o.refl _)
          clear hlt
          obtain ⟨rb, hmb, hlb⟩ := H.out.less _ _ HRQ.out
          have hlb := hlb j2 i (by have := HJ.out; have := HLN.out; have := HN.out; omega) (by have := HJ.out; have := HLN.out; have := HN.out; omega)
          have HLB := Lib.hid hlb
          clear hlb
          go_wp2_with fail
          refine (HLB.out).mono ?_
          rintro e w5 ⟨rfl, hR5, hc5⟩
          cases hlt : lt (l'.getD j2 default) (l'.getD i default) with
          | false =>
            have HH := Lib.hid (HD.out.done (fun k h0 hk hp => o.trans hlt (HMIN.out k h0 hk hp))); have HR5 := Lib.hid hR5; have HC5 := Lib.hid (HCQ.out.trans hc5 (fun _ _ h => h))
            clear hR5 hc5 hlt hmb
            go_wp2
            go_returns
            exact ⟨l', _, rfl, HR5.out, HP.out, HT.out, HH.out, fun hb => HS0.out (by simpa using hb), HC5.out⟩
          | true =>
            have hst := HD.out.step o (by have := HLN.out; have := HN.out; omega) (by have := HJ.out; omega) (HJ.out).2.1 (HJ.out).2.2 HMIN.out (noLess_of o hlt)
            obtain ⟨r2, hm2, hsw⟩ := H.out.swap _ _ hR5
            have hsw := hsw i j2 (by have := HJ.out; have := HLN.out; have := HN.out; omega) (by have := HJ.out; have := HLN.out; have := HN.out; omega)
            have hpm := (swp_perm l' i j2 (by have := HJ.out; have := HLN.out; have := HN.out; omega) (by have := HJ.out; have := HLN.out; have := HN.out; omega)).trans HP.out
            have htl : ∀ k, n ≤ k → (swp l' i j2).getD k default = l.getD k default := fun k hk => by
              rw [swp_getD _ _ _ _ (by have := HJ.out; have := HLN.out; have := HN.out; omega) (by have := HJ.out; have := HLN.out; have := HN.out; omega), if_neg (by have := HJ.out; omega), if_neg (by have := HJ.out; omega)]
              exact HT.out k hk
            have HSW := Lib.hid hsw; have HST := Lib.hid hst; have HPM := Lib.hid hpm; have HTL := Lib.hid htl; have HC5 := Lib.hid (HCQ.out.trans hc5 (fun _ _ h => h))
            clear hsw hst hpm htl hc5 hR5 hlt hmb
            go_wp2_with fail
            refine (HSW.out).mono ?_
            rintro e w6 ⟨rfl, hR6, hc6⟩
            have HR6 := Lib.hid hR6; have HC6 := Lib.hid (HC5.out.trans hc6 (fun _ _ h => h))
            clear hR6 hc6 hm2
            go_wp2
            go_roundw
            case rel => exact ⟨j2, swp l' i j2, rfl, HR6.out, HPM.out, HTL.out, HST.out, by have := HJ.out; have := HGE.out; omega, fun hb => by have := HJ.out; have := HGE.out; omega, by have := HJ.out; omega, HC6.out⟩
            case measure => simp [intOf]; have := HJ.out; omega
        | false =>
          have HJ := Lib.hid (show 0 < j1 ∧ j1 < n ∧ (j1 - 1) / 2 = i by have := HJ1.out; have := HJ2.out; have := HL2.out; omega)
          have HMIN := Lib.hid (show ∀ k, 0 < k → k < n → (k - 1) / 2 = i → noLess lt (l'.getD j1 default) (l'.getD k default) from fun k h0 hk hp => by
            have hk2 : k = j1 ∨ k = j2 := by have := HJ1.out; have := HJ2.out; omega
            rcases hk2 with rfl | rfl
            · exact o.refl _
            · exact hlt)
          clear hlt
          obtain ⟨rb, hmb, hlb⟩ := H.out.less _ _ HRQ.out
          have hlb := hlb j1 i (by have := HJ.out; have := HLN.out; have := HN.out; omega) (by have := HJ.out; have := HLN.out; have := HN.out; omega)
          have HLB := Lib.hid hlb
          clear hlb
          go_wp2_with fail
          refine (HLB.out).mono ?_
          rintro e w5 ⟨rfl, hR5, hc5⟩
          cases hlt : lt (l'.getD j1 default) (l'.getD i default) with
          | false =>
            have HH := Lib.hid (HD.out.done (fun k h0 hk hp => o.trans hlt (HMIN.out k h0 hk hp))); have HR5 := Lib.hid hR5; have HC5 := Lib.hid (HCQ.out.trans hc5 (fun _ _ h => h))
            clear hR5 hc5 hlt hmb
            go_wp2
            go_returns
            exact ⟨l', _, rfl, HR5.out, HP.out, HT.out, HH.out, fun hb => HS0.out (by simpa using hb), HC5.out⟩
          | true =>
            have hst := HD.out.step o (by have := HLN.out; have := HN.out; omega) (by have := HJ.out; omega) (HJ.out).2.1 (HJ.out).2.2 HMIN.out (noLess_of o hlt)
            obtain ⟨r2, hm2, hsw⟩ := H.out.swap _ _ hR5
            have hsw := hsw i j1 (by have := HJ.out; have := HLN.out; have := HN.out; omega) (by have := HJ.out; have := HLN.out; have := HN.out; omega)
            have hpm := (swp_perm l' i j1 (by have := HJ.out; have := HLN.out; have := HN.out; omega) (by have := HJ.out; have := HLN.out; have := HN.out; omega)).trans HP.out
            have htl : ∀ k, n ≤ k → (swp l' i j1).getD k default = l.getD k default := fun k hk => by
              rw [swp_getD _ _ _ _ (by have := HJ.out; have := HLN.out; have := HN.out; omega) (by have := HJ.out; have := HLN.out; have := HN.out; omega), if_neg (by have := HJ.out; omega), if_neg (by have := HJ.out; omega)]
              exact HT.out k hk
            have HSW := Lib.hid hsw; have HST := Lib.hid hst; have HPM := Lib.hid hpm; have HTL := Lib.hid htl; have HC5 := Lib.hid (HCQ.out.trans hc5 (fun _ _ h => h))
            clear hsw hst hpm htl hc5 hR5 hlt hmb
            go_wp2_with fail
            refine (HSW.out).mono ?_
            rintro e w6 ⟨rfl, hR6, hc6⟩
            have HR6 := Lib.hid hR6; have HC6 := Lib.hid (HC5.out.trans hc6 (fun _ _ h => h))
            clear hR6 hc6 hm2
            go_wp2
            go_roundw
            case rel => exact ⟨j1, swp l' i j1, rfl, HR6.out, HPM.out, HTL.out, HST.out, by have := HJ.out; have := HGE.out; omega, fun hb => by have := HJ.out; have := HGE.out; omega, by have := HJ.out; omega, HC6.out⟩
            case measure => simp [intOf]; have := HJ.out; omega
      · have d3 : decide ((j2 : Int) < (n : Int)) = false := by simp; omega
        have HL2 := Lib.hid h2
        have HJ := Lib.hid (show 0 < j1 ∧ j1 < n ∧ (j1 - 1) / 2 = i by have := HJ1.out; have := HEND.out; omega)
        have HMIN := Lib.hid (show ∀ k, 0 < k → k < n → (k - 1) / 2 = i → noLess lt (l'.getD j1 default) (l'.getD k default) from fun k h0 hk hp => by
          have hk2 : k = j1 := by have := HJ1.out; have := HJ2.out; have := HL2.out; omega
          rw [hk2]; exact o.refl _)
        clear hj1 hj2
        obtain ⟨rb, hmb, hlb⟩ := H.out.less _ _ HRQ.out
        have hlb := hlb j1 i (by have := HJ.out; have := HLN.out; have := HN.out; omega) (by have := HJ.out; have := HLN.out; have := HN.out; omega)
        have HLB := Lib.hid hlb
        clear hlb
        go_wp2_with fail
        refine (HLB.out).mono ?_
        rintro e w5 ⟨rfl, hR5, hc5⟩
        cases hlt : lt (l'.getD j1 default) (l'.getD i default) with
        | false =>
          have HH := Lib.hid (HD.out.done (fun k h0 hk hp => o.trans hlt (HMIN.out k h0 hk hp))); have HR5 := Lib.hid hR5; have HC5 := Lib.hid (HCQ.out.trans hc5 (fun _ _ h => h))
          clear hR5 hc5 hlt hmb
          go_wp2
          go_returns
          exact ⟨l', _, rfl, HR5.out, HP.out, HT.out, HH.out, fun hb => HS0.out (by simpa using hb), HC5.out⟩
        | true =>
          have hst := HD.out.step o (by have := HLN.out; have := HN.out; omega) (by have := HJ.out; omega) (HJ.out).2.1 (HJ.out).2.2 HMIN.out (noLess_of o hlt)
          obtain ⟨r2, hm2, hsw⟩ := H.out.swap _ _ hR5
          have hsw := hsw i j1 (by have := HJ.out; have := HLN.out; have := HN.out; omega) (by have := HJ.out; have := HLN.out; have := HN.out; omega)
          have hpm := (swp_perm l' i j1 (by have := HJ.out; have := HLN.out; have := HN.out; omega) (by have := HJ.out; have := HLN.out; have := HN.out; omega)).trans HP.out
          have htl : ∀ k, n ≤ k → (swp l' i j1).getD k default = l.getD k default := fun k hk => by
            rw [swp_getD _ _ _ _ (by have := HJ.out; have := HLN.out; have := HN.out; omega) (by have := HJ.out; have := HLN.out; have := HN.out; omega), if_neg (by have := HJ.out; omega), if_neg (by have := HJ.out; omega)]
            exact HT.out k hk
          have HSW := Lib.hid hsw; have HST := Lib.hid hst; have HPM := Lib.hid hpm; have HTL := Lib.hid htl; have HC5 := Lib.hid (HCQ.out.trans hc5 (fun _ _ h => h))
          clear hsw hst hpm htl hc5 hR5 hlt hmb
          go_wp2_with fail
          refine (HSW.out).mono ?_
          rintro e w6 ⟨rfl, hR6, hc6⟩
          have HR6 := Lib.hid hR6; have HC6 := Lib.hid (HC5.out.trans hc6 (fun _ _ h => h))
          clear hR6 hc6 hm2
          go_wp2
          go_roundw
          case rel => exact ⟨j1, swp l' i j1, rfl, HR6.out, HPM.out, HTL.out, HST.out, by have := HJ.out; have := HGE.out; omega, fun hb => by have := HJ.out; have := HGE.out; omega, by have := HJ.out; omega, HC6.out⟩
          case measure => simp [intOf]; have := HJ.out; omega

end

end Go.Proofs.Ytkdfifkmgpogfaa

/- What container/heap's Init, Push, Pop and Fix do with one type's heap (hpB), whatever it holds. -/
namespace Go.Proofs.Ytkdfifkmgpogfaa
open Go.RowKit

section
variable {α : Type} [Inhabited α] {p : Value} {R : World → List α → Prop} {lt : α → α → Bool} {S : Nat → Prop} {it : α → Value}

/-- what Push is to do -/
def HpBPushes {α : Type} [Inhabited α] (p : Value) (R : World → List α → Prop) (S : Nat → Prop) (it : α → Value) (x : α) : Prop := ∀ w l, R w l → l.length < 100000 →
  ∃ r, (method 221 71 p "Push").run Try.prog w = .ok (75, r) w ∧ Calls Try.prog 75 #[r, it x] w fun e w' => e = .returned (.tuple #[]) ∧ R w' (l ++ [x]) ∧ Chg S w w'
/-- what Pop is to do -/
def HpBPops {α : Type} [Inhabited α] (p : Value) (R : World → List α → Prop) (S : Nat → Prop) (it : α → Value) : Prop := ∀ w l x, R w (l ++ [x]) →
  ∃ r, (method 221 71 p "Pop").run Try.prog w = .ok (74, r) w ∧ Calls Try.prog 74 #[r] w fun e w' => e = .returned (it x) ∧ R w' l ∧ Chg S w w'

set_option maxHeartbeats 1000000 in
theorem hpB_push (o : TotalOrd (noLess lt)) (h : HpB p R lt S) (x : α) (hpu : HpBPushes p R S it x) (w : World) (l : List α) (hR : R w l) (hl : l.length < 100000) (hh : Heap (noLess lt) l l.length) :
    Calls Try.prog 48 #[.iface 71 p, it x] w fun e w' => e = .returned (.tuple #[]) ∧ ∃ l', R w' l' ∧ l'.Perm (x :: l) ∧ Heap (noLess lt) l' l'.length ∧ Chg S w w' := by
  obtain ⟨r, hm, hc⟩ := hpu w l hR hl
  obtain ⟨q, hq⟩ : ∃ q, it x = q := ⟨_, rfl⟩
  rw [hq] at hc ⊢
  have HC := Lib.hid hc; have HH := Lib.hid hh; have HL := Lib.hid hl; have H := Lib.hid h
  clear hc hh hl hpu hq hR h
  go_enter Try.func48, Try.ntmps48
  go_wp2_with fail
  refine (HC.out).mono ?_
  rintro e w2 ⟨rfl, hR2, hc2⟩
  obtain ⟨r2, hm2, hlen⟩ := H.out.len _ _ hR2
  have hn : (l ++ [x]).length = l.length + 1 := by simp
  rw [hn] at hlen
  obtain ⟨n, hnn⟩ : ∃ n, l.length = n := ⟨_, rfl⟩
  obtain ⟨n1, hn1⟩ : ∃ n1, n + 1 = n1 := ⟨_, rfl⟩
  rw [hnn, hn1] at hlen
  have e1 : (n1 : Int) - 1 = (n : Int) := by omega
  have e2 : wrap64 (n : Int) = (n : Int) := by have := HL.out; unfold wrap64; omega
  have HLE := Lib.hid hlen; have HNN := Lib.hid hnn; have HN1 := Lib.hid hn1; have HC2 := Lib.hid hc2
  clear hlen hnn hn1 hc2 hm hR2 hn
  go_wp2_with fail
  refine (HLE.out).mono ?_
  rintro e w3 ⟨rfl, hR3, hc3⟩
  have hu := UpInv.pushed HH.out x
  rw [HNN.out, HN1.out] at hu
  have hup := hpB_up o H.out w3 (l ++ [x]) n1 n hR3 (by simp; have := HNN.out; have := HN1.out; omega) hu
  have HUP := Lib.hid hup; have HC3 := Lib.hid (HC2.out.trans hc3 (fun _ _ h => h))
  clear hup hu hc3 hR3 hm2
  go_wp2_with fail
  refine (HUP.out).mono ?_
  rintro e w4 ⟨rfl, l', hR4, hp4, hh4, hc4⟩
  have hl4 := hp4.length_eq
  rw [List.length_append, List.length_singleton, HNN.out, HN1.out] at hl4
  have HF := Lib.hid (show R w4 l' ∧ l'.Perm (x :: l) ∧ Heap (noLess lt) l' l'.length ∧ Chg S w w4 from ⟨hR4, hp4.trans (List.perm_append_comm (l₁ := l) (l₂ := [x])), by rw [hl4]; exact hh4, HC3.out.trans hc4 (fun _ _ h => h)⟩)
  clear hR4 hp4 hh4 hc4 hl4
  go_wp2
  go_returns
  exact ⟨rfl, l', HF.out⟩

set_option maxHeartbeats 1000000 in
theorem hpB_pop (o : TotalOrd (noLess lt)) (h : HpB p R lt S) (hpo : HpBPops p R S it) (w : World) (l : List α) (hR : R w l) (hl : 0 < l.length) (hh : Heap (noLess lt) l l.length) :
    Calls Try.prog 46 #[.iface 71 p] w fun e w' => ∃ x l', e = .returned (it x) ∧ R w' l' ∧ l.Perm (x :: l') ∧ (∀ y ∈ l', noLess lt x y) ∧ Heap (noLess lt) l' l'.length ∧ Chg S w w' := by
  have hsm := h.small _ _ hR
  obtain ⟨r, hm, hlen⟩ := h.len _ _ hR
  obtain ⟨n, hn⟩ : ∃ n, l.length = n + 1 := ⟨l.length - 1, by omega⟩
  rw [hn] at hlen
  obtain ⟨n1, hn1⟩ : ∃ n1, n + 1 = n1 := ⟨_, rfl⟩
  rw [hn1] at hlen
  have e1 : (n1 : Int) - 1 = (n : Int) := by omega
  have e2 : wrap64 (n : Int) = (n : Int) := by unfold wrap64; omega
  have HLE := Lib.hid hlen; have HH := Lib.hid hh; have H := Lib.hid h; have HN := Lib.hid hn; have HN1 := Lib.hid hn1; have HPO := Lib.hid hpo
  clear hlen hh h hn hn1 hpo hl hsm hR
  go_enter Try.func46, Try.ntmps46
  go_wp2_with fail
  refine (HLE.out).mono ?_
  rintro e w2 ⟨rfl, hR2, hc2⟩
  obtain ⟨r2, hm2, hsw⟩ := H.out.swap _ _ hR2
  have hsw := hsw 0 n (by have := HN.out; omega) (by have := HN.out; omega)
  have HSW := Lib.hid hsw; have HC2 := Lib.hid hc2
  clear hsw hc2 hR2 hm
  go_wp2_with fail
  refine (HSW.out).mono ?_
  rintro e w3 ⟨rfl, hR3, hc3⟩
  have hh := HH.out
  rw [HN.out] at hh
  have hdn := hpB_down o H.out w3 (swp l 0 n) n 0 0 hR3 (by rw [swp_length, HN.out]; omega) (by omega) (DownInv.popped HN.out hh)
  have HDN := Lib.hid hdn; have HC3 := Lib.hid (HC2.out.trans hc3 (fun _ _ h => h))
  clear hdn hc3 hR3 hh hm2
  go_wp2_with fail
  refine (HDN.out).mono ?_
  rintro e w4 ⟨l2, b, rfl, hR4, hp4, ht4, hh4, -, hc4⟩
  have hl2 : l2.length = n + 1 := by rw [hp4.length_eq, swp_length, HN.out]
  have hx : l2.getD n default = l.getD 0 default := by
    rw [ht4 n (Nat.le_refl _), swp_getD _ _ _ _ (by have := HN.out; omega) (by have := HN.out; omega), if_pos rfl]
  have hap := last_apart l2 n hl2
  rw [hx] at hap
  have hpp : l.Perm (l.getD 0 default :: l2.take n) := by
    refine ((swp_perm l 0 n (by have := HN.out; omega) (by have := HN.out; omega)).symm.trans hp4.symm).trans ?_
    rw [hap, List.take_left' (by rw [List.length_take]; omega)]
    exact List.perm_append_comm (l₁ := l2.take n) (l₂ := [l.getD 0 default])
  have hle : ∀ y ∈ l2.take n, noLess lt (l.getD 0 default) y := fun y hy => HH.out.least_mem o (hpp.symm.subset (List.mem_cons_of_mem _ hy))
  have hhp := hh4.heap.take (by omega)
  rw [hap] at hR4
  obtain ⟨r3, hm3, hpop⟩ := HPO.out _ _ _ hR4
  obtain ⟨x, hxx⟩ : ∃ x, l.getD 0 default = x := ⟨_, rfl⟩
  rw [hxx] at hpop hpp hle
  obtain ⟨q, hq⟩ : ∃ q, it x = q := ⟨_, rfl⟩
  rw [hq] at hpop
  have HPOP := Lib.hid hpop; have HQ := Lib.hid hq
  have HF := Lib.hid (show l.Perm (x :: l2.take n) ∧ (∀ y ∈ l2.take n, noLess lt x y) ∧ Heap (noLess lt) (l2.take n) (l2.take n).length ∧ Chg S w w4 from ⟨hpp, hle, hhp, HC3.out.trans hc4 (fun _ _ h => h)⟩)
  clear hpop hq hpp hle hhp hap hx hl2 hR4 hp4 ht4 hh4 hc4 hxx
  go_wp2_with fail
  refine (HPOP.out).mono ?_
  rintro e w5 ⟨rfl, hR5, hc5⟩
  have HR5 := Lib.hid hR5; have HC5 := Lib.hid hc5
  clear hR5 hc5 hm3
  go_wp2
  go_returns
  obtain ⟨f1, f2, f3, f4⟩ := HF.out
  exact ⟨x, l2.take n, by rw [HQ.out]; rfl, HR5.out, f1, f2, f3, f4.trans HC5.out (fun _ _ h => h)⟩

end

end Go.Proofs.Ytkdfifkmgpogfaa

/- Plain mathematics of chapter 9: fractions held against each other. -/
namespace Go.Proofs.Ytkdfifkmgpogfaa
open Go

/-- a key -/
structure Ky where
  I : Int
  Q : Int
  S : Int
  deriving DecidableEq

def Ky.right (k : Ky) : Prop := 1 ≤ k.Q ∧ k.Q ≤ 4096 ∧ k.Q ≤ k.I ∧ k.I ≤ 2 * k.Q - 1 ∧ 0 ≤ k.S ∧ k.S ≤ 255
instance Ky.right_dec (k : Ky) : Decidable k.right := by unfold Ky.right; infer_instance

/-- how two right keys are to each other -/
def cmpR (a b : Ky) : Int :=
  if a.I * b.Q < b.I * a.Q ∨ (a.I * b.Q = b.I * a.Q ∧ a.S < b.S) then -1
  else if b.I * a.Q < a.I * b.Q ∨ (a.I * b.Q = b.I * a.Q ∧ b.S < a.S) then 1 else 0
def cmpK (a b : Ky) : Int := if a.right ∧ b.right then cmpR a b else 0

theorem cmpR_cases (a b : Ky) : (cmpR a b = -1 ∧ (a.I * b.Q < b.I * a.Q ∨ (a.I * b.Q = b.I * a.Q ∧ a.S < b.S))) ∨ (cmpR a b = 1 ∧ (b.I * a.Q < a.I * b.Q ∨ (a.I * b.Q = b.I * a.Q ∧ b.S < a.S))) ∨ (cmpR a b = 0 ∧ a.I * b.Q = b.I * a.Q ∧ a.S = b.S) := by
  unfold cmpR
  by_cases h1 : a.I * b.Q < b.I * a.Q ∨ (a.I * b.Q = b.I * a.Q ∧ a.S < b.S)
  · rw [if_pos h1]; exact .inl ⟨rfl, h1⟩
  · rw [if_neg h1]
    by_cases h2 : b.I * a.Q < a.I * b.Q ∨ (a.I * b.Q = b.I * a.Q ∧ b.S < a.S)
    · rw [if_pos h2]; exact .inr (.inl ⟨rfl, h2⟩)
    · rw [if_neg h2]
      have e : a.I * b.Q = b.I * a.Q := by omega
      have e2 : a.S = b.S := by omega
      exact .inr (.inr ⟨rfl, e, e2⟩)

theorem cmpR_turn (a b : Ky) : cmpR b a = -cmpR a b := by
  rcases cmpR_cases a b with ⟨h, h'⟩ | ⟨h, h'⟩ | ⟨h, h', h''⟩ <;> rcases cmpR_cases b a with ⟨g, g'⟩ | ⟨g, g'⟩ | ⟨g, g', g''⟩ <;> omega
theorem cmpR_self (a : Ky) : cmpR a a = 0 := by
  rcases cmpR_cases a a with ⟨h, h'⟩ | ⟨h, h'⟩ | ⟨h, _⟩
  · omega
  · omega
  · exact h
theorem cmpR_zero (a b : Ky) : cmpR a b = 0 ↔ (a.I * b.Q = b.I * a.Q ∧ a.S = b.S) := by
  rcases cmpR_cases a b with ⟨h, h'⟩ | ⟨h, h'⟩ | ⟨h, h', h''⟩
  · constructor
    · intro h0; omega
    · intro h0; omega
  · constructor
    · intro h0; omega
    · intro h0; omega
  · exact ⟨fun _ => ⟨h', h''⟩, fun _ => h⟩

/-- a's fraction is no more than b's, nor b's than c's: nor is a's more than c's -/
theorem frac_trans {ai aq bi bq ci cq : Int} (hb : 0 < bq) (ha : 0 < aq) (hc : 0 < cq) (h1 : ai * bq ≤ bi * aq) (h2 : bi * cq ≤ ci * bq) : ai * cq ≤ ci * aq ∧ (ai * bq < bi * aq ∨ bi * cq < ci * bq → ai * cq < ci * aq) := by
  have k1 : ai * bq * cq ≤ bi * aq * cq := Int.mul_le_mul_of_nonneg_right h1 (by omega)
  have k2 : bi * cq * aq ≤ ci * bq * aq := Int.mul_le_mul_of_nonneg_right h2 (by omega)
  have e1 : bi * aq * cq = bi * cq * aq := by rw [Int.mul_assoc, Int.mul_comm aq cq, ← Int.mul_assoc]
  have e2 : ai * bq * cq = ai * cq * bq := by rw [Int.mul_assoc, Int.mul_comm bq cq, ← Int.mul_assoc]
  have e3 : ci * bq * aq = ci * aq * bq := by rw [Int.mul_assoc, Int.mul_comm bq aq, ← Int.mul_assoc]
  refine ⟨Int.le_of_mul_le_mul_right (by omega : ai * cq * bq ≤ ci * aq * bq) hb, fun h => ?_⟩
  refine Int.lt_of_mul_lt_mul_right (a := bq) ?_ (by omega)
  rcases h with h | h
  · have := Int.mul_lt_mul_of_pos_right h hc; omega
  · have := Int.mul_lt_mul_of_pos_right h ha; omega

theorem cmpR_trans {a b c : Ky} (ha : 0 < a.Q) (hb : 0 < b.Q) (hc : 0 < c.Q) (h1 : cmpR a b ≤ 0) (h2 : cmpR b c ≤ 0) : cmpR a c ≤ 0 := by
  have k1 : a.I * b.Q ≤ b.I * a.Q ∧ (a.I * b.Q = b.I * a.Q → a.S ≤ b.S) := by
    rcases cmpR_cases a b with ⟨h, h'⟩ | ⟨h, h'⟩ | ⟨h, h', h''⟩ <;> omega
  have k2 : b.I * c.Q ≤ c.I * b.Q ∧ (b.I * c.Q = c.I * b.Q → b.S ≤ c.S) := by
    rcases cmpR_cases b c with ⟨h, h'⟩ | ⟨h, h'⟩ | ⟨h, h', h''⟩ <;> omega
  obtain ⟨t1, t2⟩ := frac_trans hb ha hc k1.1 k2.1
  have t3 : a.I * c.Q = c.I * a.Q → a.S ≤ c.S := fun e => by
    have n1 : ¬ (a.I * b.Q < b.I * a.Q ∨ b.I * c.Q < c.I * b.Q) := fun hh => by have := t2 hh; omega
    have := k1.2 (by omega)
    have := k2.2 (by omega)
    omega
  rcases cmpR_cases a c with ⟨h, h'⟩ | ⟨h, h'⟩ | ⟨h, h', h''⟩ <;> omega

theorem cmpR_trans2 {a b c : Ky} (ha : 0 < a.Q) (hb : 0 < b.Q) (hc : 0 < c.Q) (h1 : 0 ≤ cmpR a b) (h2 : 0 ≤ cmpR b c) : 0 ≤ cmpR a c := by
  have t1 := cmpR_turn a b
  have t2 := cmpR_turn b c
  have t3 := cmpR_turn a c
  have := cmpR_trans hc hb ha (show cmpR c b ≤ 0 by omega) (show cmpR b a ≤ 0 by omega)
  omega

/-- the middle one -/
theorem cmpR_mid (a b c : Ky) (hI : c.I = a.I + b.I) (hQ : c.Q = a.Q + b.Q) (hS : a.S = b.S) (hS2 : c.S = a.S) : cmpR a c = cmpR a b ∧ cmpR c b = cmpR a b := by
  have e1 : a.I * c.Q = a.I * a.Q + a.I * b.Q := by rw [hQ, Int.mul_add]
  have e2 : c.I * a.Q = a.I * a.Q + b.I * a.Q := by rw [hI, Int.add_mul]
  have e3 : c.I * b.Q = a.I * b.Q + b.I * b.Q := by rw [hI, Int.add_mul]
  have e4 : b.I * c.Q = b.I * a.Q + b.I * b.Q := by rw [hQ, Int.mul_add]
  constructor
  · rcases cmpR_cases a c with ⟨h, h'⟩ | ⟨h, h'⟩ | ⟨h, h', h''⟩ <;> rcases cmpR_cases a b with ⟨g, g'⟩ | ⟨g, g'⟩ | ⟨g, g', g''⟩ <;> omega
  · rcases cmpR_cases c b with ⟨h, h'⟩ | ⟨h, h'⟩ | ⟨h, h', h''⟩ <;> rcases cmpR_cases a b with ⟨g, g'⟩ | ⟨g, g'⟩ | ⟨g, g', g''⟩ <;> omega

/-- so many times, rounded down and up -/
def loK (k : Ky) (l : Int) : Int := l * k.I / k.Q
def hiK (k : Ky) (l : Int) : Int := (l * k.I + k.Q - 1) / k.Q
theorem scaled_spec (k : Ky) (l : Int) (hq : 0 < k.Q) : loK k l * k.Q ≤ l * k.I ∧ l * k.I < loK k l * k.Q + k.Q ∧ l * k.I ≤ hiK k l * k.Q ∧ hiK k l * k.Q < l * k.I + k.Q := by
  unfold loK hiK
  have a1 := Int.mul_ediv_add_emod (l * k.I) k.Q
  have a2 := Int.emod_nonneg (l * k.I) (show k.Q ≠ 0 by omega)
  have a3 := Int.emod_lt_of_pos (l * k.I) hq
  have b1 := Int.mul_ediv_add_emod (l * k.I + k.Q - 1) k.Q
  have b2 := Int.emod_nonneg (l * k.I + k.Q - 1) (show k.Q ≠ 0 by omega)
  have b3 := Int.emod_lt_of_pos (l * k.I + k.Q - 1) hq
  rw [Int.mul_comm k.Q (l * k.I / k.Q)] at a1
  rw [Int.mul_comm k.Q ((l * k.I + k.Q - 1) / k.Q)] at b1
  omega

theorem scaled_unique {q n lo hi : Int} (hq : 0 < q) (h1 : lo * q ≤ n) (h2 : n < lo * q + q) (h3 : n ≤ hi * q) (h4 : hi * q < n + q) : lo = n / q ∧ hi = (n + q - 1) / q := by
  constructor
  · symm
    refine Int.le_antisymm ?_ ?_
    · have : n / q < lo + 1 := Int.ediv_lt_of_lt_mul hq (by rw [Int.add_mul, Int.one_mul]; exact h2)
      omega
    · exact Int.le_ediv_of_mul_le hq h1
  · symm
    refine Int.le_antisymm ?_ ?_
    · have : (n + q - 1) / q < hi + 1 := Int.ediv_lt_of_lt_mul hq (by rw [Int.add_mul, Int.one_mul]; omega)
      omega
    · exact Int.le_ediv_of_mul_le hq (by omega)

theorem scaled_times (k : Ky) (l f : Int) (hq : 0 < k.Q) (hf : 0 < f) : loK ⟨k.I * f, k.Q * f, k.S⟩ l = loK k l ∧ hiK ⟨k.I * f, k.Q * f, k.S⟩ l = hiK k l := by
  have s := scaled_spec k l hq
  have hqf : 0 < k.Q * f := Int.mul_pos hq hf
  have e : l * (k.I * f) = l * k.I * f := by rw [Int.mul_assoc]
  have e1 : loK k l * (k.Q * f) = loK k l * k.Q * f := by rw [Int.mul_assoc]
  have e2 : hiK k l * (k.Q * f) = hiK k l * k.Q * f := by rw [Int.mul_assoc]
  have m1 := Int.mul_le_mul_of_nonneg_right s.1 (show 0 ≤ f by omega)
  have m2 := Int.mul_lt_mul_of_pos_right s.2.1 hf
  have m3 := Int.mul_le_mul_of_nonneg_right s.2.2.1 (show 0 ≤ f by omega)
  have m4 := Int.mul_lt_mul_of_pos_right s.2.2.2 hf
  rw [Int.add_mul] at m2 m4
  have u := scaled_unique (q := k.Q * f) (n := l * (k.I * f)) (lo := loK k l) (hi := hiK k l) hqf (by omega) (by omega) (by omega) (by omega)
  exact ⟨u.1.symm, u.2.symm⟩

theorem scaled_bound (k : Ky) (l : Int) (h : k.right) (h1 : 1 ≤ l) (h2 : l ≤ 4096) : 0 ≤ loK k l ∧ loK k l ≤ 8192 ∧ 0 ≤ hiK k l ∧ hiK k l ≤ 8192 := by
  obtain ⟨q1, q2, i1, i2, _, _⟩ := h
  have s := scaled_spec k l (by omega)
  have hn0 : 0 ≤ l * k.I := Int.mul_nonneg (by omega) (by omega)
  have hn : l * k.I ≤ l * (2 * k.Q - 1) := Int.mul_le_mul_of_nonneg_left i2 (by omega)
  have e : l * (2 * k.Q - 1) = l * 2 * k.Q - l := by rw [Int.mul_sub, Int.mul_one, ← Int.mul_assoc]
  have lo0 : 0 ≤ loK k l := Int.ediv_nonneg hn0 (by omega)
  have hi0 : 0 ≤ hiK k l := Int.ediv_nonneg (by omega) (by omega)
  have hlo : loK k l * k.Q ≤ l * 2 * k.Q := by omega
  have hhi : hiK k l * k.Q < (l * 2 + 1) * k.Q := by rw [Int.add_mul, Int.one_mul]; omega
  have a1 := Int.le_of_mul_le_mul_right hlo (by omega)
  have a2 := Int.lt_of_mul_lt_mul_right hhi (by omega)
  omega

end Go.Proofs.Ytkdfifkmgpogfaa

/- Keys as values; what the document's own frac (puncheonref09) tells. -/
namespace Go.Proofs.Ytkdfifkmgpogfaa
open Go.RowKit

/-- a key as a value -/
def kv (k : Ky) : Value := .agg #[.int .i64 k.I, .int .i64 k.Q, .int .i64 k.S]
/-- numbers that an int holds -/
def Ky.fits (k : Ky) : Prop := (-9223372036854775808 ≤ k.I ∧ k.I ≤ 9223372036854775807) ∧ (-9223372036854775808 ≤ k.Q ∧ k.Q ≤ 9223372036854775807) ∧ (-9223372036854775808 ≤ k.S ∧ k.S ≤ 9223372036854775807)

/-- the key that is made of small numbers -/
def madeK (i q s : Nat) : Ky := ⟨(((1 + q % 4096) + i % (1 + q % 4096) : Nat) : Int), ((1 + q % 4096 : Nat) : Int), (s : Int)⟩
theorem madeK_right (i q s : Nat) (hs : s < 256) : (madeK i q s).right := by
  have h := Nat.mod_lt i (show 0 < 1 + q % 4096 by omega)
  unfold madeK Ky.right
  simp only []
  omega
theorem Ky.right.fits {k : Ky} (h : k.right) : k.fits := by
  unfold Ky.right at h; unfold Ky.fits; omega

/-- a block that holds a key, of either type -/
def Kb (w : World) (g : Nat) (t : TypeId) (k : Ky) : Prop := w.heap[g]? = some (.cells #[.int .i64 k.I, .int .i64 k.Q, .int .i64 k.S] t (0, 0))
theorem Kb.kept {S : Nat → Prop} {w w' : World} {g : Nat} {t : TypeId} {k : Ky} (h : Kb w g t k) (hc : Chg S w w') (hS : ¬ S g) : Kb w' g t k := (hc.block g (lt_of_block h) hS).trans h
theorem Kb.lt {w : World} {g : Nat} {t : TypeId} {k : Ky} (h : Kb w g t k) : g < w.heap.size := lt_of_block h
theorem Kb.cells {w : World} {g : Nat} {t : TypeId} {k : Ky} (h : Kb w g t k) : w.cell? ⟨g, 0, none⟩ = some (.int .i64 k.I) ∧ w.cell? ⟨g, 1, none⟩ = some (.int .i64 k.Q) ∧ w.cell? ⟨g, 2, none⟩ = some (.int .i64 k.S) :=
  ⟨by rw [cell_of_row w g 0 _ _ _ h]; rfl, by rw [cell_of_row w g 1 _ _ _ h]; rfl, by rw [cell_of_row w g 2 _ _ _ h]; rfl⟩
theorem Kb.loadF {w : World} {g : Nat} {k : Ky} (h : Kb w g 74 k) : (loadVar 74 ⟨g, 0, none⟩).run Try.prog w = .ok (kv k) w := run_loadVar_row w g _ _ _ _ _ h Try.underlying74 rfl (by kernel_rfl)

/-- a key that was boxed, or laid into a variable of its own -/
theorem Kb.of_alloc (w : World) (t : TypeId) (k : Ky) : Kb (w.alloc (.cells #[.int .i64 k.I, .int .i64 k.Q, .int .i64 k.S] t)) w.heap.size t k := heap_alloc_new w _

theorem prod_bound {a b : Int} (h1 : 0 ≤ a) (h2 : a ≤ 8192) (h3 : 0 ≤ b) (h4 : b ≤ 8192) : 0 ≤ a * b ∧ a * b ≤ 67108864 :=
  ⟨Int.mul_nonneg h1 h3, Int.le_trans (Int.mul_le_mul h2 h4 h3 (by omega)) (by decide)⟩

end Go.Proofs.Ytkdfifkmgpogfaa

/- What frac's Right, Cmp, Next and Scaled tell: the program's own text. -/
namespace Go.Proofs.Ytkdfifkmgpogfaa
open Go.RowKit

/-- the next key, if it is right -/
def nextK (k : Ky) : Ky := if Ky.right ⟨k.I + 1, k.Q, k.S⟩ then ⟨k.I + 1, k.Q, k.S⟩ else ⟨0, 0, 0⟩
/-- l times the fraction, down and up -/
def scK (k : Ky) (l : Int) : Int × Int := if k.right ∧ 1 ≤ l ∧ l ≤ 4096 then (loK k l, hiK k l) else (0, 0)

set_option maxHeartbeats 1000000 in
theorem kright_any (k : Ky) (w : World) (_hf : k.fits) : Calls Try.prog 47 #[kv k] w fun e w' => e = .returned (.bool (decide k.right)) ∧ Chg (fun _ => False) w w' := by
  obtain ⟨I, Q, S⟩ := k
  have hca := Chg.alloc (fun _ => False) w (.cells #[.int .i64 I, .int .i64 Q, .int .i64 S] 74)
  have HCA := Lib.hid hca
  clear hca
  unfold kv
  have hd : Ky.right ⟨I, Q, S⟩ ↔ (1 ≤ Q ∧ Q ≤ 4096 ∧ Q ≤ I ∧ I < 2 * Q ∧ 0 ≤ S ∧ S < 256) := by unfold Ky.right; simp only []; omega
  by_cases h1 : 1 ≤ Q
  · by_cases h2 : Q ≤ 4096
    · by_cases h3 : Q ≤ I
      · by_cases h4 : I < 2 * Q
        · by_cases h5 : 0 ≤ S
          · by_cases h6 : S < 256
            · rw [decide_eq_true (hd.2 ⟨h1, h2, h3, h4, h5, h6⟩)]
              clear hd
              go_enter Try.func47, Try.ntmps47
              go_wp2
              go_ret
              exact ⟨rfl, HCA.out⟩
            · rw [decide_eq_false (fun hh => h6 (hd.1 hh).2.2.2.2.2)]
              clear hd
              go_enter Try.func47, Try.ntmps47
              go_wp2
              go_ret
              exact ⟨rfl, HCA.out⟩
          · rw [decide_eq_false (fun hh => h5 (hd.1 hh).2.2.2.2.1)]
            clear hd
            go_enter Try.func47, Try.ntmps47
            go_wp2
            go_ret
            exact ⟨rfl, HCA.out⟩
        · rw [decide_eq_false (fun hh => h4 (hd.1 hh).2.2.2.1)]
          clear hd
          go_enter Try.func47, Try.ntmps47
          go_wp2
          go_ret
          exact ⟨rfl, HCA.out⟩
      · rw [decide_eq_false (fun hh => h3 (hd.1 hh).2.2.1)]
        clear hd
        go_enter Try.func47, Try.ntmps47
        go_wp2
        go_ret
        exact ⟨rfl, HCA.out⟩
    · rw [decide_eq_false (fun hh => h2 (hd.1 hh).2.1)]
      clear hd
      go_enter Try.func47, Try.ntmps47
      go_wp2
      go_ret
      exact ⟨rfl, HCA.out⟩
  · rw [decide_eq_false (fun hh => h1 (hd.1 hh).1)]
    clear hd
    go_enter Try.func47, Try.ntmps47
    go_wp2
    go_ret
    exact ⟨rfl, HCA.out⟩

/-- which of two numbers is less -/
def sgnI (x y : Int) : Int := if x < y then -1 else if y < x then 1 else 0

set_option maxHeartbeats 1000000 in
theorem ccmp_any (x y : Int) (w : World) : Calls Try.prog 80 #[.int .i64 x, .int .i64 y] w fun e w' => e = .returned (.int .i64 (sgnI x y)) ∧ w' = w := by
  unfold sgnI
  by_cases h1 : x < y
  · rw [if_pos h1]
    go_enter Try.func80, Try.ntmps80
    go_wp2
    go_ret
    exact ⟨rfl, rfl⟩
  · rw [if_neg h1]
    by_cases h2 : y < x
    · rw [if_pos h2]
      go_enter Try.func80, Try.ntmps80
      go_wp2
      go_ret
      exact ⟨rfl, rfl⟩
    · rw [if_neg h2]
      go_enter Try.func80, Try.ntmps80
      go_wp2
      go_ret
      exact ⟨rfl, rfl⟩

set_option maxHeartbeats 1000000 in
theorem kfrac_any (a b : Ky) (w : World) (ha : a.right) (hb : b.right) : Calls Try.prog 78 #[kv a, kv b] w fun e w' => e = .returned (.int .i64 (sgnI (a.I * b.Q) (b.I * a.Q))) ∧ Chg (fun _ => False) w w' := by
  obtain ⟨I, Q, S⟩ := a
  obtain ⟨J, R, T⟩ := b
  unfold Ky.right at ha hb
  simp only [] at ha hb ⊢
  have b1 := prod_bound (a := I) (b := R) (by omega) (by omega) (by omega) (by omega)
  have b2 := prod_bound (a := J) (b := Q) (by omega) (by omega) (by omega) (by omega)
  obtain ⟨X, hX⟩ : ∃ X, I * R = X := ⟨_, rfl⟩
  obtain ⟨Y, hY⟩ : ∃ Y, J * Q = Y := ⟨_, rfl⟩
  rw [hX] at b1 ⊢
  rw [hY] at b2 ⊢
  obtain ⟨b10, b11⟩ := b1
  obtain ⟨b20, b21⟩ := b2
  unfold kv
  have hc0 : Chg (fun _ => False) w ((w.alloc (.cells #[.int .i64 I, .int .i64 Q, .int .i64 S] 74)).alloc (.cells #[.int .i64 J, .int .i64 R, .int .i64 T] 74)) := (Chg.alloc (fun _ => False) w _).trans (Chg.alloc (fun _ => False) _ _) fun _ _ h => h
  have HC := Lib.hid hc0
  clear hc0 ha hb
  go_enter Try.func78, Try.ntmps78
  go_wp2_with fail
  refine (ccmp_any X Y _).mono ?_
  rintro e w1 ⟨rfl, rfl⟩
  go_wp2
  go_ret
  exact ⟨rfl, HC.out⟩

set_option maxHeartbeats 1000000 in
theorem ksym_any (a b : Ky) (w : World) : Calls Try.prog 79 #[kv a, kv b] w fun e w' => e = .returned (.int .i64 (sgnI a.S b.S)) ∧ Chg (fun _ => False) w w' := by
  obtain ⟨I, Q, S⟩ := a
  obtain ⟨J, R, T⟩ := b
  simp only []
  unfold kv
  have hc0 : Chg (fun _ => False) w ((w.alloc (.cells #[.int .i64 I, .int .i64 Q, .int .i64 S] 74)).alloc (.cells #[.int .i64 J, .int .i64 R, .int .i64 T] 74)) := (Chg.alloc (fun _ => False) w _).trans (Chg.alloc (fun _ => False) _ _) fun _ _ h => h
  have HC := Lib.hid hc0
  clear hc0
  go_enter Try.func79, Try.ntmps79
  go_wp2_with fail
  refine (ccmp_any S T _).mono ?_
  rintro e w1 ⟨rfl, rfl⟩
  go_wp2
  go_ret
  exact ⟨rfl, HC.out⟩

theorem cmpR_sgn (a b : Ky) : cmpR a b = if sgnI (a.I * b.Q) (b.I * a.Q) = 0 then sgnI a.S b.S else sgnI (a.I * b.Q) (b.I * a.Q) := by
  unfold cmpR sgnI
  repeat' split
  all_goals first | rfl | omega
theorem sgn_cases (x y : Int) : sgnI x y = -1 ∨ sgnI x y = 1 ∨ sgnI x y = 0 := by 
  unfold sgnI
  repeat' split
  all_goals simp

set_option maxHeartbeats 1000000 in
theorem kcmp_any (a b : Ky) (w : World) (ha : a.fits) (hb : b.fits) : Calls Try.prog 77 #[kv a, kv b] w fun e w' => e = .returned (.int .i64 (cmpK a b)) ∧ Chg (fun _ => False) w w' := by
  have HA := Lib.hid ha; have HB := Lib.hid hb
  obtain ⟨x, hx⟩ : ∃ x, cmpK a b = x := ⟨_, rfl⟩
  rw [hx]
  have HX := Lib.hid hx
  clear ha hb hx
  obtain ⟨I, Q, S⟩ := a
  obtain ⟨J, R, T⟩ := b
  unfold kv
  have hka : Kb ((w.alloc (.cells #[.int .i64 I, .int .i64 Q, .int .i64 S] 74)).alloc (.cells #[.int .i64 J, .int .i64 R, .int .i64 T] 74)) w.heap.size 74 ⟨I, Q, S⟩ := heap_alloc2_old w _ _
  have hkb : Kb ((w.alloc (.cells #[.int .i64 I, .int .i64 Q, .int .i64 S] 74)).alloc (.cells #[.int .i64 J, .int .i64 R, .int .i64 T] 74)) (w.heap.size + 1) 74 ⟨J, R, T⟩ := heap_alloc2_new w _ _
  have hc0 : Chg (fun _ => False) w ((w.alloc (.cells #[.int .i64 I, .int .i64 Q, .int .i64 S] 74)).alloc (.cells #[.int .i64 J, .int .i64 R, .int .i64 T] 74)) := (Chg.alloc (fun _ => False) w _).trans (Chg.alloc (fun _ => False) _ _) fun _ _ h => h
  have HKA := Lib.hid hka; have HKB := Lib.hid hkb; have HC := Lib.hid hc0
  clear hka hkb hc0
  go_enter Try.func77, Try.ntmps77
  go_wp2_with fail
  refine (kright_any ⟨I, Q, S⟩ _ HA.out).mono ?_
  rintro e w1 ⟨rfl, hc1⟩
  replace HKA := Lib.hid (HKA.out.kept hc1 (by simp)); replace HKB := Lib.hid (HKB.out.kept hc1 (by simp)); replace HC := Lib.hid (HC.out.trans hc1 fun _ _ h => h)
  clear hc1
  by_cases h1 : Ky.right ⟨I, Q, S⟩
  · rw [decide_eq_true h1]
    obtain ⟨c0, c1, c2⟩ := HKB.out.cells
    simp only [] at c0 c1 c2
    go_wp2_with fail
    refine (kright_any ⟨J, R, T⟩ _ HB.out).mono ?_
    rintro e w2 ⟨rfl, hc1⟩
    replace HKA := Lib.hid (HKA.out.kept hc1 (by simp)); replace HKB := Lib.hid (HKB.out.kept hc1 (by simp)); replace HC := Lib.hid (HC.out.trans hc1 fun _ _ h => h)
    clear hc1 c0 c1 c2
    by_cases h2 : Ky.right ⟨J, R, T⟩
    · rw [decide_eq_true h2]
      have hcmp := HX.out
      unfold cmpK at hcmp
      rw [if_pos ⟨h1, h2⟩, cmpR_sgn] at hcmp
      have R1 := Lib.hid h1; have R2 := Lib.hid h2
      have HCM := Lib.hid hcmp
      clear hcmp h1 h2 HX
      have i0 : ∀ w : World, (Instr.index 118 (.agg #[.func (.func 78) #[] #[], .func (.func 79) #[] #[]]) (.int .i64 0)).run Try.prog w = .ok (.func (.func 78) #[] #[]) w := fun _ => by kernel_rfl
      have i1 : ∀ w : World, (Instr.index 118 (.agg #[.func (.func 78) #[] #[], .func (.func 79) #[] #[]]) (.int .i64 1)).run Try.prog w = .ok (.func (.func 79) #[] #[]) w := fun _ => by kernel_rfl
      go_wp2_with fail
      refine wp_loop_rounds 3 ?_
      rw [rounds_succ]
      obtain ⟨a0, a1, a2⟩ := HKA.out.cells
      obtain ⟨c0, c1, c2⟩ := HKB.out.cells
      simp only [] at a0 a1 a2 c0 c1 c2
      go_wp2_with fail
      refine (kfrac_any ⟨I, Q, S⟩ ⟨J, R, T⟩ _ R1.out R2.out).mono ?_
      rintro e w3 ⟨rfl, hc1⟩
      replace HKA := Lib.hid (HKA.out.kept hc1 (by simp)); replace HKB := Lib.hid (HKB.out.kept hc1 (by simp)); replace HC := Lib.hid (HC.out.trans hc1 fun _ _ h => h)
      clear hc1 a0 a1 a2 c0 c1 c2
      simp only [] at HCM ⊢
      rcases sgn_cases (I * R) (J * Q) with e1 | e1 | e1
      · have hx1 : x = -1 := by rw [← HCM.out, if_neg (by rw [e1]; decide), e1]
        subst hx1
        rw [e1]
        clear e1 HCM
        go_wp2
        go_ret
        exact ⟨rfl, HC.out⟩
      · have hx1 : x = 1 := by rw [← HCM.out, if_neg (by rw [e1]; decide), e1]
        subst hx1
        rw [e1]
        clear e1 HCM
        go_wp2
        go_ret
        exact ⟨rfl, HC.out⟩
      · have hx1 : x = sgnI S T := by rw [← HCM.out, if_pos e1]
        rw [e1]
        have HX1 := Lib.hid hx1
        clear e1 HCM hx1
        go_wp2_with fail
        rw [rounds_succ]
        obtain ⟨a0, a1, a2⟩ := HKA.out.cells
        obtain ⟨c0, c1, c2⟩ := HKB.out.cells
        simp only [] at a0 a1 a2 c0 c1 c2
        go_wp2_with fail
        refine (ksym_any ⟨I, Q, S⟩ ⟨J, R, T⟩ _).mono ?_
        rintro e w4 ⟨rfl, hc1⟩
        replace HC := Lib.hid (HC.out.trans hc1 fun _ _ h => h)
        clear hc1 a0 a1 a2 c0 c1 c2
        simp only []
        rw [← HX1.out]
        by_cases e2 : x = 0
        · subst e2
          clear HX1
          go_wp2_with fail
          rw [rounds_succ]
          go_wp2
          go_ret
          exact ⟨rfl, HC.out⟩
        · clear HX1
          go_wp2
          go_ret
          exact ⟨rfl, HC.out⟩
    · rw [decide_eq_false h2]
      have hd : x = 0 := by rw [← HX.out]; unfold cmpK; rw [if_neg fun h => h2 h.2]
      subst hd
      clear h1 h2 HX
      go_wp2
      go_ret
      exact ⟨rfl, HC.out⟩
  · rw [decide_eq_false h1]
    have hd : x = 0 := by rw [← HX.out]; unfold cmpK; rw [if_neg fun h => h1 h.1]
    subst hd
    clear h1 HX
    go_wp2
    go_ret
    exact ⟨rfl, HC.out⟩

/-- a key is laid into a block -/
def K3 (w : World) (g : Nat) (k : Ky) : World := ((w.setCell ⟨g, 0, none⟩ (.int .i64 k.I)).setCell ⟨g, 1, none⟩ (.int .i64 k.Q)).setCell ⟨g, 2, none⟩ (.int .i64 k.S)
theorem K3_chg (w : World) (g : Nat) (k : Ky) : Chg (fun q => q = g) w (K3 w g k) :=
  ((Chg.setCell w ⟨g, 0, none⟩ _).trans (Chg.setCell _ ⟨g, 1, none⟩ _) fun _ _ h => h).trans (Chg.setCell _ ⟨g, 2, none⟩ _) fun _ _ h => h
theorem K3_cells {w : World} {g : Nat} {t : TypeId} {k0 : Ky} (h : Kb w g t k0) (I Q S : Int) :
    (w.setCell ⟨g, 0, none⟩ (.int .i64 I)).cell? ⟨g, 0, none⟩ = some (.int .i64 I) ∧ ((w.setCell ⟨g, 0, none⟩ (.int .i64 I)).setCell ⟨g, 1, none⟩ (.int .i64 Q)).cell? ⟨g, 1, none⟩ = some (.int .i64 Q) ∧ (K3 w g ⟨I, Q, S⟩).cell? ⟨g, 2, none⟩ = some (.int .i64 S) ∧ Kb (K3 w g ⟨I, Q, S⟩) g t ⟨I, Q, S⟩ := by
  have h1 := heap_setCell_same w g 0 _ _ (.int .i64 I) h
  have h2 := heap_setCell_same _ g 1 _ _ (.int .i64 Q) h1
  have h3 := heap_setCell_same _ g 2 _ _ (.int .i64 S) h2
  exact ⟨by rw [cell_of_row _ _ 0 _ _ _ h1]; rfl, by rw [cell_of_row _ _ 1 _ _ _ h2]; rfl, by unfold K3; rw [cell_of_row _ _ 2 _ _ _ h3]; rfl, h3⟩
theorem zeroKey (W : World) : (zeroValue 74).run Try.prog W = .ok (.agg #[.int .i64 0, .int .i64 0, .int .i64 0]) W := by kernel_rfl

set_option maxHeartbeats 1000000 in
theorem knext_any (k : Ky) (w : World) (hk : k.right) : Calls Try.prog 37 #[kv k] w fun e w' => e = .returned (.tuple #[kv (nextK k), .bool (decide (Ky.right ⟨k.I + 1, k.Q, k.S⟩))]) ∧ Chg (fun _ => False) w w' := by
  obtain ⟨I, Q, S⟩ := k
  have HK := Lib.hid hk
  have hI : 0 ≤ I ∧ I ≤ 8191 := by unfold Ky.right at hk; simp only [] at hk; omega
  have hF : Ky.fits ⟨I + 1, Q, S⟩ := by unfold Ky.right at hk; unfold Ky.fits; simp only [] at hk ⊢; omega
  have HF := Lib.hid hF
  obtain ⟨hI0, hI1⟩ := hI
  clear hk hF
  simp only []
  obtain ⟨n, hn⟩ : ∃ n, nextK ⟨I, Q, S⟩ = n := ⟨_, rfl⟩
  have HN := Lib.hid hn
  clear hn
  obtain ⟨d, hd⟩ : ∃ d, decide (Ky.right ⟨I + 1, Q, S⟩) = d := ⟨_, rfl⟩
  have HD := Lib.hid hd
  rw [HN.out, hd]
  clear hd
  obtain ⟨W, hW⟩ : ∃ W, ((w.alloc (.cells #[.int .i64 I, .int .i64 Q, .int .i64 S] 74)).alloc (.cells #[.int .i64 0, .int .i64 0, .int .i64 0] 74)).alloc (.cells #[.int .i64 (I + 1), .int .i64 Q, .int .i64 S] 74) = W := ⟨_, rfl⟩
  have hc0 : Chg (fun _ => False) w W := by rw [← hW]; exact ((Chg.alloc (fun _ => False) w _).trans (Chg.alloc (fun _ => False) _ _) fun _ _ h => h).trans (Chg.alloc (fun _ => False) _ _) fun _ _ h => h
  have hr : Kb W (w.heap.size + 1) 74 ⟨0, 0, 0⟩ := by rw [← hW]; exact Kb.kept (S := fun _ => False) (show Kb ((w.alloc _).alloc _) _ _ ⟨0, 0, 0⟩ from heap_alloc2_new w _ _) (Chg.alloc _ _ _) (by simp)
  have hn : Kb W (w.heap.size + 1 + 1) 74 ⟨I + 1, Q, S⟩ := by rw [← hW]; exact (by simpa using Kb.of_alloc ((w.alloc (.cells #[.int .i64 I, .int .i64 Q, .int .i64 S] 74)).alloc (.cells #[.int .i64 0, .int .i64 0, .int .i64 0] 74)) 74 ⟨I + 1, Q, S⟩)
  have HC := Lib.hid hc0; have HR := Lib.hid hr; have HNX := Lib.hid hn; have HW := Lib.hid hW
  clear hc0 hr hn hW
  have hz := zeroKey
  unfold kv
  simp only []
  go_enter Try.func37, Try.ntmps37
  go_wp2_with fail
  rw [HW.out]
  refine (kright_any ⟨I, Q, S⟩ _ HK.out.fits).mono ?_
  rintro e w1 ⟨rfl, hc1⟩
  replace HR := Lib.hid (HR.out.kept hc1 (by simp)); replace HNX := Lib.hid (HNX.out.kept hc1 (by simp)); replace HC := Lib.hid (HC.out.trans hc1 fun _ _ h => h)
  rw [decide_eq_true HK.out]
  clear hc1 HW
  obtain ⟨c0, c1, c2⟩ := HNX.out.cells
  simp only [] at c0 c1 c2
  go_wp2_with fail
  refine (kright_any ⟨I + 1, Q, S⟩ _ HF.out).mono ?_
  rintro e w2 ⟨rfl, hc1⟩
  replace HR := Lib.hid (HR.out.kept hc1 (by simp)); replace HNX := Lib.hid (HNX.out.kept hc1 (by simp)); replace HC := Lib.hid (HC.out.trans hc1 fun _ _ h => h)
  rw [HD.out]
  clear hc1 c0 c1 c2
  obtain ⟨gr, hgr⟩ : ∃ g, w.heap.size + 1 = g := ⟨_, rfl⟩
  obtain ⟨gn, hgn⟩ : ∃ g, w.heap.size + 1 + 1 = g := ⟨_, rfl⟩
  rw [hgr] at HR
  rw [hgn] at HNX
  have HG := Lib.hid hgr
  rw [hgr] at hgn ⊢
  rw [hgn]
  clear hgr hgn W
  cases d
  · have hne : n = ⟨0, 0, 0⟩ := by rw [← HN.out]; unfold nextK; rw [if_neg (of_decide_eq_false HD.out)]
    subst hne
    obtain ⟨y0, y1, y2, hkb⟩ := K3_cells HR.out 0 0 0
    have hcf := HC.out.trans (K3_chg w2 gr ⟨0, 0, 0⟩) fun q hq he => by have := HG.out; omega
    obtain ⟨z0, z1, z2⟩ := HR.out.cells
    obtain ⟨u0, u1, u2⟩ := hkb.cells
    have hl := hkb.loadF
    unfold kv at hl
    unfold K3 at y2 u0 u1 u2 hcf hl
    simp only [] at z0 z1 z2 u0 u1 u2 hcf hl
    have HCF := Lib.hid hcf
    clear hcf hkb
    have f0 := frozen_of_row w2 gr 0 _ _ HR.out
    have f1 := frozen_of_row w2 gr 1 _ _ HR.out
    have f2 := frozen_of_row w2 gr 2 _ _ HR.out
    go_wp2
    refine bodyPost_ret (v := .tuple #[.agg #[.int .i64 0, .int .i64 0, .int .i64 0], .bool false]) (by simp [results, Try.results37, go_sem, y0, y1, y2]; try rfl) rfl ?_
    exact ⟨rfl, HCF.out⟩
  · have hne : n = ⟨I + 1, Q, S⟩ := by rw [← HN.out]; unfold nextK; rw [if_pos (of_decide_eq_true HD.out)]
    subst hne
    obtain ⟨y0, y1, y2, hkb⟩ := K3_cells HR.out (I + 1) Q S
    have hcf := HC.out.trans (K3_chg w2 gr ⟨I + 1, Q, S⟩) fun q hq he => by have := HG.out; omega
    obtain ⟨z0, z1, z2⟩ := HR.out.cells
    obtain ⟨u0, u1, u2⟩ := hkb.cells
    obtain ⟨c0, c1, c2⟩ := HNX.out.cells
    have hl := hkb.loadF
    unfold kv at hl
    unfold K3 at y2 u0 u1 u2 hcf hl
    simp only [] at z0 z1 z2 u0 u1 u2 c0 c1 c2 hcf hl
    have HCF := Lib.hid hcf
    clear hcf hkb
    have f0 := frozen_of_row w2 gr 0 _ _ HR.out
    have f1 := frozen_of_row w2 gr 1 _ _ HR.out
    have f2 := frozen_of_row w2 gr 2 _ _ HR.out
    go_wp2
    refine bodyPost_ret (v := .tuple #[.agg #[.int .i64 (I + 1), .int .i64 Q, .int .i64 S], .bool true]) (by simp [results, Try.results37, go_sem, y0, y1, y2]; try rfl) rfl ?_
    exact ⟨rfl, HCF.out⟩

end Go.Proofs.Ytkdfifkmgpogfaa

/- spread's keys in memory, those that are right; spread's queue as container/heap asks for it. THIS SPEAKS OF THE PROGRAM'S OWN TEXT. -/
namespace Go.Proofs.Ytkdfifkmgpogfaa
open Go.RowKit

/-- a key that is right -/
abbrev Kr := { k : Ky // k.right }
instance : Inhabited Kr := ⟨⟨⟨1, 1, 0⟩, by decide⟩⟩
def kvl (k : Kr) : List Value := [.int .i64 k.1.I, .int .i64 k.1.Q, .int .i64 k.1.S]
def kvs (l : List Kr) : List Value := l.flatMap kvl
theorem kvs_cons (a : Kr) (l : List Kr) : kvs (a :: l) = kvl a ++ kvs l := by simp [kvs]
theorem kvs_append (a b : List Kr) : kvs (a ++ b) = kvs a ++ kvs b := by simp [kvs]
theorem kvs_length (l : List Kr) : (kvs l).length = l.length * 3 := by
  induction l with
  | nil => rfl
  | cons c r ih => rw [kvs_cons, List.length_append, ih]; simp [kvl]; omega
theorem kvs_get (l : List Kr) (j : Nat) (h : j < l.length) : (kvs l)[j * 3]? = some (.int .i64 (l.getD j default).1.I) ∧ (kvs l)[j * 3 + 1]? = some (.int .i64 (l.getD j default).1.Q) ∧ (kvs l)[j * 3 + 2]? = some (.int .i64 (l.getD j default).1.S) := by
  induction l generalizing j with
  | nil => simp at h
  | cons c r ih =>
    rw [kvs_cons]
    cases j with
    | zero => exact ⟨rfl, rfl, rfl⟩
    | succ j =>
      have ih := ih j (by simpa using h)
      have hl : (kvl c).length = 3 := rfl
      rw [List.getElem?_append_right (by omega), List.getElem?_append_right (by omega), List.getElem?_append_right (by omega), hl,
        show (j + 1) * 3 - 3 = j * 3 by omega, show (j + 1) * 3 + 1 - 3 = j * 3 + 1 by omega, show (j + 1) * 3 + 2 - 3 = j * 3 + 2 by omega]
      exact ih
/-- three cells, one behind the other -/
def set3 (l : List Value) (k : Nat) (s : Kr) : List Value := ((l.set k (.int .i64 s.1.I)).set (k + 1) (.int .i64 s.1.Q)).set (k + 2) (.int .i64 s.1.S)
theorem kvs_set (l : List Kr) (j : Nat) (c : Kr) (h : j < l.length) : set3 (kvs l) (j * 3) c = kvs (l.set j c) := by
  unfold set3
  induction l generalizing j with
  | nil => simp at h
  | cons d r ih =>
    cases j with
    | zero => rw [List.set_cons_zero, kvs_cons, kvs_cons]; rfl
    | succ j =>
      have ih := ih j (by simpa using h)
      have hl : (kvl d).length = 3 := rfl
      rw [List.set_cons_succ, kvs_cons, kvs_cons, ← ih, List.set_append_right _ _ (by omega), List.set_append_right _ _ (by omega), List.set_append_right _ _ (by omega), hl,
        show (j + 1) * 3 - 3 = j * 3 by omega, show (j + 1) * 3 + 1 - 3 = j * 3 + 1 by omega, show (j + 1) * 3 + 2 - 3 = j * 3 + 2 by omega]
theorem kvs_one (xs : List Kr) : ∀ u ∈ kvs xs, u.oneCell' = true := by
  intro u hu
  simp only [kvs, List.mem_flatMap, kvl] at hu
  obtain ⟨x, _, hx⟩ := hu
  simp at hx
  rcases hx with rfl | rfl | rfl <;> rfl

theorem Try.infoKey : (Try.prog.info? 74).map (fun i => (i.zero, i.size, i.bytes)) = some (some (.agg #[.int .i64 0, .int .i64 0, .int .i64 0]), 3, 24) := by kernel_rfl

/-- which of two right keys is less -/
def lessB (a b : Kr) : Bool := decide (cmpR a.1 b.1 < 0)
theorem lessB_ord : TotalOrd (noLess lessB) := by
  constructor
  · intro a b
    unfold noLess lessB
    have := cmpR_turn a.1 b.1
    rw [decide_eq_false_iff_not, decide_eq_false_iff_not]; omega
  · intro a b c h1 h2
    unfold noLess lessB at *
    rw [decide_eq_false_iff_not] at *
    have ha := a.2.1; have hb := b.2.1; have hc := c.2.1
    have := cmpR_trans2 (show 0 < c.1.Q by omega) (show 0 < b.1.Q by omega) (show 0 < a.1.Q by omega) (show 0 ≤ cmpR c.1 b.1 by omega) (show 0 ≤ cmpR b.1 a.1 by omega)
    omega

/-- the queue at block b, whose keys v stand in memory from block B on: the block X is neither of them -/
def FarK (b B X : Nat) (v : Value) (w : World) : Prop := B ≤ b ∧ b ≠ X ∧ v.ownBlock ≠ some X ∧ X < w.heap.size
/-- the queue at block b, whose keys stand in memory from block B on; X is a block that it leaves alone -/
def Kq (b B X : Nat) (w : World) (l : List Kr) : Prop := ∃ v, w.heap[b]? = some (.cells #[v] 86 (0, 0)) ∧ w.ownsRow B 74 3 v l.length (kvs l) ∧ l.length ≤ 100000 ∧ FarK b B X v w
/-- the blocks that it may turn -/
def Sk (B X k : Nat) : Prop := B ≤ k ∧ k ≠ X

end Go.Proofs.Ytkdfifkmgpogfaa

/- What the methods of spread's queue do: Len, Less. THIS SPEAKS OF THE PROGRAM'S OWN TEXT. -/
namespace Go.Proofs.Ytkdfifkmgpogfaa
open Go.RowKit

section
variable {b B X : Nat} {w : World} {l : List Kr}

theorem kown_form {v : Value} {n : Nat} {xs : List Value} (h : w.ownsRow B 74 3 v n xs) : ∃ ao cap, v = .slice ao n cap := by
  rcases h.2 with ⟨rfl, rfl⟩ | ⟨g, cap, cur, rfl, _⟩
  · exact ⟨_, _, rfl⟩
  · exact ⟨_, _, rfl⟩
theorem kown_ne {v : Value} {n : Nat} {xs : List Value} {cs : Array Value} {fr : Nat × Nat} (h : w.ownsRow B 74 3 v n xs) (hb : w.heap[b]? = some (.cells cs 86 fr)) : v.ownBlock ≠ some b := by
  intro he
  rcases h.2 with ⟨rfl, rfl⟩ | ⟨g, cap, cur, rfl, _, hg, _⟩
  · cases he
  · simp only [Value.ownBlock, Option.some.injEq] at he
    subst he
    rw [hb] at hg
    simp at hg
theorem Kq.cells (h : Kq b B X w l) : ∃ ao cap, w.cell? ⟨b, 0, none⟩ = some (.slice ao l.length cap) ∧ w.frozen? ⟨b, 0, none⟩ = false ∧ w.ownsRow B 74 3 (.slice ao l.length cap) l.length (kvs l) ∧ l.length ≤ 100000 := by
  obtain ⟨v, h1, h2, h3, h4⟩ := h
  obtain ⟨ao, cap, rfl⟩ := kown_form h2
  exact ⟨ao, cap, by rw [cell_of_row w b 0 _ _ _ h1]; rfl, frozen_of_row w b _ _ _ h1, h2, h3⟩
theorem Kq.kept {S : Nat → Prop} {w' : World} (h : Kq b B X w l) (hc : Chg S w w') (hS : ∀ k, Sk B X k → ¬ S k) : Kq b B X w' l := by
  obtain ⟨v, h1, h2, h3, h4, h5, h6, h7⟩ := h
  refine ⟨v, (hc.block b (lt_of_block h1) (hS b ⟨h4, h5⟩)).trans h1, hc.own h2 ?_, h3, h4, h5, h6, Nat.lt_of_lt_of_le h7 hc.size⟩
  intro k hk
  exact hS k ⟨(h2.lt k hk).1, fun he => h6 (by rw [hk, he])⟩
theorem Kq.small (h : Kq b B X w l) : l.length < 1000000000 := by obtain ⟨v, h1, h2, h3, h4⟩ := h; omega

set_option maxHeartbeats 1000000 in
set_option maxRecDepth 100000 in
theorem kqlen_any (h : Kq b B X w l) : Calls Try.prog 35 #[.pointer (some ⟨b, 0, none⟩)] w fun e w' => e = .returned (.int .i64 ((l.length : Nat) : Int)) ∧ Kq b B X w' l ∧ Chg (Sk B X) w w' := by
  obtain ⟨ao, cap, h1, -, -⟩ := h.cells
  have H := Lib.hid h
  clear h
  go_enter Try.func35, Try.ntmps35
  go_wp2
  go_ret
  exact ⟨rfl, H.out, Chg.refl _ _⟩

theorem kown_slice {w : World} {ao : Option Addr} {n cap : Nat} {xs : List Value} (h : w.ownsRow B 74 3 (.slice ao n cap) n xs) (hn : 0 < n) : ∃ g, ao = some ⟨g, 0, none⟩ ∧ B ≤ g := by
  rcases h.2 with ⟨h1, h2⟩ | ⟨g, cap', cur, he, hb, hg, _⟩
  · omega
  · simp only [Value.slice.injEq] at he
    exact ⟨g, he.1, hb⟩
theorem kown_at {w : World} {g n cap : Nat} (h : w.ownsRow B 74 3 (.slice (some ⟨g, 0, none⟩) n cap) n (kvs l)) (hl : l.length = n) (i : Nat) (hi : i < n) :
    w.cell? ⟨g, i * 3, none⟩ = some (.int .i64 (l.getD i default).1.I) ∧ w.cell? ⟨g, i * 3 + 1, none⟩ = some (.int .i64 (l.getD i default).1.Q) ∧ w.cell? ⟨g, i * 3 + 2, none⟩ = some (.int .i64 (l.getD i default).1.S) := by
  have hg := kvs_get l i (by omega)
  rw [h.cellAt (i * 3) (by omega), h.cellAt (i * 3 + 1) (by omega), h.cellAt (i * 3 + 2) (by omega)]
  exact hg

set_option maxHeartbeats 1000000 in
set_option maxRecDepth 100000 in
theorem kqless_any (h : Kq b B X w l) (i j : Nat) (hi : i < l.length) (hj : j < l.length) :
    Calls Try.prog 73 #[.pointer (some ⟨b, 0, none⟩), .int .i64 (i : Int), .int .i64 (j : Int)] w fun e w' => e = .returned (.bool (lessB (l.getD i default) (l.getD j default))) ∧ Kq b B X w' l ∧ Chg (Sk B X) w w' := by
  obtain ⟨ao, cap, h1, -, h3, h4⟩ := h.cells
  obtain ⟨g, rfl, hg⟩ := kown_slice h3 (by omega)
  obtain ⟨n, hn⟩ : ∃ n, l.length = n := ⟨_, rfl⟩
  rw [hn] at h1 h3 hi hj
  obtain ⟨a0, a1, a2⟩ := kown_at h3 hn i hi
  obtain ⟨c0, c1, c2⟩ := kown_at h3 hn j hj
  have H := Lib.hid h
  obtain ⟨x, hx⟩ : ∃ x, l.getD i default = x := ⟨_, rfl⟩
  obtain ⟨y, hy⟩ : ∃ y, l.getD j default = y := ⟨_, rfl⟩
  rw [hx] at a0 a1 a2 ⊢
  rw [hy] at c0 c1 c2 ⊢
  have hfx := kcmp_any x.1 y.1 w.drew x.2.fits y.2.fits
  have hc0 : cmpK x.1 y.1 = cmpR x.1 y.1 := by unfold cmpK; rw [if_pos ⟨x.2, y.2⟩]
  rw [hc0] at hfx
  unfold lessB
  obtain ⟨c, hcc⟩ : ∃ c, cmpR x.1 y.1 = c := ⟨_, rfl⟩
  rw [hcc] at hfx ⊢
  have hin : (i : Int) < (n : Int) := by omega
  have hjn : (j : Int) < (n : Int) := by omega
  obtain ⟨⟨s1, k1, p1⟩, hx2⟩ := x
  obtain ⟨⟨s2, k2, p2⟩, hy2⟩ := y
  unfold kv at hfx
  simp only [] at hfx a0 a1 a2 c0 c1 c2
  have HF := Lib.hid hfx
  clear h h3 hfx hn hx hy hc0 hcc hx2 hy2
  go_enter Try.func73, Try.ntmps73
  go_wp2
  go_still_tail 14, (by kernel_rfl)
  change wpList _ _ _ _ _ w.drew
  go_wp2_with fail
  refine HF.out.mono ?_
  rintro e w2 ⟨rfl, hc⟩
  have HC := Lib.hid hc
  clear hc
  go_wp2
  go_ret
  have hcw : Chg (fun _ => False) w w2 := (Chg.refl (fun _ => False) w).drew.trans HC.out (fun _ _ h => h)
  exact ⟨rfl, H.out.kept hcw (by simp), hcw.mono fun _ _ h => h.elim⟩

end

end Go.Proofs.Ytkdfifkmgpogfaa

/- What Swap, Pop and Push of spread's queue do. THIS SPEAKS OF THE PROGRAM'S OWN TEXT. -/
namespace Go.Proofs.Ytkdfifkmgpogfaa
open Go.RowKit

section
variable {b B X : Nat} {w : World} {l : List Kr}

/-- three cells of the block g, one behind the other -/
def W3k (w : World) (g k : Nat) (s : Kr) : World := ((w.setCell ⟨g, k, none⟩ (.int .i64 s.1.I)).setCell ⟨g, k + 1, none⟩ (.int .i64 s.1.Q)).setCell ⟨g, k + 2, none⟩ (.int .i64 s.1.S)
theorem W3k_chg (w : World) (g k : Nat) (s : Kr) : Chg (fun q => q = g) w (W3k w g k s) :=
  ((Chg.setCell w ⟨g, k, none⟩ _).trans (Chg.setCell _ ⟨g, k + 1, none⟩ _) fun _ _ h => h).trans (Chg.setCell _ ⟨g, k + 2, none⟩ _) fun _ _ h => h
theorem kown_W3 {g n cap : Nat} (h : w.ownsRow B 74 3 (.slice (some ⟨g, 0, none⟩) n cap) n (kvs l)) (hl : l.length = n) (i : Nat) (hi : i < n) (s : Kr) :
    (W3k w g (i * 3) s).ownsRow B 74 3 (.slice (some ⟨g, 0, none⟩) n cap) n (kvs (l.set i s)) := by
  rw [← kvs_set l i s (by omega)]
  exact ((((h.stored (i * 3) _).1.stored (i * 3 + 1) _).1.stored (i * 3 + 2) _).1)

set_option maxHeartbeats 4000000 in
theorem kqswap_any (h : Kq b B X w l) (i j : Nat) (hi : i < l.length) (hj : j < l.length) :
    Calls Try.prog 76 #[.pointer (some ⟨b, 0, none⟩), .int .i64 (i : Int), .int .i64 (j : Int)] w fun e w' => e = .returned (.tuple #[]) ∧ Kq b B X w' (swp l i j) ∧ Chg (Sk B X) w w' := by
  obtain ⟨ao, cap, h1, -, h3, h4⟩ := h.cells
  obtain ⟨g, rfl, hg⟩ := kown_slice h3 (by omega)
  have hgX : g ≠ X := by
    obtain ⟨v, q1, q2, q3, q4, q5, q6, q7⟩ := h
    have e1 : w.cell? ⟨b, 0, none⟩ = some v := by rw [cell_of_row w b 0 _ _ _ q1]; rfl
    rw [e1] at h1
    obtain rfl := Option.some.inj h1
    exact fun he => q6 (by rw [he]; rfl)
  obtain ⟨n, hn⟩ : ∃ n, l.length = n := ⟨_, rfl⟩
  rw [hn] at h1 h3 hi hj
  obtain ⟨a0, a1, a2⟩ := kown_at h3 hn i hi
  obtain ⟨c0, c1, c2⟩ := kown_at h3 hn j hj
  have f0 := h3.frozenAt (i * 3)
  have f1 := h3.frozenAt (i * 3 + 1)
  have f2 := h3.frozenAt (i * 3 + 2)
  have g0 := h3.frozenAt (j * 3)
  have g1 := h3.frozenAt (j * 3 + 1)
  have g2 := h3.frozenAt (j * 3 + 2)
  have H := Lib.hid h
  have hsw : swp l i j = (l.set i (l.getD j default)).set j (l.getD i default) := rfl
  rw [hsw]
  obtain ⟨x, hx⟩ : ∃ x, l.getD i default = x := ⟨_, rfl⟩
  obtain ⟨y, hy⟩ : ∃ y, l.getD j default = y := ⟨_, rfl⟩
  rw [hx] at a0 a1 a2 ⊢
  rw [hy] at c0 c1 c2 ⊢
  have hin : (i : Int) < (n : Int) := by omega
  have hjn : (j : Int) < (n : Int) := by omega
  have h5 := kown_W3 h3 hn i hi y
  have h6 := kown_W3 h5 (by simpa using hn) j hj x
  obtain ⟨d0, d1, d2⟩ := kown_at h5 (by simpa using hn) j hj
  obtain ⟨z, hz⟩ : ∃ z, (l.set i y).getD j default = z := ⟨_, rfl⟩
  rw [hz] at d0 d1 d2
  have hc6 : Chg (Sk B X) w (W3k (W3k w g (i * 3) y) g (j * 3) x) := ((W3k_chg w g (i * 3) y).trans (W3k_chg _ g (j * 3) x) fun _ _ h => h).mono fun k _ hk => by rw [hk]; exact ⟨hg, hgX⟩
  have hq6 : Kq b B X (W3k (W3k w g (i * 3) y) g (j * 3) x) ((l.set i y).set j x) := by
    obtain ⟨v, q1, q2, q3, q4⟩ := h
    have e1 : w.cell? ⟨b, 0, none⟩ = some v := by rw [cell_of_row w b 0 _ _ _ q1]; rfl
    rw [e1] at h1
    obtain rfl := Option.some.inj h1
    have hne := kown_ne q2 q1
    have hbg : b ≠ g := fun he => hne (by rw [he]; rfl)
    refine ⟨_, (((W3k_chg w g (i * 3) y).trans (W3k_chg _ g (j * 3) x) fun _ _ h => h).block b (lt_of_block q1) hbg).trans q1, ?_, by simpa using q3, q4.1, q4.2.1, q4.2.2.1, Nat.lt_of_lt_of_le q4.2.2.2 hc6.size⟩
    have : ((l.set i y).set j x).length = n := by simpa using hn
    rw [this]
    exact h6
  have HC6 := Lib.hid hc6; have HQ6 := Lib.hid hq6
  clear h h3 hn hsw h5 h6 hz hc6 hq6 hgX
  unfold W3k at d0 d1 d2 HC6 HQ6
  clear hx hy
  obtain ⟨⟨t1, t2, t3⟩, hz2⟩ := z
  obtain ⟨⟨s1, k1, p1⟩, hx2⟩ := x
  obtain ⟨⟨s2, k2, p2⟩, hy2⟩ := y
  simp only [] at a0 a1 a2 c0 c1 c2 d0 d1 d2 HC6 HQ6
  have HXYZ := Lib.hid (And.intro hz2 (And.intro hx2 hy2))
  go_enter Try.func76, Try.ntmps76
  go_wp2
  go_region
  go_wp2
  go_returns
  exact ⟨rfl, HQ6.out.kept ((Chg.refl (fun _ => False) _).drew) (by simp), HC6.out.drew⟩

/-- a queue whose keys lie elsewhere now -/
theorem Kq.turn {w' : World} {v v' : Value} {l' : List Kr} (h1 : w.heap[b]? = some (.cells #[v] 86 (0, 0))) (hown : w'.ownsRow B 74 3 v' l'.length (kvs l')) (hn : l'.length ≤ 100000) (hb : FarK b B X v' w') (hk : w'.heap[b]? = w.heap[b]?) :
    Kq b B X (w'.setCell ⟨b, 0, none⟩ v') l' := by
  have h2 := hk.trans h1
  refine ⟨v', ?_, ownsRow_setCell_other hown (kown_ne hown h2) v', hn, hb.1, hb.2.1, hb.2.2.1, by simpa [World.setCell] using hb.2.2.2⟩
  rw [heap_setCell_same w' b 0 _ _ v' h2]
  rfl

set_option maxHeartbeats 1000000 in
theorem kqpop_any (x : Kr) (h : Kq b B X w (l ++ [x])) :
    Calls Try.prog 74 #[.pointer (some ⟨b, 0, none⟩)] w fun e w' => e = .returned (.iface 74 (kv x.1)) ∧ Kq b B X w' l ∧ Chg (Sk B X) w w' := by
  obtain ⟨v, q1, q2, q3, q4⟩ := h
  have h1 : w.cell? ⟨b, 0, none⟩ = some v := by rw [cell_of_row w b 0 _ _ _ q1]; rfl
  have hf := frozen_of_row w b 0 _ _ q1
  obtain ⟨n, hn⟩ : ∃ n, l.length = n := ⟨_, rfl⟩
  have hlx : (l ++ [x]).length = n + 1 := by simp [hn]
  rw [hlx] at q2 q3
  have hx : (l ++ [x]).getD n default = x := by rw [List.getD_eq_getElem?_getD, List.getElem?_append_right (by omega)]; simp [hn]
  rcases q2.2 with ⟨_, h0⟩ | ⟨g, cap, cur, rfl, hg, hh, hnc, hcm, hsz, htk⟩
  · omega
  obtain ⟨a0, a1, a2⟩ := kown_at q2 hlx n (by omega)
  rw [hx] at a0 a1 a2
  have hpop : w.ownsRow B 74 3 (.slice (some ⟨g, 0, none⟩) n cap) l.length (kvs l) := by
    rw [hn]
    rw [kvs_append] at q2
    exact ownsRow_pop (by rw [kvs_length, hn]) q2
  obtain ⟨⟨s1, kk1, p1⟩, hxr⟩ := x
  have hca := Chg.alloc (fun _ => False) w (.cells #[.int .i64 s1, .int .i64 kk1, .int .i64 p1] 74)
  have hnew := heap_alloc_new w (.cells #[.int .i64 s1, .int .i64 kk1, .int .i64 p1] 74)
  have hown2 := hpop.alloc (.cells #[.int .i64 s1, .int .i64 kk1, .int .i64 p1] 74)
  obtain ⟨W1, hW1⟩ : ∃ W1, w.alloc (.cells #[.int .i64 s1, .int .i64 kk1, .int .i64 p1] 74) = W1 := ⟨_, rfl⟩
  rw [hW1] at hca hnew hown2
  have hc1 : Chg (Sk B X) w (W1.setCell ⟨b, 0, none⟩ (.slice (some ⟨g, 0, none⟩) n cap)) := (hca.mono (T := Sk B X) fun _ _ h => h.elim).trans (Chg.setCell W1 ⟨b, 0, none⟩ _) fun k _ hk => by rw [hk]; exact ⟨q4.1, q4.2.1⟩
  have hq1 : Kq b B X (W1.setCell ⟨b, 0, none⟩ (.slice (some ⟨g, 0, none⟩) n cap)) l := Kq.turn q1 hown2 (by omega) ⟨q4.1, q4.2.1, q4.2.2.1, Nat.lt_of_lt_of_le q4.2.2.2 hca.size⟩ (hca.block b (lt_of_block q1) (by simp))
  have hnew2 : (W1.setCell ⟨b, 0, none⟩ (.slice (some ⟨g, 0, none⟩) n cap)).heap[w.heap.size]? = _ := (heap_setCell_other W1 ⟨b, 0, none⟩ w.heap.size _ (fun e => by have := lt_of_block q1; simp at e; omega)).trans hnew
  have z0 : (W1.setCell ⟨b, 0, none⟩ (.slice (some ⟨g, 0, none⟩) n cap)).cell? ⟨w.heap.size, 0, none⟩ = some (.int .i64 s1) := by rw [cell_of_row _ _ 0 _ _ _ hnew2]; rfl
  have z1 : (W1.setCell ⟨b, 0, none⟩ (.slice (some ⟨g, 0, none⟩) n cap)).cell? ⟨w.heap.size, 1, none⟩ = some (.int .i64 kk1) := by rw [cell_of_row _ _ 1 _ _ _ hnew2]; rfl
  have z2 : (W1.setCell ⟨b, 0, none⟩ (.slice (some ⟨g, 0, none⟩) n cap)).cell? ⟨w.heap.size, 2, none⟩ = some (.int .i64 p1) := by rw [cell_of_row _ _ 2 _ _ _ hnew2]; rfl
  have HC := Lib.hid hc1; have HQ := Lib.hid hq1
  have k1 : W1.cell? ⟨b, 0, none⟩ = some (.slice (some ⟨g, 0, none⟩) (n + 1) cap) := by
    rw [World.cell?_of_block (w := w) (hca.block b (lt_of_block q1) (by simp))]; exact h1
  have k2 : W1.frozen? ⟨b, 0, none⟩ = false := by
    rw [World.frozen?_of_block (w := w) (hca.block b (lt_of_block q1) (by simp))]; exact hf
  have hb : ((n + 1 : Nat) : Int) ≤ 100000 := by omega
  obtain ⟨n1, hn1⟩ : ∃ n1, n + 1 = n1 := ⟨_, rfl⟩
  have e1 : (n1 : Int) - 1 = (n : Int) := by omega
  have e2 : wrap64 (n : Int) = (n : Int) := by unfold wrap64; omega
  have e3 : (n : Int) < (n1 : Int) := by omega
  have e4 : n ≤ cap := Nat.le_of_lt hnc
  rw [hn1] at h1 hb k1
  clear hc1 hq1 hpop hnew hnew2 hown2 hca q1 q2 q3 q4 hx hlx hn htk hsz hcm hnc hh hg
  unfold kv
  simp only [] at a0 a1 a2 ⊢
  clear hxr
  have e5 : n < n1 := by omega
  clear hn1
  go_enter Try.func74, Try.ntmps74
  go_wp2
  go_returns
  exact ⟨rfl, HQ.out, HC.out⟩

theorem Try.asKey (v : Value) (w : World) : (Instr.typeAssert (.iface 74 v) 20 74 false).run Try.prog w = .ok v w := by kernel_rfl

/-- append of one key, in a region that draws -/
theorem step_append_key {ops : Array Oper} {o : Oper} {a : Act} {W : World} {K : Act → World → Prop} {Q : Exit → Act → World → Prop} {E : Prop} (hgd : o.guard = none) (s x : Operand)
    (ho : o.op = .call { callee := .builtin .append, args := #[s, x], argTypes := #[84, 84] })
    (B : Nat) (v : Value) (l : List Kr) (y : Kr) (hs : a.eval s = v) (hown : W.ownsRow B 74 3 v l.length (kvs l)) (G : Nat) (hx : a.eval x = .slice (some ⟨G, 0, none⟩) 1 1)
    (hblk : W.heap[G]? = some (.cells (kvl y).toArray 74 (0, 0))) (hl : l.length ≤ 100000) (hB : B ≤ W.heap.size)
    (n1 : Nat) (hn1 : n1 = l.length + 1) (h : ∀ g cap w', w'.ownsRow B 74 3 (.slice (some ⟨g, 0, none⟩) n1 cap) (l ++ [y]).length (kvs (l ++ [y])) → Chg (fun k => some k = v.ownBlock) W w' → (v.ownBlock = some g ∨ g = W.heap.size) → K (a.put o.dst (.slice (some ⟨g, 0, none⟩) n1 cap)) w') :
    if Region.wanted o (yielded ops a.tmps) = true then Oper.wp Try.prog o a W K Q else E := by
  subst hn1
  obtain ⟨i, hi, hz0, hz1, hz2⟩ := info_parts Try.infoKey
  refine step_append_lies W hgd s x 84 ho B 74 i (.agg #[.int .i64 0, .int .i64 0, .int .i64 0]) 3 24 Try.underlying84 hi hz0 hz1 hz2 rfl (by decide) v l.length (kvs l) hs hown ⟨G, 0, none⟩ 1 1 (kvl y) hx rfl (World.news_of_block hblk)
    (fun u hu => kvs_one [y] u (by simpa [kvs] using hu)) (by decide) (by unfold maxLen; omega) (by omega) hB _ rfl fun g cap w' h2 h3 h4 _ => ?_
  exact h g cap w' (by rw [List.length_append, kvs_append, List.length_singleton]; simpa [kvs] using h2) (Chg.of_grown h3) h4

set_option maxHeartbeats 2000000 in
theorem kqpush_any (x : Kr) (h : Kq b B X w l) (hl : l.length < 100000) :
    Calls Try.prog 75 #[.pointer (some ⟨b, 0, none⟩), .iface 74 (kv x.1)] w fun e w' => e = .returned (.tuple #[]) ∧ Kq b B X w' (l ++ [x]) ∧ Chg (Sk B X) w w' := by
  obtain ⟨v, q1, q2, q3, q4⟩ := h
  have h1 : w.cell? ⟨b, 0, none⟩ = some v := by rw [cell_of_row w b 0 _ _ _ q1]; rfl
  have hf := frozen_of_row w b 0 _ _ q1
  have hlt := lt_of_block q1
  have hne := kown_ne q2 q1
  have HY := Lib.hid (show ∀ r, x = r → r = x from fun r h => h.symm)
  obtain ⟨y, hy⟩ : ∃ y, x = y := ⟨_, rfl⟩
  obtain ⟨⟨s1, k1, p1⟩, hxr⟩ := x
  have hyl : kvl y = [.int .i64 s1, .int .i64 k1, .int .i64 p1] := by rw [← hy]; rfl
  have ho1 := q2.alloc (.cells #[.int .i64 s1, .int .i64 k1, .int .i64 p1] 74)
  have hblk := heap_alloc_new w (.cells (kvl y).toArray 74)
  rw [hyl] at hblk
  obtain ⟨n1, hn1⟩ : ∃ n1, n1 = l.length + 1 := ⟨_, rfl⟩
  have HN1 := Lib.hid hn1
  clear hn1
  have hstep : ∀ g cap w', w'.ownsRow B 74 3 (.slice (some ⟨g, 0, none⟩) n1 cap) (l ++ [y]).length (kvs (l ++ [y])) → Chg (fun k => some k = v.ownBlock) (w.alloc (.cells #[.int .i64 s1, .int .i64 k1, .int .i64 p1] 74)).drew w' → (v.ownBlock = some g ∨ g = (w.alloc (.cells #[.int .i64 s1, .int .i64 k1, .int .i64 p1] 74)).drew.heap.size) →
      w'.cell? ⟨b, 0, none⟩ = some v ∧ w'.frozen? ⟨b, 0, none⟩ = false ∧ Hid (Kq b B X (w'.setCell ⟨b, 0, none⟩ (.slice (some ⟨g, 0, none⟩) n1 cap)) (l ++ [y]) ∧ Chg (Sk B X) w (w'.setCell ⟨b, 0, none⟩ (.slice (some ⟨g, 0, none⟩) n1 cap))) := by
    intro g cap w' ho hc hlies
    have hca : Chg (fun k => some k = v.ownBlock) w w' := ((Chg.alloc _ w _).drew).trans hc fun _ _ h => h
    have hb2 := hca.block b hlt (fun he => hne he.symm)
    have hfar : FarK b B X (.slice (some ⟨g, 0, none⟩) n1 cap) w' := by
      refine ⟨q4.1, q4.2.1, ?_, Nat.lt_of_lt_of_le q4.2.2.2 hca.size⟩
      have hX := q4.2.2.2
      rcases hlies with h | h
      · intro he
        exact q4.2.2.1 (by rw [h]; exact he)
      · intro he
        simp only [Value.ownBlock, Option.some.injEq] at he
        rw [h] at he
        simp [World.drew] at he
        omega
    refine ⟨?_, ?_, Lib.hid ⟨Kq.turn q1 ho (by simp; omega) hfar hb2, ?_⟩⟩
    · rw [World.cell?_of_block (w := w) hb2]; exact h1
    · rw [World.frozen?_of_block (w := w) hb2]; exact hf
    · refine (hca.mono (T := Sk B X) fun k _ hk => ⟨(q2.lt k hk.symm).1, fun he => q4.2.2.1 (by rw [← hk, he])⟩).trans (Chg.setCell w' ⟨b, 0, none⟩ _) fun k _ hk => by rw [hk]; exact ⟨q4.1, q4.2.1⟩
  have hBw : B ≤ w.heap.size := by have := q4.1; omega
  have hkeep : ∀ o, (w.alloc o).cell? ⟨b, 0, none⟩ = some v := fun o => by
    have : (w.alloc o).heap[b]? = w.heap[b]? := Below.heap_alloc w o b hlt
    rw [World.cell?_of_block (w := w) this]; exact h1
  have hblk2 : (w.alloc (.cells #[.int .i64 s1, .int .i64 k1, .int .i64 p1] 74)).drew.heap[w.heap.size]? = some (.cells (kvl y).toArray 74 (0, 0)) := by rw [hyl]; exact hblk
  have HST := Lib.hid hstep; have HO := Lib.hid ho1; have HB := Lib.hid hblk2; have HBW := Lib.hid (show B ≤ (w.alloc (.cells #[.int .i64 s1, .int .i64 k1, .int .i64 p1] 74)).drew.heap.size by simp [World.drew]; omega); have HL := Lib.hid (Nat.le_of_lt hl); have HYE := Lib.hid hy
  clear hstep ho1 hblk hblk2 hBw q1 q2 q3 q4 hlt hne hl hyl hy HY
  unfold kv
  simp only []
  have has := Try.asKey
  go_enter Try.func75, Try.ntmps75
  go_wp2
  go_region_law ((refine step_append_key rfl (.tmp 8) (.tmp 11) rfl B v l y rfl HO.out.drew w.heap.size rfl HB.out HL.out HBW.out n1 HN1.out ?_; intro g cap w2 ho2 hc2 hl2; obtain ⟨e1, e2, HQQ⟩ := HST.out _ _ w2 ho2 hc2 hl2; clear ho2 hc2 hl2))
  all_goals
    go_wp2
    go_returns
    refine ⟨rfl, ?_, HQQ.out.2⟩
    rw [HYE.out]
    exact HQQ.out.1

end

end Go.Proofs.Ytkdfifkmgpogfaa

/- spread's queue is a heap; what its add and least do. THIS SPEAKS OF THE PROGRAM'S OWN TEXT. -/
namespace Go.Proofs.Ytkdfifkmgpogfaa
open Go.RowKit

section
variable {b B X : Nat} {w : World} {l : List Kr}

theorem kmethLen (a : Addr) (w : World) : (method 221 71 (.pointer (some a)) "Len").run Try.prog w = .ok (35, .pointer (some a)) w := by kernel_rfl
theorem kmethLess (a : Addr) (w : World) : (method 221 71 (.pointer (some a)) "Less").run Try.prog w = .ok (73, .pointer (some a)) w := by kernel_rfl
theorem kmethSwap (a : Addr) (w : World) : (method 221 71 (.pointer (some a)) "Swap").run Try.prog w = .ok (76, .pointer (some a)) w := by kernel_rfl
theorem kmethPush (a : Addr) (w : World) : (method 221 71 (.pointer (some a)) "Push").run Try.prog w = .ok (75, .pointer (some a)) w := by kernel_rfl
theorem kmethPop (a : Addr) (w : World) : (method 221 71 (.pointer (some a)) "Pop").run Try.prog w = .ok (74, .pointer (some a)) w := by kernel_rfl

theorem kqueue_hp : HpB (.pointer (some ⟨b, 0, none⟩)) (Kq b B X) lessB (Sk B X) where
  len := fun w l h => ⟨_, kmethLen _ w, kqlen_any h⟩
  less := fun w l h => ⟨_, kmethLess _ w, fun i j hi hj => kqless_any h i j hi hj⟩
  swap := fun w l h => ⟨_, kmethSwap _ w, fun i j hi hj => kqswap_any h i j hi hj⟩
  small := fun w l h => h.small
theorem kqueue_pushes (x : Kr) : HpBPushes (.pointer (some ⟨b, 0, none⟩)) (Kq b B X) (Sk B X) (fun s => .iface 74 (kv s.1)) x := fun w l h hl => ⟨_, kmethPush _ w, kqpush_any x h hl⟩
theorem kqueue_pops : HpBPops (.pointer (some ⟨b, 0, none⟩)) (Kq b B X) (Sk B X) (fun s => .iface 74 (kv s.1)) := fun w l x h => ⟨_, kmethPop _ w, kqpop_any x h⟩

/-- the queue that holds the keys l, in a heap's order -/
def Kh (b B : Nat) (w : World) (l : List Kr) : Prop := (∃ v, w.heap[b]? = some (.cells #[v] 86 (0, 0)) ∧ w.ownsRow B 74 3 v l.length (kvs l) ∧ l.length ≤ 100000 ∧ B ≤ b) ∧ Heap (noLess lessB) l l.length
theorem Kh.of (h : Kq b B X w l) (hh : Heap (noLess lessB) l l.length) : Kh b B w l := by
  obtain ⟨v, h1, h2, h3, h4⟩ := h
  exact ⟨⟨v, h1, h2, h3, h4.1⟩, hh⟩
theorem Kh.far (h : Kh b B w l) (o : Obj) : Kq b B w.heap.size (w.alloc o) l := by
  obtain ⟨⟨v, h1, h2, h3, h4⟩, _⟩ := h
  refine ⟨v, (Below.heap_alloc w o b (lt_of_block h1)).trans h1, h2.alloc o, h3, h4, ?_, ?_, by simp⟩
  · have := lt_of_block h1; omega
  · intro he; have := (h2.lt _ he).2; omega
theorem Kh.kept {S : Nat → Prop} {w' : World} (h : Kh b B w l) (hc : Chg S w w') (hS : ∀ k, B ≤ k → k < w.heap.size → ¬ S k) : Kh b B w' l := by
  obtain ⟨⟨v, h1, h2, h3, h4⟩, hh⟩ := h
  refine ⟨⟨v, (hc.block b (lt_of_block h1) (hS b h4 (lt_of_block h1))).trans h1, hc.own h2 ?_, h3, h4⟩, hh⟩
  intro k hk
  exact hS k (h2.lt k hk).1 (h2.lt k hk).2
theorem Kh.le (h : Kh b B w l) : B ≤ b ∧ b < w.heap.size := by obtain ⟨⟨v, h1, h2, h3, h4⟩, hh⟩ := h; exact ⟨h4, lt_of_block h1⟩

set_option maxHeartbeats 1000000 in
/-- Len, of a queue, which leaves all as it is -/
theorem kh_len (h : Kh b B w l) : Calls Try.prog 35 #[.pointer (some ⟨b, 0, none⟩)] w fun e w' => e = .returned (.int .i64 ((l.length : Nat) : Int)) ∧ w' = w := by
  obtain ⟨⟨v, h1, h2, h3, h4⟩, _⟩ := h
  obtain ⟨ao, cap, rfl⟩ := kown_form h2
  have hc : w.cell? ⟨b, 0, none⟩ = some (.slice ao l.length cap) := by rw [cell_of_row w b 0 _ _ _ h1]; rfl
  clear h1 h2 h3 h4
  go_enter Try.func35, Try.ntmps35
  go_wp2
  go_ret
  exact ⟨rfl, rfl⟩

set_option maxHeartbeats 1000000 in
theorem kqadd_any (x : Kr) (h : Kh b B w l) (hl : l.length < 100000) :
    Calls Try.prog 38 #[.pointer (some ⟨b, 0, none⟩), kv x.1] w fun e w' => e = .returned (.tuple #[]) ∧ ∃ l', Kh b B w' l' ∧ l'.Perm (x :: l) ∧ Chg (fun k => B ≤ k) w w' := by
  have hp : ∀ o, Calls Try.prog 48 #[.iface 71 (.pointer (some ⟨b, 0, none⟩)), .iface 74 (kv x.1)] (w.alloc o) fun e w' => e = .returned (.tuple #[]) ∧ ∃ l', Kh b B w' l' ∧ l'.Perm (x :: l) ∧ Chg (fun k => B ≤ k) w w' := by
    intro o
    refine (hpB_push lessB_ord kqueue_hp x (kqueue_pushes x) (w.alloc o) l (h.far o) hl h.2).mono ?_
    rintro e w' ⟨rfl, l', h1, h2, h3, h4⟩
    exact ⟨rfl, l', Kh.of h1 h3, h2, (Chg.alloc (fun k => B ≤ k) w o).trans h4 fun _ _ hk => hk.1⟩
  obtain ⟨y, hy⟩ : ∃ y : Kr → List Kr, (fun a => a :: l) = y := ⟨_, rfl⟩
  have hp2 : ∀ o, Calls Try.prog 48 #[.iface 71 (.pointer (some ⟨b, 0, none⟩)), .iface 74 (kv x.1)] (w.alloc o) fun e w' => e = .returned (.tuple #[]) ∧ ∃ l', Kh b B w' l' ∧ l'.Perm (y x) ∧ Chg (fun k => B ≤ k) w w' := by rw [← hy]; exact hp
  have hgoal : (x :: l) = y x := by rw [← hy]
  rw [hgoal]
  obtain ⟨r, hr⟩ : ∃ r, y x = r := ⟨_, rfl⟩
  rw [hr] at hp2 ⊢
  have HP := Lib.hid hp2
  clear hp hp2 h hl hy hgoal hr
  obtain ⟨⟨s1, k1, p1⟩, hxr⟩ := x
  unfold kv at HP ⊢
  simp only [] at HP ⊢
  clear hxr
  go_enter Try.func38, Try.ntmps38
  go_wp2_with fail
  refine (HP.out _).mono ?_
  rintro e w2 ⟨rfl, hh⟩
  have HH := Lib.hid hh
  clear hh HP
  go_wp2
  go_returns
  exact ⟨rfl, HH.out⟩

set_option maxHeartbeats 1000000 in
theorem kqleast_any (h : Kh b B w l) (hl : 0 < l.length) :
    Calls Try.prog 36 #[.pointer (some ⟨b, 0, none⟩)] w fun e w' => ∃ (x : Kr) (l' : List Kr), e = .returned (kv x.1) ∧ Kh b B w' l' ∧ l.Perm (x :: l') ∧ (∀ y ∈ l', noLess lessB x y) ∧ Chg (fun k => B ≤ k) w w' := by
  have hp : Calls Try.prog 46 #[.iface 71 (.pointer (some ⟨b, 0, none⟩))] (w.alloc (.cells #[.int .i64 0, .int .i64 0, .int .i64 0] 74)) fun e w' => ∃ (x : Kr) (l' : List Kr), e = .returned (.iface 74 (kv x.1)) ∧ (Kq b B w.heap.size w' l' ∧ Heap (noLess lessB) l' l'.length) ∧ l.Perm (x :: l') ∧ (∀ y ∈ l', noLess lessB x y) ∧ Chg (fun k => B ≤ k) w w' ∧
      w'.heap[w.heap.size]? = some (.cells #[.int .i64 0, .int .i64 0, .int .i64 0] 74 (0, 0)) ∧ B ≤ w.heap.size := by
    refine (hpB_pop lessB_ord kqueue_hp kqueue_pops _ l (h.far _) hl h.2).mono ?_
    rintro e w' ⟨x, l', rfl, h1, h2, h3, h4, h5⟩
    refine ⟨x, l', rfl, ⟨h1, h4⟩, h2, h3, (Chg.alloc (fun k => B ≤ k) w _).trans h5 fun _ _ hk => hk.1, ?_, ?_⟩
    · exact (h5.block w.heap.size (by simp) (fun hk => hk.2 rfl)).trans (heap_alloc_new w _)
    · have := h.le; omega
  have HP := Lib.hid hp
  have has := Try.asKey
  have hz := zeroKey
  clear hp h hl
  go_enter Try.func36, Try.ntmps36
  go_wp2_with fail
  refine (HP.out).mono ?_
  rintro e w2 ⟨x, l', rfl, h1, h2, h3, h4, h5, h6⟩
  obtain ⟨N, hN⟩ : ∃ N, w.heap.size = N := ⟨_, rfl⟩
  rw [hN] at h1 h5 h6 ⊢
  have hc3 := W3k_chg w2 N 0 x
  have hq3 := h1.1.kept hc3 (fun k hk he => hk.2 he)
  have HF := Lib.hid (show ∃ y, y = x.1 ∧ Kh b B (W3k w2 N 0 x) l' ∧ l.Perm (x :: l') ∧ (∀ y ∈ l', noLess lessB x y) ∧ Chg (fun k => B ≤ k) w (W3k w2 N 0 x) from
    ⟨_, rfl, Kh.of hq3 h1.2, h2, h3, h4.trans hc3 fun k _ hk => by rw [hk]; exact h6⟩)
  have z0 : w2.cell? ⟨N, 0, none⟩ = some (.int .i64 0) := by rw [cell_of_row _ _ 0 _ _ _ h5]; rfl
  have z1 : w2.cell? ⟨N, 1, none⟩ = some (.int .i64 0) := by rw [cell_of_row _ _ 1 _ _ _ h5]; rfl
  have z2 : w2.cell? ⟨N, 2, none⟩ = some (.int .i64 0) := by rw [cell_of_row _ _ 2 _ _ _ h5]; rfl
  have f0 := frozen_of_row w2 N 0 _ _ h5
  have f1 := frozen_of_row w2 N 1 _ _ h5
  have f2 := frozen_of_row w2 N 2 _ _ h5
  clear h1 h2 h3 h4 hc3 hq3 hN HP
  obtain ⟨⟨s1, k1, p1⟩, hxr⟩ := x
  have y0 : (w2.setCell ⟨N, 0, none⟩ (.int .i64 s1)).cell? ⟨N, 0, none⟩ = some (.int .i64 s1) := by rw [cell_of_row _ _ 0 _ _ _ (heap_setCell_same w2 N 0 _ _ _ h5)]; rfl
  have y1 : ((w2.setCell ⟨N, 0, none⟩ (.int .i64 s1)).setCell ⟨N, 1, none⟩ (.int .i64 k1)).cell? ⟨N, 1, none⟩ = some (.int .i64 k1) := by rw [cell_of_row _ _ 1 _ _ _ (heap_setCell_same _ N 1 _ _ _ (heap_setCell_same w2 N 0 _ _ _ h5))]; rfl
  have y2 : (((w2.setCell ⟨N, 0, none⟩ (.int .i64 s1)).setCell ⟨N, 1, none⟩ (.int .i64 k1)).setCell ⟨N, 2, none⟩ (.int .i64 p1)).cell? ⟨N, 2, none⟩ = some (.int .i64 p1) := by rw [cell_of_row _ _ 2 _ _ _ (heap_setCell_same _ N 2 _ _ _ (heap_setCell_same _ N 1 _ _ _ (heap_setCell_same w2 N 0 _ _ _ h5)))]; rfl
  clear h5 h6
  unfold W3k at HF
  simp only [Nat.zero_add] at HF
  unfold kv
  simp only []
  go_wp2
  refine bodyPost_ret (v := kv ⟨s1, k1, p1⟩) (by simp [results, Try.results36, go_sem, y0, y1, y2]; try rfl) rfl ?_
  obtain ⟨y, hy, g1, g2, g3, g4⟩ := HF.out
  exact ⟨⟨⟨s1, k1, p1⟩, hxr⟩, l', rfl, g1, g2, g3, g4⟩

end

end Go.Proofs.Ytkdfifkmgpogfaa

/- Plain mathematics of spread's queue: what waits in it, and what comes off it next. -/
namespace Go.Proofs.Ytkdfifkmgpogfaa
open Go

/-- the key of a symbol and a number, above its count -/
def keyK (f : Nat → Nat) (s d : Nat) : Ky := ⟨((f s + d : Nat) : Int), ((f s : Nat) : Int), (s : Int)⟩
theorem keyK_right {f : Nat → Nat} (hf : ∀ s, f s ≤ 4096) {s d : Nat} (hs : s < 256) (hd : d < f s) : (keyK f s d).right := by
  have := hf s
  unfold Ky.right keyK; simp only []; omega
theorem keyK_inj {f : Nat → Nat} {s d t e : Nat} (h : keyK f s d = keyK f t e) : s = t ∧ d = e := by
  unfold keyK at h
  simp only [Ky.mk.injEq] at h
  have h1 : s = t := by omega
  subst h1
  exact ⟨rfl, by omega⟩
theorem keyK_less {f : Nat → Nat} {s d t e : Nat} : cmpR (keyK f s d) (keyK f t e) < 0 ↔ kless f s (f s + d) t (f t + e) := by
  have e1 : (keyK f s d).I * (keyK f t e).Q = (((f s + d) * f t : Nat) : Int) := by unfold keyK; simp only []; rw [Int.natCast_mul]
  have e2 : (keyK f t e).I * (keyK f s d).Q = (((f t + e) * f s : Nat) : Int) := by unfold keyK; simp only []; rw [Int.natCast_mul]
  have e3 : (keyK f s d).S = (s : Int) := rfl
  have e4 : (keyK f t e).S = (t : Int) := rfl
  unfold kless
  rcases cmpR_cases (keyK f s d) (keyK f t e) with ⟨h, h'⟩ | ⟨h, h'⟩ | ⟨h, h', h''⟩ <;> omega

/-- what waits once p keys have come off: of each symbol the first one that stands at p or behind it -/
def WaitF (f : Nat → Nat) (p : Nat) (l : List Kr) : Prop :=
  l.Nodup ∧ ∀ k : Kr, k ∈ l ↔ ∃ s d, s < 256 ∧ d < f s ∧ k.1 = keyK f s d ∧ p ≤ placeF f 256 s (f s + d) ∧ ∀ d', d' < d → placeF f 256 s (f s + d') < p

theorem WaitF.some {f : Nat → Nat} (hf : ∀ s, f s ≤ 4096) {p : Nat} {l : List Kr} (h : WaitF f p l) (hp : p < sumTo f 256) : ∃ s d, s < 256 ∧ d < f s ∧ placeF f 256 s (f s + d) = p ∧ ∃ k : Kr, k ∈ l ∧ k.1 = keyK f s d := by
  obtain ⟨s, d, hs, hd, he⟩ := place_onto hp
  refine ⟨s, d, hs, hd, he, ⟨keyK f s d, keyK_right hf hs hd⟩, (h.2 _).2 ⟨s, d, hs, hd, rfl, by omega, fun d' hd' => ?_⟩, rfl⟩
  rw [← he]
  exact place_rise hs hd hd'
theorem WaitF.none {f : Nat → Nat} {p : Nat} {l : List Kr} (h : WaitF f p l) (hp : sumTo f 256 ≤ p) : l = [] := by
  cases l with
  | nil => rfl
  | cons a r =>
    obtain ⟨s, d, hs, hd, _, hle, _⟩ := (h.2 a).1 (by simp)
    have := place_room (f := f) (N := 256) hs hd
    omega
theorem WaitF.next {f : Nat → Nat} (hf : ∀ s, f s ≤ 4096) {p : Nat} {l l' : List Kr} {x : Kr} (h : WaitF f p l) (hp : p < sumTo f 256) (hpp : l.Perm (x :: l')) (hle : ∀ y ∈ l', noLess lessB x y) :
    ∃ s d, s < 256 ∧ d < f s ∧ x.1 = keyK f s d ∧ placeF f 256 s (f s + d) = p := by
  obtain ⟨s0, d0, hs0, hd0, he0, k, hk, hk0⟩ := h.some hf hp
  obtain ⟨s, d, hs, hd, he, hxp, hxd⟩ := (h.2 x).1 (hpp.symm.subset (by simp))
  by_cases hx : k = x
  · rw [hx, he] at hk0
    obtain ⟨rfl, rfl⟩ := keyK_inj hk0
    exact ⟨s, d, hs, hd, he, he0⟩
  · have hkl : k ∈ l' := by
      have := hpp.subset hk
      rcases List.mem_cons.1 this with h1 | h1
      · exact absurd h1 hx
      · exact h1
    have hn := hle k hkl
    unfold noLess lessB at hn
    rw [decide_eq_false_iff_not, hk0, he, keyK_less] at hn
    have hne : ¬ (s0 = s ∧ f s0 + d0 = f s + d) := fun hh => by
      obtain ⟨rfl, h2⟩ := hh
      have : d0 = d := by omega
      subst this
      exact hx (Subtype.ext (by rw [hk0, he]))
    rcases kless_total (f := f) (by omega) hne with h1 | h1
    · exact absurd h1 hn
    · have := place_lt (f := f) (N := 256) hs hd hd0 h1
      omega

theorem WaitF.step {f : Nat → Nat} {p : Nat} {l l' m : List Kr} {x : Kr} {s d : Nat} (h : WaitF f p l) (hpp : l.Perm (x :: l')) (hs : s < 256) (hd : d < f s) (hx : x.1 = keyK f s d) (he : placeF f 256 s (f s + d) = p)
    (hm : m.Nodup) (hmem : ∀ k : Kr, k ∈ m ↔ k ∈ l' ∨ (d + 1 < f s ∧ k.1 = keyK f s (d + 1))) : WaitF f (p + 1) m := by
  have hxl : ∀ k, k ∈ l' ↔ k ∈ l ∧ k ≠ x := fun k => by
    have hnd := hpp.nodup_iff.1 h.1
    rw [List.nodup_cons] at hnd
    constructor
    · exact fun hk => ⟨hpp.symm.subset (List.mem_cons_of_mem _ hk), fun e => hnd.1 (e ▸ hk)⟩
    · rintro ⟨hk, hne⟩
      rcases List.mem_cons.1 (hpp.subset hk) with h1 | h1
      · exact absurd h1 hne
      · exact h1
  refine ⟨hm, fun k => ?_⟩
  rw [hmem, hxl, h.2]
  constructor
  · rintro (⟨⟨t, e, ht, he', hk, hle, hlt⟩, hne⟩ | ⟨hd1, hk⟩)
    · refine ⟨t, e, ht, he', hk, ?_, fun d' hd' => by have := hlt d' hd'; omega⟩
      by_cases heq : placeF f 256 t (f t + e) = p
      · obtain ⟨rfl, rfl⟩ := place_inj (f := f) (N := 256) ht hs he' hd (by rw [heq, he])
        exact absurd (Subtype.ext (by rw [hk, hx])) hne
      · omega
    · refine ⟨s, d + 1, hs, hd1, hk, ?_, fun d' hd' => ?_⟩
      · have := place_rise (f := f) (N := 256) (d := d) hs hd1 (by omega)
        omega
      · by_cases hdd : d' = d
        · subst hdd; omega
        · have := place_rise (f := f) (N := 256) (s := s) (d := d') (e := d) hs hd (by omega)
          omega
  · rintro ⟨t, e, ht, he', hk, hle, hlt⟩
    by_cases hts : t = s
    · subst hts
      right
      have : e = d + 1 := by
        have h1 : d < e := by
          rcases Nat.lt_trichotomy d e with h1 | h1 | h1
          · exact h1
          · subst h1; omega
          · have := place_rise (f := f) (N := 256) (d := e) hs hd h1; omega
        rcases Nat.lt_or_ge (d + 1) e with h2 | h2
        · have h3 := hlt (d + 1) h2
          have := place_rise (f := f) (N := 256) (d := d) hs (show d + 1 < f t by omega) (by omega)
          omega
        · omega
      subst this
      exact ⟨he', hk⟩
    · left
      refine ⟨⟨t, e, ht, he', hk, by omega, fun d' hd' => ?_⟩, fun hh => ?_⟩
      · have h1 := hlt d' hd'
        rcases Nat.lt_or_ge (placeF f 256 t (f t + d')) p with h2 | h2
        · exact h2
        · have : placeF f 256 t (f t + d') = p := by omega
          have := (place_inj (f := f) (N := 256) ht hs (show d' < f t by omega) hd (by rw [this, he])).1
          exact absurd this hts
      · rw [hh] at hk
        exact hts (keyK_inj (hk.symm.trans hx)).1
theorem WaitF.last {f : Nat → Nat} {p : Nat} {l l' : List Kr} {x : Kr} {s d : Nat} (h : WaitF f p l) (hpp : l.Perm (x :: l')) (hs : s < 256) (hd : d < f s) (hx : x.1 = keyK f s d) (he : placeF f 256 s (f s + d) = p)
    (hd1 : ¬ d + 1 < f s) : WaitF f (p + 1) l' :=
  h.step hpp hs hd hx he (List.nodup_cons.1 (hpp.nodup_iff.1 h.1)).2 fun k => ⟨.inl, fun hh => hh.elim id fun hk => absurd hk.1 hd1⟩
theorem WaitF.more {f : Nat → Nat} {p : Nat} {l l' m : List Kr} {x y : Kr} {s d : Nat} (h : WaitF f p l) (hpp : l.Perm (x :: l')) (hs : s < 256) (hd : d < f s) (hx : x.1 = keyK f s d) (he : placeF f 256 s (f s + d) = p)
    (hd1 : d + 1 < f s) (hy : y.1 = keyK f s (d + 1)) (hm : m.Perm (y :: l')) : WaitF f (p + 1) m := by
  have hnd := List.nodup_cons.1 (hpp.nodup_iff.1 h.1)
  refine h.step hpp hs hd hx he (hm.nodup_iff.2 (List.nodup_cons.2 ⟨fun hyl => ?_, hnd.2⟩)) fun k => ?_
  · obtain ⟨t, e, ht, he', hk, hle, hlt⟩ := (h.2 y).1 (hpp.symm.subset (List.mem_cons_of_mem _ hyl))
    rw [hy] at hk
    obtain ⟨rfl, rfl⟩ := keyK_inj hk
    have := hlt d (by omega)
    omega
  · rw [hm.mem_iff, List.mem_cons]
    constructor
    · rintro (rfl | h1)
      · exact .inr ⟨hd1, hy⟩
      · exact .inl h1
    · rintro (h1 | ⟨_, h1⟩)
      · exact .inr h1
      · exact .inl (Subtype.ext (by rw [h1, hy]))

/-- the first keys of the symbols below n -/
def FirstK (f : Nat → Nat) (n : Nat) (l : List Kr) : Prop := l.Nodup ∧ l.length ≤ n ∧ ∀ k : Kr, k ∈ l ↔ ∃ s, s < n ∧ 0 < f s ∧ k.1 = keyK f s 0
theorem FirstK.zero (f : Nat → Nat) : FirstK f 0 [] := ⟨by simp, by simp, fun k => by simp⟩
theorem FirstK.skip {f : Nat → Nat} {n : Nat} {l : List Kr} (h : FirstK f n l) (h0 : f n = 0) : FirstK f (n + 1) l := by
  refine ⟨h.1, by have := h.2.1; omega, fun k => ?_⟩
  rw [h.2.2]
  constructor
  · rintro ⟨s, hs, h1, h2⟩; exact ⟨s, by omega, h1, h2⟩
  · rintro ⟨s, hs, h1, h2⟩
    refine ⟨s, ?_, h1, h2⟩
    by_cases e : s = n
    · subst e; omega
    · omega
theorem FirstK.more {f : Nat → Nat} {n : Nat} {l m : List Kr} {y : Kr} (h : FirstK f n l) (h0 : 0 < f n) (hy : y.1 = keyK f n 0) (hm : m.Perm (y :: l)) : FirstK f (n + 1) m := by
  refine ⟨hm.nodup_iff.2 (List.nodup_cons.2 ⟨fun hyl => ?_, h.1⟩), ?_, fun k => ?_⟩
  · obtain ⟨s, hs, h1, h2⟩ := (h.2.2 y).1 hyl
    rw [hy] at h2
    have := (keyK_inj h2).1
    omega
  · rw [hm.length_eq, List.length_cons]; have := h.2.1; omega
  · rw [hm.mem_iff, List.mem_cons, h.2.2]
    constructor
    · rintro (rfl | ⟨s, hs, h1, h2⟩)
      · exact ⟨n, by omega, h0, hy⟩
      · exact ⟨s, by omega, h1, h2⟩
    · rintro ⟨s, hs, h1, h2⟩
      by_cases e : s = n
      · subst e; exact .inl (Subtype.ext (by rw [h2, hy]))
      · exact .inr ⟨s, by omega, h1, h2⟩
theorem FirstK.wait {f : Nat → Nat} {l : List Kr} (h : FirstK f 256 l) : WaitF f 0 l := by
  refine ⟨h.1, fun k => ?_⟩
  rw [h.2.2]
  constructor
  · rintro ⟨s, hs, h1, h2⟩; exact ⟨s, 0, hs, h1, h2, by omega, fun d' hd' => by omega⟩
  · rintro ⟨s, d, hs, hd, h2, _, h3⟩
    by_cases e : d = 0
    · subst e; exact ⟨s, hs, hd, h2⟩
    · exact absurd (h3 0 (by omega)) (by omega)

/-- the first p symbols -/
def OutF (f : Nat → Nat) (p : Nat) (out : List Nat) : Prop := out.length = p ∧ ∀ s d, s < 256 → d < f s → placeF f 256 s (f s + d) < p → out.getD (placeF f 256 s (f s + d)) 0 = s
theorem OutF.zero (f : Nat → Nat) : OutF f 0 [] := ⟨rfl, fun s d _ _ h => by omega⟩
theorem OutF.step {f : Nat → Nat} {p s d : Nat} {out : List Nat} (h : OutF f p out) (hs : s < 256) (hd : d < f s) (he : placeF f 256 s (f s + d) = p) : OutF f (p + 1) (out ++ [s]) := by
  refine ⟨by simp [h.1], fun t e ht he' hlt => ?_⟩
  rw [List.getD_eq_getElem?_getD]
  by_cases hp : placeF f 256 t (f t + e) = p
  · rw [hp, List.getElem?_append_right (by rw [h.1]; exact Nat.le_refl _), h.1, Nat.sub_self]
    exact (place_inj (f := f) (N := 256) hs ht hd he' (by rw [he, hp])).1
  · rw [List.getElem?_append_left (by rw [h.1]; omega), ← List.getD_eq_getElem?_getD]
    exact h.2 t e ht he' (by omega)
theorem OutF.all {f : Nat → Nat} {out : List Nat} (h : OutF f (sumTo f 256) out) : IsSpread f 256 out := ⟨h.1, fun s d hs hd => h.2 s d hs hd (place_room hs hd)⟩

/-- how many keys of a symbol stand ahead of another one's key, by its fraction -/
def aheadN (f : Nat → Nat) (t s i : Nat) : Int := if t < s then loK ⟨(i : Int), ((f s : Nat) : Int), (s : Int)⟩ (f t) + 1 - f t else hiK ⟨(i : Int), ((f s : Nat) : Int), (s : Int)⟩ (f t) - f t
theorem aheadN_eq {f : Nat → Nat} {t s i : Nat} (h1 : f s ≤ i) (h2 : i < 2 * f s) (_h0 : 0 < f t) : aheadN f t s i = ((lessF f t s i : Nat) : Int) := by
  have hq : 0 < f s := by omega
  obtain ⟨s1, s2, s3, s4⟩ := scaled_spec ⟨(i : Int), ((f s : Nat) : Int), (s : Int)⟩ (f t) (by simp only []; omega)
  simp only [] at s1 s2 s3 s4
  have m1 : (f t : Int) * (f s : Int) ≤ (f t : Int) * (i : Int) := Int.mul_le_mul_of_nonneg_left (by omega) (by omega)
  have m2 : (f t : Int) * (i : Int) ≤ (f t : Int) * (2 * (f s : Int) - 1) := Int.mul_le_mul_of_nonneg_left (by omega) (by omega)
  have m2' : (f t : Int) * (2 * (f s : Int) - 1) = 2 * ((f t : Int) * (f s : Int)) - (f t : Int) := by rw [Int.mul_sub, Int.mul_one, ← Int.mul_assoc, Int.mul_comm (f t : Int) 2, Int.mul_assoc]
  have hqI : (0 : Int) < (f s : Int) := by omega
  unfold aheadN lessF
  by_cases hts : t < s
  · rw [if_pos hts]
    obtain ⟨x, hx⟩ : ∃ x, loK ⟨(i : Int), ((f s : Nat) : Int), (s : Int)⟩ (f t) = x := ⟨_, rfl⟩
    rw [hx] at s1 s2 ⊢
    have b1 : (f t : Int) ≤ x := by
      have : (f t : Int) * (f s : Int) < (x + 1) * (f s : Int) := by rw [Int.add_mul, Int.one_mul]; omega
      have := Int.lt_of_mul_lt_mul_right this (by omega)
      omega
    have b2 : x < 2 * (f t : Int) := by
      have : x * (f s : Int) < 2 * (f t : Int) * (f s : Int) := by rw [Int.mul_assoc]; omega
      exact Int.lt_of_mul_lt_mul_right this (by omega)
    obtain ⟨c, hc⟩ : ∃ c : Nat, x + 1 - (f t : Int) = (c : Int) := ⟨(x + 1 - (f t : Int)).toNat, by omega⟩
    rw [hc]
    congr 1
    symm
    refine countTo_first (by omega) fun d hd => ?_
    rw [decide_eq_true_eq]
    unfold kless
    have k1 : ((f t + d) * f s < i * f t ∨ (f t + d) * f s = i * f t ∧ t < s) ↔ (((f t + d : Nat) : Int)) * (f s : Int) ≤ (f t : Int) * (i : Int) := by
      rw [Int.mul_comm (f t : Int) (i : Int), ← Int.natCast_mul, ← Int.natCast_mul]
      omega
    rw [k1]
    constructor
    · intro hle
      have : ((f t + d : Nat) : Int) * (f s : Int) < (x + 1) * (f s : Int) := by rw [Int.add_mul, Int.one_mul]; omega
      have := Int.lt_of_mul_lt_mul_right this (by omega)
      omega
    · intro hlt
      have : ((f t + d : Nat) : Int) * (f s : Int) ≤ x * (f s : Int) := Int.mul_le_mul_of_nonneg_right (by omega) (by omega)
      omega
  · rw [if_neg hts]
    obtain ⟨x, hx⟩ : ∃ x, hiK ⟨(i : Int), ((f s : Nat) : Int), (s : Int)⟩ (f t) = x := ⟨_, rfl⟩
    rw [hx] at s3 s4 ⊢
    have b1 : (f t : Int) ≤ x := by
      have : (f t : Int) * (f s : Int) < (x + 1) * (f s : Int) := by rw [Int.add_mul, Int.one_mul]; omega
      have := Int.lt_of_mul_lt_mul_right this (by omega)
      omega
    have b2 : x ≤ 2 * (f t : Int) := by
      have : x * (f s : Int) < (2 * (f t : Int) + 1) * (f s : Int) := by rw [Int.add_mul, Int.one_mul, Int.mul_assoc]; omega
      have := Int.lt_of_mul_lt_mul_right this (by omega)
      omega
    obtain ⟨c, hc⟩ : ∃ c : Nat, x - (f t : Int) = (c : Int) := ⟨(x - (f t : Int)).toNat, by omega⟩
    rw [hc]
    congr 1
    symm
    refine countTo_first (by omega) fun d hd => ?_
    rw [decide_eq_true_eq]
    unfold kless
    have k1 : ((f t + d) * f s < i * f t ∨ (f t + d) * f s = i * f t ∧ t < s) ↔ (((f t + d : Nat) : Int)) * (f s : Int) < (f t : Int) * (i : Int) := by
      rw [Int.mul_comm (f t : Int) (i : Int), ← Int.natCast_mul, ← Int.natCast_mul]
      omega
    rw [k1]
    constructor
    · intro hle
      have : ((f t + d : Nat) : Int) * (f s : Int) < x * (f s : Int) := by omega
      have := Int.lt_of_mul_lt_mul_right this (by omega)
      omega
    · intro hlt
      have : ((f t + d + 1 : Nat) : Int) * (f s : Int) ≤ x * (f s : Int) := Int.mul_le_mul_of_nonneg_right (by omega) (by omega)
      have e : ((f t + d + 1 : Nat) : Int) * (f s : Int) = ((f t + d : Nat) : Int) * (f s : Int) + (f s : Int) := by rw [Int.natCast_add, Int.add_mul]; simp
      omega

end Go.Proofs.Ytkdfifkmgpogfaa

/- What hist's Right, Many, Total, Of and Add tell. THIS ALONE SPEAKS OF THE PROGRAM'S OWN TEXT. -/
namespace Go.Proofs.Ytkdfifkmgpogfaa
open Go.RowKit

set_option maxHeartbeats 1000000 in
set_option maxRecDepth 100000 in
theorem hright_any (v : Value) (cs : List Int) (w : World) (h : RdI w v cs) (hb : ∀ z ∈ cs, -9223372036854775808 ≤ z ∧ z ≤ 9223372036854775807) (hl : cs.length < 100000000000) :
    Calls Try.prog 50 #[v] w fun e w' => e = .returned (.bool (decide (isRight cs))) ∧ ∃ m, w' = w.drewN m := by
  obtain ⟨ao, cap, rfl⟩ := h.form
  have H := Lib.hid h; have HB := Lib.hid hb
  clear h hb
  by_cases hlen : cs.length = 256
  · have hq : ((cs.length : Int) != 256) = false := by rw [hlen]; rfl
    have HLEN := Lib.hid hlen
    have hle256 : cs.length ≤ 256 := by omega
    clear hlen
    go_enter Try.func50, Try.ntmps50
    go_wp2
    go_loopw [3, 11] (fun o3 o11 wr => ∃ k : Nat, k ≤ cs.length ∧ o11 = .int .i64 (k : Int) ∧ o3 = .int .i64 (1073741824 - tot (cs.take k)) ∧ upTo cs k ∧ tot (cs.take k) ≤ 1073741824 ∧ wr = w) (fun _ o11 _ => cs.length - (intOf o11).toNat)
    case atStart => exact ⟨0, Nat.zero_le _, rfl, by simp [tot], upTo_zero _, by simp [tot], rfl⟩
    case round =>
      obtain ⟨k, hk, rfl, rfl, hup, hle, rfl⟩ := hrel
      have h0 := upTo_take hup
      have HUP := Lib.hid hup
      clear hup
      by_cases hlt : k < cs.length
      · obtain ⟨g, off, rfl, hc⟩ := H.out.at k hlt
        have hsu := tot_take_succ cs k hlt
        have hat : isRight cs → _ := fun h => h.at k hlt
        have hbk := HB.out _ (getD_mem hlt)
        obtain ⟨x, hx⟩ : ∃ x, cs.getD k 0 = x := ⟨_, rfl⟩
        obtain ⟨t, ht⟩ : ∃ t, tot (cs.take k) = t := ⟨_, rfl⟩
        rw [hx] at hc hsu hat hbk
        rw [ht] at hsu hle h0 hat ⊢
        have HXX := Lib.hid hx; have HSU := Lib.hid hsu; have HAT := Lib.hid hat
        clear hx ht hsu hat
        by_cases hneg : x < 0
        · have d1 : decide (x < 0) = true := decide_eq_true hneg
          go_wp2
          go_ret
          have hd : decide (isRight cs) = false := decide_eq_false fun h => by have := HAT.out h; omega
          rw [hd]
          exact ⟨rfl, 0, rfl⟩
        · have d1 : decide (x < 0) = false := decide_eq_false hneg
          by_cases hbig : 1073741824 - t < x
          · have d2 : decide (1073741824 - t < x) = true := decide_eq_true hbig
            go_wp2
            go_ret
            have hd : decide (isRight cs) = false := decide_eq_false fun h => by have := HAT.out h; omega
            rw [hd]
            exact ⟨rfl, 0, rfl⟩
          · have d2 : decide (1073741824 - t < x) = false := decide_eq_false hbig
            go_wp2
            go_roundw
            case rel => exact ⟨k + 1, by omega, by go_num, by rw [HSU.out]; go_num, upTo_succ HUP.out (by rw [HXX.out]; omega), by rw [HSU.out]; omega, trivial⟩
            case measure => simp [intOf]; omega
      · obtain rfl : k = cs.length := by omega
        rw [List.take_length] at h0 hle ⊢
        have hd : decide (isRight cs) = true := decide_eq_true ⟨HLEN.out, upTo_all rfl HUP.out, hle⟩
        have HD := Lib.hid hd
        clear hd
        go_wp2
        go_ret
        rw [HD.out]
        exact ⟨rfl, 0, rfl⟩
  · have hq : ((cs.length : Int) != 256) = true := by simp; omega
    go_enter Try.func50, Try.ntmps50
    go_wp2
    go_ret
    have hd : decide (isRight cs) = false := decide_eq_false fun h => hlen h.1
    rw [hd]
    exact ⟨rfl, 0, rfl⟩

set_option maxHeartbeats 1000000 in
theorem htotal_any (v : Value) (cs : List Int) (w : World) (h : RdI w v cs) (hb : ∀ z ∈ cs, -9223372036854775808 ≤ z ∧ z ≤ 9223372036854775807) (hl : cs.length < 100000000000) :
    Calls Try.prog 45 #[v] w fun e w' => e = .returned (.int .i64 (totalI cs)) ∧ ∃ m, w' = w.drewN m := by
  have HR := Lib.hid (hright_any v cs w h hb hl)
  obtain ⟨ao, cap, rfl⟩ := h.form
  have H := Lib.hid h; have HB := Lib.hid hb
  clear h hb
  go_enter Try.func45, Try.ntmps45
  go_wp2_with fail
  refine HR.out.mono ?_
  rintro e w' ⟨rfl, m0, rfl⟩
  clear HR
  by_cases hr : isRight cs
  · rw [decide_eq_true hr]
    have hlen : cs.length ≤ 256 := by rw [hr.1]; exact Nat.le_refl _
    have HRR := Lib.hid hr
    clear hr
    go_wp2
    go_loopw [3, 11] (fun o3 o11 wr => ∃ k : Nat, k ≤ cs.length ∧ o11 = .int .i64 (k : Int) ∧ o3 = .int .i64 (tot (cs.take k)) ∧ wr = w.drewN m0) (fun _ o11 _ => cs.length - (intOf o11).toNat)
    case atStart => exact ⟨0, Nat.zero_le _, rfl, rfl, rfl⟩
    case round =>
      obtain ⟨k, hk, rfl, rfl, rfl⟩ := hrel
      by_cases hlt : k < cs.length
      · obtain ⟨g, off, rfl, hc⟩ := H.out.at k hlt
        have hsu := tot_take_succ cs k hlt
        have hat := HRR.out.at k hlt
        have h0 : 0 ≤ tot (cs.take k) := tot_nonneg _ fun c hc => HRR.out.2.1 c (List.mem_of_mem_take hc)
        obtain ⟨x, hx⟩ : ∃ x, cs.getD k 0 = x := ⟨_, rfl⟩
        obtain ⟨t, ht⟩ : ∃ t, tot (cs.take k) = t := ⟨_, rfl⟩
        rw [hx] at hc hsu hat
        rw [ht] at hsu hat h0 ⊢
        have HSU := Lib.hid hsu
        clear hx ht hsu
        go_wp2
        go_roundw
        case rel => exact ⟨k + 1, by omega, by go_num, by rw [HSU.out], trivial⟩
        case measure => simp [intOf]; omega
      · obtain rfl : k = cs.length := by omega
        rw [List.take_length]
        have hm : totalI cs = tot cs := by unfold totalI; rw [if_pos HRR.out]
        have HM := Lib.hid hm
        clear hm
        go_wp2
        go_ret
        rw [HM.out]
        exact ⟨rfl, m0, rfl⟩
  · rw [decide_eq_false hr]
    have hm : totalI cs = 0 := by unfold totalI; rw [if_neg hr]
    have HM := Lib.hid hm
    clear hm hr
    go_wp2
    go_ret
    rw [HM.out]
    exact ⟨rfl, m0, rfl⟩

theorem zeroCounts : ∃ Z : List Value, Z = iw (List.replicate 256 0) ∧ ∀ W : World, (zeroValue 67).run Try.prog W = .ok (.agg Z.toArray) W := ⟨_, rfl, fun W => by kernel_rfl⟩

theorem cnt_take_succ (xs : List Nat) (k : Nat) (hk : k < xs.length) (hx : xs.getD k 0 < 256) : cnt (xs.take (k + 1)) = (cnt (xs.take k)).set (xs.getD k 0) ((cnt (xs.take k)).getD (xs.getD k 0) 0 + 1) := by
  rw [← cnt_snoc _ _ hx]
  congr 1
  rw [List.take_succ_eq_append_getElem hk, List.getD_eq_getElem?_getD, List.getElem?_eq_getElem hk]; rfl

theorem cnt_bound (xs : List Nat) (u : Nat) (hu : u < 256) : 0 ≤ (cnt xs).getD u 0 ∧ (cnt xs).getD u 0 ≤ xs.length := by
  rw [cnt_getD _ _ hu]
  have h1 := List.count_le_length (l := xs) (a := u)
  omega

end Go.Proofs.Ytkdfifkmgpogfaa

/- What container/heap's up, down, Init, Push, Pop and Fix do with one type's heap (hpA), whatever it holds. -/
namespace Go.Proofs.Ytkdfifkmgpogfaa
open Go.RowKit

section
variable {α : Type} [Inhabited α] {p : Value} {R : World → List α → Prop} {lt : α → α → Bool} {S : Nat → Prop}

end

end Go.Proofs.Ytkdfifkmgpogfaa

/- What container/heap's Init, Push, Pop and Fix do with one type's heap (hpA), whatever it holds. -/
namespace Go.Proofs.Ytkdfifkmgpogfaa
open Go.RowKit

section
variable {α : Type} [Inhabited α] {p : Value} {R : World → List α → Prop} {lt : α → α → Bool} {S : Nat → Prop} {it : α → Value}

end

end Go.Proofs.Ytkdfifkmgpogfaa

/- norm's shares in memory; who is ahead of whom; norm's queue as container/heap asks for it. THIS SPEAKS OF THE PROGRAM'S OWN TEXT. -/
namespace Go.Proofs.Ytkdfifkmgpogfaa
open Go.RowKit

/-- a share -/
structure Sh where
  sym : Int
  cnt : Int
  plc : Int
  lft : Int
  rai : Bool
instance : Inhabited Sh := ⟨⟨0, 0, 0, 0, false⟩⟩
def sv (s : Sh) : Value := .agg #[.int .i64 s.sym, .int .i64 s.cnt, .int .i64 s.plc, .int .i64 s.lft, .bool s.rai]
def svl (s : Sh) : List Value := [.int .i64 s.sym, .int .i64 s.cnt, .int .i64 s.plc, .int .i64 s.lft, .bool s.rai]
def svs (l : List Sh) : List Value := l.flatMap svl
theorem svs_cons (a : Sh) (l : List Sh) : svs (a :: l) = svl a ++ svs l := by simp [svs]
theorem svs_append (a b : List Sh) : svs (a ++ b) = svs a ++ svs b := by simp [svs]
theorem svs_length (l : List Sh) : (svs l).length = l.length * 5 := by
  induction l with
  | nil => rfl
  | cons c r ih => rw [svs_cons, List.length_append, ih]; simp [svl]; omega
theorem svs_get (l : List Sh) (j : Nat) (h : j < l.length) : (svs l)[j * 5]? = some (.int .i64 (l.getD j default).sym) ∧ (svs l)[j * 5 + 1]? = some (.int .i64 (l.getD j default).cnt) ∧ (svs l)[j * 5 + 2]? = some (.int .i64 (l.getD j default).plc) ∧
    (svs l)[j * 5 + 3]? = some (.int .i64 (l.getD j default).lft) ∧ (svs l)[j * 5 + 4]? = some (.bool (l.getD j default).rai) := by
  induction l generalizing j with
  | nil => simp at h
  | cons c r ih =>
    rw [svs_cons]
    cases j with
    | zero => exact ⟨rfl, rfl, rfl, rfl, rfl⟩
    | succ j =>
      have ih := ih j (by simpa using h)
      have hl : (svl c).length = 5 := rfl
      rw [List.getElem?_append_right (by omega), List.getElem?_append_right (by omega), List.getElem?_append_right (by omega), List.getElem?_append_right (by omega), List.getElem?_append_right (by omega), hl,
        show (j + 1) * 5 - 5 = j * 5 by omega, show (j + 1) * 5 + 1 - 5 = j * 5 + 1 by omega, show (j + 1) * 5 + 2 - 5 = j * 5 + 2 by omega, show (j + 1) * 5 + 3 - 5 = j * 5 + 3 by omega, show (j + 1) * 5 + 4 - 5 = j * 5 + 4 by omega]
      exact ih
/-- five cells, one behind the other -/
def set5 (l : List Value) (k : Nat) (s : Sh) : List Value := ((((l.set k (.int .i64 s.sym)).set (k + 1) (.int .i64 s.cnt)).set (k + 2) (.int .i64 s.plc)).set (k + 3) (.int .i64 s.lft)).set (k + 4) (.bool s.rai)
theorem svs_set (l : List Sh) (j : Nat) (c : Sh) (h : j < l.length) : set5 (svs l) (j * 5) c = svs (l.set j c) := by
  unfold set5
  induction l generalizing j with
  | nil => simp at h
  | cons d r ih =>
    cases j with
    | zero => rw [List.set_cons_zero, svs_cons, svs_cons]; rfl
    | succ j =>
      have ih := ih j (by simpa using h)
      have hl : (svl d).length = 5 := rfl
      rw [List.set_cons_succ, svs_cons, svs_cons, ← ih, List.set_append_right _ _ (by omega), List.set_append_right _ _ (by omega), List.set_append_right _ _ (by omega), List.set_append_right _ _ (by omega), List.set_append_right _ _ (by omega), hl,
        show (j + 1) * 5 - 5 = j * 5 by omega, show (j + 1) * 5 + 1 - 5 = j * 5 + 1 by omega, show (j + 1) * 5 + 2 - 5 = j * 5 + 2 by omega, show (j + 1) * 5 + 3 - 5 = j * 5 + 3 by omega, show (j + 1) * 5 + 4 - 5 = j * 5 + 4 by omega]
theorem svs_one (xs : List Sh) : ∀ u ∈ svs xs, u.oneCell' = true := by
  intro u hu
  simp only [svs, List.mem_flatMap, svl] at hu
  obtain ⟨x, _, hx⟩ := hu
  simp at hx
  rcases hx with rfl | rfl | rfl | rfl | rfl <;> rfl

/-- of whom more is left, or whose value is less -/
def moreB (a b : Sh) : Bool := if a.lft = b.lft then decide (a.sym < b.sym) else decide (b.lft < a.lft)
/-- who has more, or whose count is less, or whose value is greater -/
def greatB (a b : Sh) : Bool := if a.plc = b.plc then (if a.cnt = b.cnt then decide (b.sym < a.sym) else decide (a.cnt < b.cnt)) else decide (b.plc < a.plc)
theorem moreB_ord : TotalOrd (noLess moreB) := by
  constructor
  · intro a b
    unfold noLess moreB
    by_cases h1 : a.lft = b.lft
    · rw [if_pos h1.symm, if_pos h1, decide_eq_false_iff_not, decide_eq_false_iff_not]; omega
    · rw [if_neg (Ne.symm h1), if_neg h1, decide_eq_false_iff_not, decide_eq_false_iff_not]; omega
  · intro a b c h1 h2
    unfold noLess moreB at *
    split at h1 <;> split at h2 <;> split <;> rw [decide_eq_false_iff_not] at * <;> omega
theorem greatB_ord : TotalOrd (noLess greatB) := by
  constructor
  · intro a b
    unfold noLess greatB
    by_cases h1 : a.plc = b.plc
    · rw [if_pos h1.symm, if_pos h1]
      by_cases h2 : a.cnt = b.cnt
      · rw [if_pos h2.symm, if_pos h2, decide_eq_false_iff_not, decide_eq_false_iff_not]; omega
      · rw [if_neg (Ne.symm h2), if_neg h2, decide_eq_false_iff_not, decide_eq_false_iff_not]; omega
    · rw [if_neg (Ne.symm h1), if_neg h1, decide_eq_false_iff_not, decide_eq_false_iff_not]; omega
  · intro a b c h1 h2
    unfold noLess greatB at *
    split at h1 <;> split at h2 <;> split <;> (try split at h1) <;> (try split at h2) <;> (try split) <;> rw [decide_eq_false_iff_not] at * <;> omega

/-- the queue at block b, whose shares v stand in memory from block B on: the block X is neither of them -/
def Far (b B X : Nat) (v : Value) (w : World) : Prop := B ≤ b ∧ b ≠ X ∧ v.ownBlock ≠ some X ∧ X < w.heap.size
/-- the blocks that it may turn -/
def Sq (B X k : Nat) : Prop := B ≤ k ∧ k ≠ X

end Go.Proofs.Ytkdfifkmgpogfaa

/- Plain: shares of counts, and what a heap of them gives out. -/
namespace Go.Proofs.Ytkdfifkmgpogfaa
open Go

/-- the share of the value i, whose count is x -/
def mkSh (size n : Int) (i : Nat) (x : Int) : Sh := if x * size / n = 0 then ⟨(i : Int), x, 1, x * size % n, true⟩ else ⟨(i : Int), x, x * size / n, x * size % n, false⟩
/-- the shares of the values below k -/
def shTo (c : List Int) (size n : Int) : Nat → List Sh
  | 0 => []
  | k + 1 => if c.getD k 0 = 0 then shTo c size n k else shTo c size n k ++ [mkSh size n k (c.getD k 0)]
theorem shTo_skip {c : List Int} {size n : Int} {k : Nat} (h : c.getD k 0 = 0) : shTo c size n (k + 1) = shTo c size n k := by simp only [shTo, if_pos h]
theorem shTo_more {c : List Int} {size n : Int} {k : Nat} (h : ¬ c.getD k 0 = 0) : shTo c size n (k + 1) = shTo c size n k ++ [mkSh size n k (c.getD k 0)] := by simp only [shTo, if_neg h]
theorem mkSh_sym (size n : Int) (i : Nat) (x : Int) : (mkSh size n i x).sym = (i : Int) := by unfold mkSh; split <;> rfl
theorem mkSh_cnt (size n : Int) (i : Nat) (x : Int) : (mkSh size n i x).cnt = x := by unfold mkSh; split <;> rfl
theorem mkSh_lft (size n : Int) (i : Nat) (x : Int) : (mkSh size n i x).lft = x * size % n := by unfold mkSh; split <;> rfl
theorem mkSh_rai (size n : Int) (i : Nat) (x : Int) : (mkSh size n i x).rai = decide (x * size / n = 0) := by
  unfold mkSh; split
  · next h => simp [h]
  · next h => simp [h]
theorem mkSh_plc (size n : Int) (i : Nat) (x : Int) : (mkSh size n i x).plc = if x * size / n = 0 then 1 else x * size / n := by unfold mkSh; split <;> rfl

theorem shTo_length (c : List Int) (size n : Int) (k : Nat) : (shTo c size n k).length ≤ k := by
  induction k with
  | zero => simp [shTo]
  | succ k ih =>
    by_cases h : c.getD k 0 = 0
    · rw [shTo_skip h]; omega
    · rw [shTo_more h]; simp; omega
theorem mem_shTo (c : List Int) (size n : Int) (k : Nat) (y : Sh) : y ∈ shTo c size n k ↔ ∃ i, i < k ∧ c.getD i 0 ≠ 0 ∧ y = mkSh size n i (c.getD i 0) := by
  induction k with
  | zero => simp [shTo]
  | succ k ih =>
    by_cases h : c.getD k 0 = 0
    · rw [shTo_skip h, ih]
      constructor
      · rintro ⟨i, h1, h2, h3⟩; exact ⟨i, by omega, h2, h3⟩
      · rintro ⟨i, h1, h2, h3⟩
        by_cases hik : i = k
        · subst hik; exact absurd h h2
        · exact ⟨i, by omega, h2, h3⟩
    · rw [shTo_more h, List.mem_append, ih, List.mem_singleton]
      constructor
      · rintro (⟨i, h1, h2, h3⟩ | rfl)
        · exact ⟨i, by omega, h2, h3⟩
        · exact ⟨k, by omega, h, rfl⟩
      · rintro ⟨i, h1, h2, h3⟩
        by_cases hik : i = k
        · subst hik; exact .inr h3
        · exact .inl ⟨i, by omega, h2, h3⟩
theorem shTo_nodup (c : List Int) (size n : Int) (k : Nat) : (shTo c size n k).Nodup := by
  induction k with
  | zero => simp [shTo]
  | succ k ih =>
    by_cases h : c.getD k 0 = 0
    · rw [shTo_skip h]; exact ih
    · rw [shTo_more h, List.nodup_append]
      refine ⟨ih, by simp, ?_⟩
      intro a ha b hb he
      rw [List.mem_singleton] at hb
      obtain ⟨i, h1, h2, h3⟩ := (mem_shTo c size n k a).1 ha
      have := congrArg Sh.sym (h3.symm.trans (he.trans hb))
      rw [mkSh_sym, mkSh_sym] at this
      omega

/-- the places of shares, laid into counts -/
def layL (q : List Int) : List Sh → List Int
  | [] => q
  | s :: r => layL (q.set s.sym.toNat s.plc) r
theorem layL_append (q : List Int) (a b : List Sh) : layL q (a ++ b) = layL (layL q a) b := by
  induction a generalizing q with
  | nil => rfl
  | cons x r ih => exact ih _
theorem lay_to (c : List Int) (size n : Int) (hl : c.length = 256) (h0 : ∀ x ∈ c, 0 ≤ x) (Z : List Int) (hZ : Z.length = 256) (hz : ∀ j, Z.getD j 0 = 0) (k : Nat) (hk : k ≤ 256) :
    (layL Z (shTo c size n k)).length = 256 ∧ ∀ j, j < 256 → (layL Z (shTo c size n k)).getD j 0 = if j < k then (qBase c size n).getD j 0 else 0 := by
  induction k with
  | zero => exact ⟨hZ, fun j _ => by rw [if_neg (by omega)]; exact hz j⟩
  | succ k ih =>
    obtain ⟨i1, i2⟩ := ih (by omega)
    have hbase := base_at (c := c) (size := size) (n := n) k (by omega)
    have hx := h0 _ (getD_mem (cs := c) (k := k) (by omega))
    by_cases h : c.getD k 0 = 0
    · rw [shTo_skip h]
      refine ⟨i1, fun j hj => ?_⟩
      rw [i2 j hj]
      by_cases hjk : j = k
      · subst hjk
        rw [if_neg (by omega), if_pos (by omega), hbase, h]
        simp
        try rfl
      · by_cases h1 : j < k
        · rw [if_pos h1, if_pos (by omega)]
        · rw [if_neg h1, if_neg (by omega)]
    · rw [shTo_more h, layL_append]
      simp only [layL, mkSh_sym, mkSh_plc, Int.toNat_natCast]
      refine ⟨by rw [List.length_set]; exact i1, fun j hj => ?_⟩
      rw [iset_getD _ _ _ _ (by omega)]
      by_cases hjk : k = j
      · subst hjk
        rw [if_pos rfl, if_pos (show k < k + 1 by omega), hbase]
        by_cases hz0 : c.getD k 0 * size / n = 0
        · rw [if_pos hz0, if_pos hz0]; omega
        · rw [if_neg hz0, if_neg hz0]
      · rw [if_neg hjk, i2 j hj]
        by_cases h1 : j < k
        · rw [if_pos h1, if_pos (by omega)]
        · rw [if_neg h1, if_neg (by omega)]
theorem lay_all (c : List Int) (size n : Int) (hl : c.length = 256) (h0 : ∀ x ∈ c, 0 ≤ x) (Z : List Int) (hZ : Z.length = 256) (hz : ∀ j, Z.getD j 0 = 0) : layL Z (shTo c size n 256) = qBase c size n := by
  obtain ⟨h1, h2⟩ := lay_to c size n hl h0 Z hZ hz 256 (Nat.le_refl _)
  apply ext_getD (by rw [h1]; simp [qBase, hl])
  intro j hj
  rw [h1] at hj
  rw [h2 j hj, if_pos hj]

/-- who wait: those that have had none -/
structure Waits (c : List Int) (size n : Int) (had : List Bool) (l : List Sh) : Prop where
  nd : l.Nodup
  mem : ∀ y, y ∈ l ↔ ∃ i, i < 256 ∧ c.getD i 0 ≠ 0 ∧ had.getD i false = false ∧ y = mkSh size n i (c.getD i 0)
theorem Waits.perm {c : List Int} {size n : Int} {had : List Bool} {l l' : List Sh} (h : Waits c size n had l) (hp : l'.Perm l) : Waits c size n had l' :=
  ⟨hp.nodup_iff.2 h.nd, fun y => by rw [hp.mem_iff]; exact h.mem y⟩
/-- what comes off is who is neediest -/
theorem Waits.next {c : List Int} {size n : Int} {had : List Bool} {l l' : List Sh} {x : Sh} (hlc : c.length = 256) (hlh : had.length = 256) (h : Waits c size n had l) (hp : l.Perm (x :: l')) (hle : ∀ y ∈ l', noLess moreB x y)
    {s : Nat} (hs : s < 256) (hc : c.getD s 0 ≠ 0) (hd : had.getD s false = false) (hn : needyTo (rest0 c size n) had 256 = some s) : x.sym = (s : Int) ∧ Waits c size n (had.set s true) l' := by
  obtain ⟨_, _, hspec⟩ := needy_some _ _ _ _ hn
  have hxm : x ∈ l := hp.symm.subset (List.mem_cons_self ..)
  obtain ⟨i, hi1, hi2, hi3, hi4⟩ := (h.mem x).1 hxm
  have hsm : mkSh size n s (c.getD s 0) ∈ x :: l' := hp.subset ((h.mem _).2 ⟨s, hs, hc, hd, rfl⟩)
  have hnl : moreB (mkSh size n s (c.getD s 0)) x = false := by
    rcases List.mem_cons.1 hsm with he | he
    · rw [he]; unfold moreB; simp
    · exact hle _ he
  have hsp := hspec i hi1 hi3
  rw [rest_at i (by omega), rest_at s (by omega)] at hsp
  have his : i = s := by
    unfold moreB at hnl
    rw [hi4, mkSh_lft, mkSh_lft, mkSh_sym, mkSh_sym] at hnl
    split at hnl
    · rw [decide_eq_false_iff_not] at hnl; omega
    · rw [decide_eq_false_iff_not] at hnl; omega
  subst his
  refine ⟨by rw [hi4, mkSh_sym], ?_, ?_⟩
  · exact (List.nodup_cons.1 (hp.nodup_iff.1 h.nd)).2
  · intro y
    have hnx : x ∉ l' := (List.nodup_cons.1 (hp.nodup_iff.1 h.nd)).1
    constructor
    · intro hy
      obtain ⟨j, hj1, hj2, hj3, hj4⟩ := (h.mem y).1 (hp.symm.subset (List.mem_cons_of_mem _ hy))
      refine ⟨j, hj1, hj2, ?_, hj4⟩
      rw [bset_getD _ _ _ _ (by omega), if_neg]
      · exact hj3
      · intro he
        subst he
        exact hnx (by rw [hi4, ← hj4]; exact hy)
    · rintro ⟨j, hj1, hj2, hj3, hj4⟩
      rw [bset_getD _ _ _ _ (by omega)] at hj3
      by_cases he : i = j
      · subst he; rw [if_pos rfl] at hj3; cases hj3
      · rw [if_neg he] at hj3
        have hyl := hp.subset ((h.mem y).2 ⟨j, hj1, hj2, hj3, hj4⟩)
        rcases List.mem_cons.1 hyl with h1 | h1
        · exfalso
          have := congrArg Sh.sym (hj4.symm.trans (h1.trans hi4))
          rw [mkSh_sym, mkSh_sym] at this
          omega
        · exact h1

/-- a share that has so many places now -/
def upSh (size n : Int) (q c : List Int) (i : Nat) : Sh := { mkSh size n i (c.getD i 0) with plc := q.getD i 0 }
/-- all shares, with their places -/
structure Gives (c : List Int) (size n : Int) (q : List Int) (l : List Sh) : Prop where
  nd : l.Nodup
  mem : ∀ y, y ∈ l ↔ ∃ i, i < 256 ∧ c.getD i 0 ≠ 0 ∧ y = upSh size n q c i
theorem upSh_sym (size n : Int) (q c : List Int) (i : Nat) : (upSh size n q c i).sym = (i : Int) := by unfold upSh; simp only []; exact mkSh_sym ..
theorem upSh_cnt (size n : Int) (q c : List Int) (i : Nat) : (upSh size n q c i).cnt = c.getD i 0 := by unfold upSh; simp only []; exact mkSh_cnt ..
theorem upSh_plc (size n : Int) (q c : List Int) (i : Nat) : (upSh size n q c i).plc = q.getD i 0 := rfl
theorem upSh_inj {size n : Int} {q q' c c' : List Int} {i j : Nat} (h : upSh size n q c i = upSh size n q' c' j) : i = j := by
  have := congrArg Sh.sym h
  rw [upSh_sym, upSh_sym] at this
  omega
theorem gives_base {c : List Int} {size n : Int} (hl : c.length = 256) (h0 : ∀ x ∈ c, 0 ≤ x) (i : Nat) (hi : i < 256) (hc : c.getD i 0 ≠ 0) : upSh size n (qBase c size n) c i = mkSh size n i (c.getD i 0) := by
  have hx := h0 _ (getD_mem (cs := c) (k := i) (by omega))
  unfold upSh
  rw [base_at i (by omega)]
  unfold mkSh
  have hm : min (c.getD i 0) 1 = 1 := by omega
  by_cases hz0 : c.getD i 0 * size / n = 0
  · rw [if_pos hz0, if_pos hz0, hm]
  · rw [if_neg hz0, if_neg hz0]
/-- what comes off is who is richest; what is laid back has one less -/
theorem Gives.next {c q : List Int} {size n : Int} {l l' : List Sh} {x : Sh} (hlq : q.length = 256) (h : Gives c size n q l) (hp : l.Perm (x :: l')) (hle : ∀ y ∈ l', noLess greatB x y)
    (hc : c.getD (richTo q c 255) 0 ≠ 0) : x = upSh size n q c (richTo q c 255) ∧ Gives c size n (takeStep c q) ({ x with plc := x.plc - 1 } :: l') := by
  obtain ⟨hR, hspec⟩ := rich_spec q c 255
  obtain ⟨R, hRR⟩ : ∃ R, richTo q c 255 = R := ⟨_, rfl⟩
  have hts : takeStep c q = q.set R (q.getD R 0 - 1) := by unfold takeStep; rw [hRR]
  rw [hRR] at hR hspec hc ⊢
  have hxm : x ∈ l := hp.symm.subset (List.mem_cons_self ..)
  obtain ⟨i, hi1, hi2, hi4⟩ := (h.mem x).1 hxm
  have hsm : upSh size n q c R ∈ x :: l' := hp.subset ((h.mem _).2 ⟨R, by omega, hc, rfl⟩)
  have hnl : greatB (upSh size n q c R) x = false := by
    rcases List.mem_cons.1 hsm with he | he
    · rw [he]; unfold greatB; simp
    · exact hle _ he
  have hsp := hspec i (by omega)
  have his : i = R := by
    unfold greatB at hnl
    rw [hi4, upSh_plc, upSh_plc, upSh_sym, upSh_sym, upSh_cnt, upSh_cnt] at hnl
    split at hnl
    · split at hnl <;> rw [decide_eq_false_iff_not] at hnl <;> omega
    · rw [decide_eq_false_iff_not] at hnl; omega
  subst his
  have hnx : x ∉ l' := (List.nodup_cons.1 (hp.nodup_iff.1 h.nd)).1
  have hup : ({ x with plc := x.plc - 1 } : Sh) = upSh size n (takeStep c q) c i := by
    rw [hts, hi4]
    unfold upSh
    simp only [Sh.mk.injEq, true_and, and_true]
    rw [iset_getD _ _ _ _ (by omega), if_pos rfl]
  have hoth : ∀ j, i ≠ j → upSh size n (takeStep c q) c j = upSh size n q c j := fun j hj => by
    rw [hts]
    unfold upSh
    rw [iset_getD _ _ _ _ (by omega), if_neg hj]
  refine ⟨hi4, ?_, ?_⟩
  · rw [hup, List.nodup_cons]
    refine ⟨fun hm => ?_, (List.nodup_cons.1 (hp.nodup_iff.1 h.nd)).2⟩
    obtain ⟨j, hj1, hj2, hj4⟩ := (h.mem _).1 (hp.symm.subset (List.mem_cons_of_mem _ hm))
    have hij := upSh_inj hj4
    subst hij
    exact hnx (by rw [hi4, ← hj4]; exact hm)
  · intro y
    rw [hup, List.mem_cons]
    constructor
    · rintro (rfl | hy)
      · exact ⟨i, hi1, hi2, rfl⟩
      · obtain ⟨j, hj1, hj2, hj4⟩ := (h.mem y).1 (hp.symm.subset (List.mem_cons_of_mem _ hy))
        refine ⟨j, hj1, hj2, ?_⟩
        rw [hoth j (fun he => by subst he; exact hnx (by rw [hi4, ← hj4]; exact hy))]
        exact hj4
    · rintro ⟨j, hj1, hj2, hj4⟩
      by_cases he : i = j
      · subst he; exact .inl hj4
      · right
        rw [hoth j he] at hj4
        have hyl := hp.subset ((h.mem y).2 ⟨j, hj1, hj2, hj4⟩)
        rcases List.mem_cons.1 hyl with h1 | h1
        · exfalso
          exact he (upSh_inj (hi4.symm.trans (h1.symm.trans hj4)))
        · exact h1

end Go.Proofs.Ytkdfifkmgpogfaa

/- What the methods of norm's queue do. THIS SPEAKS OF THE PROGRAM'S OWN TEXT. -/
namespace Go.Proofs.Ytkdfifkmgpogfaa
open Go.RowKit

section
variable {b B f X : Nat} {w : World} {l : List Sh}

end

end Go.Proofs.Ytkdfifkmgpogfaa

/- What Swap of norm's queue does. THIS SPEAKS OF THE PROGRAM'S OWN TEXT. -/
namespace Go.Proofs.Ytkdfifkmgpogfaa
open Go.RowKit

section
variable {b B f X : Nat} {w : World} {l : List Sh}

/-- five cells of the block g, one behind the other -/
def W5 (w : World) (g k : Nat) (s : Sh) : World := ((((w.setCell ⟨g, k, none⟩ (.int .i64 s.sym)).setCell ⟨g, k + 1, none⟩ (.int .i64 s.cnt)).setCell ⟨g, k + 2, none⟩ (.int .i64 s.plc)).setCell ⟨g, k + 3, none⟩ (.int .i64 s.lft)).setCell ⟨g, k + 4, none⟩ (.bool s.rai)
theorem W5_chg (w : World) (g k : Nat) (s : Sh) : Chg (fun q => q = g) w (W5 w g k s) :=
  ((((Chg.setCell w ⟨g, k, none⟩ _).trans (Chg.setCell _ ⟨g, k + 1, none⟩ _) fun _ _ h => h).trans (Chg.setCell _ ⟨g, k + 2, none⟩ _) fun _ _ h => h).trans (Chg.setCell _ ⟨g, k + 3, none⟩ _) fun _ _ h => h).trans (Chg.setCell _ ⟨g, k + 4, none⟩ _) fun _ _ h => h
end

end Go.Proofs.Ytkdfifkmgpogfaa

/- What norm's divide and told do. THIS SPEAKS OF THE PROGRAM'S OWN TEXT. -/
namespace Go.Proofs.Ytkdfifkmgpogfaa
open Go.RowKit

theorem layL_length (q : List Int) (l : List Sh) : (layL q l).length = q.length := by
  induction l generalizing q with
  | nil => rfl
  | cons x r ih => rw [layL, ih, List.length_set]
theorem layL_take (q : List Int) (l : List Sh) (k : Nat) (hk : k < l.length) : layL q (l.take (k + 1)) = (layL q (l.take k)).set (l.getD k default).sym.toNat (l.getD k default).plc := by
  rw [List.take_succ_eq_append_getElem hk, layL_append, List.getD_eq_getElem?_getD, List.getElem?_eq_getElem hk]; rfl

end Go.Proofs.Ytkdfifkmgpogfaa

/- norm's queue is a heap; what its add and next do. THIS SPEAKS OF THE PROGRAM'S OWN TEXT. -/
namespace Go.Proofs.Ytkdfifkmgpogfaa
open Go.RowKit

section
variable {b B f X : Nat} {w : World} {l : List Sh}

end

end Go.Proofs.Ytkdfifkmgpogfaa

/- What norm's fill and thin do. THIS SPEAKS OF THE PROGRAM'S OWN TEXT. -/
namespace Go.Proofs.Ytkdfifkmgpogfaa
open Go.RowKit

/-- the first ones that were not raised -/
def calm (l : List Sh) : List Sh := l.filter fun s => !s.rai
theorem calm_take (l : List Sh) (k : Nat) (hk : k < l.length) : calm (l.take (k + 1)) = calm (l.take k) ++ (if (l.getD k default).rai = true then [] else [l.getD k default]) := by
  unfold calm
  rw [List.take_succ_eq_append_getElem hk, List.filter_append, List.getD_eq_getElem?_getD, List.getElem?_eq_getElem hk]
  simp only [Option.getD_some]
  congr 1
  cases h : l[k].rai <;> simp [h]
theorem calm_length (l : List Sh) : (calm l).length ≤ l.length := List.length_filter_le ..
theorem calm_waits (c : List Int) (size n : Int) (hl : c.length = 256) : Waits c size n (had0 c size n) (calm (shTo c size n 256)) := by
  refine ⟨(shTo_nodup c size n 256).filter _, fun y => ?_⟩
  unfold calm
  rw [List.mem_filter, mem_shTo]
  constructor
  · rintro ⟨⟨i, h1, h2, h3⟩, h4⟩
    refine ⟨i, h1, h2, ?_, h3⟩
    rw [had_at i (by omega)]
    rw [h3, mkSh_rai] at h4
    simpa using h4
  · rintro ⟨i, h1, h2, h3, h4⟩
    refine ⟨⟨i, h1, h2, h4⟩, ?_⟩
    rw [had_at i (by omega)] at h3
    rw [h4, mkSh_rai, h3]; rfl
/-- a gift: who is neediest has a count, and comes next -/
theorem gave_needy {c : List Int} {size n : Int} (hl : c.length = 256) (k : Nat) (hk : k < cntN (rest0 c size n) (had0 c size n)) {p : List Int × List Bool} (hp : p = giveN (rest0 c size n) k (qBase c size n) (had0 c size n)) :
    ∃ s, s < 256 ∧ c.getD s 0 ≠ 0 ∧ p.2.getD s false = false ∧ needyTo (rest0 c size n) p.2 256 = some s ∧ p.1.length = 256 ∧ p.2.length = 256 := by
  have g := gave (rest := rest0 c size n) (q := qBase c size n) (had := had0 c size n) (by simp [rest0, hl]) (by simp [qBase, hl]) (by simp [had0, hl]) k (by omega)
  rw [← hp] at g
  obtain ⟨s, h1, h2, h3, g2⟩ := gave_step (by simp [rest0, hl]) g hk
  refine ⟨s, h2, fun h0 => ?_, h3, h1, g.len1, g.len2⟩
  have hso := g2.some s h2 ?_ ?_
  · rw [rest_at s (by omega), h0] at hso; simp at hso
  · cases hh : (had0 c size n).getD s false with
    | false => rfl
    | true => have := g.keep s hh; rw [this] at h3; cases h3
  · simp only; rw [bset_getD _ _ _ _ (by rw [g.len2]; exact h2), if_pos rfl]

end Go.Proofs.Ytkdfifkmgpogfaa
