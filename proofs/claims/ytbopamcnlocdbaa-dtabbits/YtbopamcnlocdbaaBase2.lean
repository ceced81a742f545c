/- Texts that other texts of this claim rest on, one behind the other (DtMath RowCe DtRef DtOf LgLen LgProg DtProgA DtOnce DtProgB DtProgC ApInts ApCells HpMath HpB HpBB FrMath FrRef FrProg). -/
import Derived.Test.YtbopamcnlocdbaaBase1
import Derived.BigQuiet
import Derived.Deep.RegionHeld3
import Derived.Laws.MathBits
import Derived.Handy
import Derived.Deep.CutRange
import Derived.Deep.LoopGhost
import Derived.WalkMore
import Derived.Deep.OwnRows
/- Plain mathematics of chapter 11: cells, and that each state is reached from each symbol in one way. -/
namespace Go.Proofs.Ytbopamcnlocdbaa
open Go

/-- a cell -/
structure Cl where
  Sym : Nat
  Bits : Int
  Base : Int
  deriving DecidableEq
def cl0 : Cl := ⟨0, 0, 0⟩

/-- how many bits the key of i takes -/
def bitsN (R i : Nat) : Nat := R - Nat.log2 i
def cellOf (R s i : Nat) : Cl := ⟨s, ((bitsN R i : Nat) : Int), ((i * 2 ^ bitsN R i : Nat) : Int) - ((2 ^ R : Nat) : Int)⟩

theorem log2_spec {i : Nat} (h : 1 ≤ i) : 2 ^ Nat.log2 i ≤ i ∧ i < 2 ^ (Nat.log2 i + 1) := by
  have := floor_spec (n := (i : Int)) (by omega)
  unfold floorI at this
  rw [Int.toNat_natCast] at this
  omega
theorem log2_unique {i k : Nat} (h1 : 2 ^ k ≤ i) (h2 : i < 2 ^ (k + 1)) : Nat.log2 i = k := by
  have := floor_unique (n := (i : Int)) (k := k) (by omega) (by omega)
  unfold floorI at this
  rw [Int.toNat_natCast] at this
  exact this
theorem log2_mono {i j : Nat} (h : i ≤ j) : Nat.log2 i ≤ Nat.log2 j := by
  have := floor_mono (n := (i : Int)) (m := (j : Int)) (by omega)
  unfold floorI at this
  rw [Int.toNat_natCast, Int.toNat_natCast] at this
  exact this
theorem log2_lt {i R : Nat} (h : 1 ≤ i) (h2 : i < 2 ^ (R + 1)) : Nat.log2 i ≤ R := by
  have := lt_of_pow (Nat.lt_of_le_of_lt (log2_spec h).1 h2)
  omega
/-- where a key's states lie -/
theorem bits_range {R i : Nat} (h : 1 ≤ i) (h2 : i < 2 ^ (R + 1)) : 2 ^ R ≤ i * 2 ^ bitsN R i ∧ (i + 1) * 2 ^ bitsN R i ≤ 2 ^ (R + 1) := by
  have h3 := log2_lt h h2
  obtain ⟨h4, h5⟩ := log2_spec h
  have e1 : 2 ^ R = 2 ^ Nat.log2 i * 2 ^ bitsN R i := by rw [← Nat.pow_add]; congr 1; unfold bitsN; omega
  have e2 : 2 ^ (R + 1) = 2 ^ (Nat.log2 i + 1) * 2 ^ bitsN R i := by rw [← Nat.pow_add]; congr 1; unfold bitsN; omega
  rw [e1, e2]
  exact ⟨Nat.mul_le_mul_right _ h4, Nat.mul_le_mul_right _ h5⟩

/-- i's numbers hold y -/
def covers (R i y : Nat) : Prop := i * 2 ^ bitsN R i ≤ y ∧ y < (i + 1) * 2 ^ bitsN R i
theorem covers_div {R i y : Nat} (h : covers R i y) : y / 2 ^ bitsN R i = i := by
  have hp := Nat.two_pow_pos (bitsN R i)
  refine Nat.div_eq_of_lt_le h.1 ?_
  exact h.2
theorem half_more {y k m : Nat} (h : k < m) : y / 2 ^ m ≤ y / 2 ^ k / 2 := by
  have : 2 ^ m = 2 ^ (k + 1) * 2 ^ (m - (k + 1)) := by rw [← Nat.pow_add]; congr 1; omega
  rw [this, ← Nat.div_div_eq_div_mul]
  refine Nat.le_trans (Nat.div_le_self _ _) ?_
  rw [Nat.pow_succ, ← Nat.div_div_eq_div_mul]
  exact Nat.le_refl _
theorem covers_one {R q i j y : Nat} (hi : q ≤ i) (hi2 : i < 2 * q) (hj : q ≤ j) (hj2 : j < 2 * q) (h1 : covers R i y) (h2 : covers R j y) : i = j := by
  have e1 := covers_div h1
  have e2 := covers_div h2
  by_cases hk : bitsN R i = bitsN R j
  · rw [hk] at e1; omega
  · by_cases hlt : bitsN R i < bitsN R j
    · have := half_more (y := y) hlt
      rw [e1, e2] at this; omega
    · have := half_more (y := y) (show bitsN R j < bitsN R i by omega)
      rw [e1, e2] at this; omega
theorem shift_in {q y : Nat} (hq : q ≤ y) : ∀ n, y / 2 ^ n < 2 * q → ∃ k, k ≤ n ∧ q ≤ y / 2 ^ k ∧ y / 2 ^ k < 2 * q
  | 0, h => ⟨0, Nat.le_refl _, by simpa using hq, h⟩
  | n + 1, h => by
    by_cases h2 : y / 2 ^ n < 2 * q
    · obtain ⟨k, hk, h3⟩ := shift_in hq n h2
      exact ⟨k, by omega, h3⟩
    · refine ⟨n + 1, Nat.le_refl _, ?_, h⟩
      rw [Nat.pow_succ, ← Nat.div_div_eq_div_mul]
      omega
theorem covers_some {R q x : Nat} (h1 : 1 ≤ q) (h2 : q ≤ 2 ^ R) (hx : x < 2 ^ R) : ∃ i, q ≤ i ∧ i < 2 * q ∧ covers R i (2 ^ R + x) := by
  have hp := Nat.two_pow_pos R
  have hd : (2 ^ R + x) / 2 ^ R < 2 * q := by
    have : (2 ^ R + x) / 2 ^ R < 2 := (Nat.div_lt_iff_lt_mul hp).2 (by omega)
    omega
  obtain ⟨k, hk, h3, h4⟩ := shift_in (show q ≤ 2 ^ R + x by omega) R hd
  refine ⟨_, h3, h4, ?_⟩
  have hpk := Nat.two_pow_pos k
  have e1 : 2 ^ R = 2 ^ (R - k) * 2 ^ k := by rw [← Nat.pow_add]; congr 1; omega
  have e2 : 2 ^ (R + 1) = 2 ^ (R - k + 1) * 2 ^ k := by rw [← Nat.pow_add]; congr 1; omega
  have hlo : 2 ^ (R - k) ≤ (2 ^ R + x) / 2 ^ k := (Nat.le_div_iff_mul_le hpk).2 (by rw [← e1]; omega)
  have hhi : (2 ^ R + x) / 2 ^ k < 2 ^ (R - k + 1) := (Nat.div_lt_iff_lt_mul hpk).2 (by rw [← e2, two_pow_succ]; omega)
  have hb : bitsN R ((2 ^ R + x) / 2 ^ k) = k := by unfold bitsN; rw [log2_unique hlo hhi]; omega
  unfold covers
  rw [hb]
  have hdm := Nat.div_add_mod (2 ^ R + x) (2 ^ k)
  have hmod := Nat.mod_lt (2 ^ R + x) hpk
  rw [Nat.mul_comm] at hdm
  refine ⟨by omega, ?_⟩
  rw [Nat.add_mul, Nat.one_mul]; omega

/-- a cell of the symbol s holds x -/
def inC (c : Cl) (s x : Nat) : Prop := c.Sym = s ∧ c.Base ≤ (x : Int) ∧ (x : Int) < c.Base + ((2 ^ c.Bits.toNat : Nat) : Int)
instance (c : Cl) (s x : Nat) : Decidable (inC c s x) := by unfold inC; infer_instance
theorem inC_cell {R s i t x : Nat} : inC (cellOf R s i) t x ↔ s = t ∧ covers R i (2 ^ R + x) := by
  unfold inC cellOf covers
  simp only [Int.toNat_natCast]
  rw [Nat.add_mul, Nat.one_mul]
  omega

structure IsDtab (f : Nat → Nat) (R : Nat) (l : List Cl) : Prop where
  len : l.length = 2 ^ R
  at' : ∀ s d, s < 256 → d < f s → l.getD (placeF f 256 s (f s + d)) cl0 = cellOf R s (f s + d)

theorem countTo_exact {p : Nat → Bool} {n a : Nat} (ha : a < n) (h : p a = true) (hu : ∀ b, b < n → p b = true → b = a) : countTo p n = 1 := by
  have h1 := countTo_some ha h
  have h2 := countTo_one (p := p) n fun x y hx hy h3 h4 => by rw [hu x hx h3, hu y hy h4]
  omega
theorem countTo_unique {p : Nat → Bool} {n : Nat} (h : countTo p n = 1) {a b : Nat} (ha : a < n) (hb : b < n) (h1 : p a = true) (h2 : p b = true) : a = b := by
  by_cases e : a = b
  · exact e
  · have : countTo (fun x => decide (x = a)) n < countTo p n := countTo_mono_lt n (fun x hx hh => by rw [decide_eq_true_eq] at hh; rw [hh]; exact h1) b hb (decide_eq_false fun hh => e hh.symm) h2
    have h3 := countTo_some (p := fun x => decide (x = a)) ha (decide_eq_true rfl)
    omega

theorem IsDtab.is {f : Nat → Nat} {R : Nat} {l : List Cl} (h : IsDtab f R l) (hs : sumTo f 256 = 2 ^ R) {a : Nat} (ha : a < 2 ^ R) : ∃ s d, s < 256 ∧ d < f s ∧ placeF f 256 s (f s + d) = a ∧ l.getD a cl0 = cellOf R s (f s + d) := by
  obtain ⟨s, d, h1, h2, h3⟩ := place_onto (f := f) (N := 256) (p := a) (by rw [hs]; exact ha)
  refine ⟨s, d, h1, h2, h3, ?_⟩
  rw [← h3]; exact h.at' s d h1 h2
theorem IsDtab.one {f : Nat → Nat} {R : Nat} {l m : List Cl} (hs : sumTo f 256 = 2 ^ R) (h : IsDtab f R l) (g : IsDtab f R m) : l = m := by
  refine List.ext_getElem (by rw [h.len, g.len]) fun p h1 h2 => ?_
  have hp : p < 2 ^ R := by rw [← h.len]; exact h1
  obtain ⟨s, d, hs1, hd, hpl, he⟩ := h.is hs hp
  have e2 := g.at' s d hs1 hd
  rw [hpl] at e2
  rw [List.getD_eq_getElem?_getD, List.getElem?_eq_getElem h1] at he
  rw [List.getD_eq_getElem?_getD, List.getElem?_eq_getElem h2] at e2
  simp only [Option.getD_some] at he e2
  rw [he, e2]
theorem f_le {f : Nat → Nat} {R s : Nat} (hs : sumTo f 256 = 2 ^ R) (h : s < 256) : f s ≤ 2 ^ R := by
  have := sumTo_at f 256 s h; omega
/-- each state is reached from each symbol that is there in one way -/
theorem IsDtab.reach {f : Nat → Nat} {R : Nat} {l : List Cl} (h : IsDtab f R l) (hs : sumTo f 256 = 2 ^ R) {s x : Nat} (h256 : s < 256) (hx : x < 2 ^ R) : countTo (fun b => decide (inC (l.getD b cl0) s x)) (2 ^ R) = if 0 < f s then 1 else 0 := by
  by_cases h0 : 0 < f s
  · rw [if_pos h0]
    obtain ⟨i, hi1, hi2, hcov⟩ := covers_some (R := R) (q := f s) (x := x) h0 (f_le hs h256) hx
    have hroom := place_room (f := f) (N := 256) (s := s) (d := i - f s) h256 (by omega)
    rw [hs] at hroom
    have hat := h.at' s (i - f s) h256 (by omega)
    rw [show f s + (i - f s) = i by omega] at hroom hat
    refine countTo_exact hroom (decide_eq_true (by rw [hat]; exact inC_cell.2 ⟨rfl, hcov⟩)) fun b hb hin => ?_
    obtain ⟨t, d, ht, hd, hpl, he⟩ := h.is hs hb
    rw [decide_eq_true_eq, he, inC_cell] at hin
    obtain ⟨rfl, hc2⟩ := hin
    have := covers_one hi1 hi2 (by omega) (by omega) hcov hc2
    rw [← hpl, this]
  · rw [if_neg h0]
    refine countTo_none _ _ fun b hb => decide_eq_false fun hin => ?_
    obtain ⟨t, d, ht, hd, hpl, he⟩ := h.is hs hb
    rw [he, inC_cell] at hin
    obtain ⟨rfl, _⟩ := hin
    omega

/-- whole cells -/
def WholeL (l : List Cl) : Prop :=
  (∃ R, 1 ≤ R ∧ R ≤ 12 ∧ l.length = 2 ^ R) ∧
  (∀ a, a < l.length → 0 ≤ (l.getD a cl0).Bits ∧ (l.getD a cl0).Bits ≤ 12 ∧ 0 ≤ (l.getD a cl0).Base ∧ (l.getD a cl0).Base ≤ (l.length : Int) - ((2 ^ (l.getD a cl0).Bits.toNat : Nat) : Int)) ∧
  ∀ a x, a < l.length → x < l.length → countTo (fun b => decide (inC (l.getD b cl0) (l.getD a cl0).Sym x)) l.length = 1

theorem cell_bounds {R q s i : Nat} (h1 : 1 ≤ q) (h2 : q ≤ 2 ^ R) (hi : q ≤ i) (hi2 : i < 2 * q) : 0 ≤ (cellOf R s i).Base ∧ (cellOf R s i).Base + ((2 ^ bitsN R i : Nat) : Int) ≤ ((2 ^ R : Nat) : Int) := by
  have := bits_range (R := R) (i := i) (by omega) (by rw [two_pow_succ]; omega)
  rw [Nat.add_mul, Nat.one_mul, two_pow_succ] at this
  unfold cellOf
  simp only []
  omega
theorem IsDtab.whole {f : Nat → Nat} {R : Nat} {l : List Cl} (h : IsDtab f R l) (hs : sumTo f 256 = 2 ^ R) (h1 : 1 ≤ R) (h2 : R ≤ 12) : WholeL l := by
  refine ⟨⟨R, h1, h2, h.len⟩, fun a ha => ?_, fun a x ha hx => ?_⟩
  · rw [h.len] at ha ⊢
    obtain ⟨s, d, hs1, hd, hpl, he⟩ := h.is hs ha
    rw [he]
    have hb := cell_bounds (R := R) (q := f s) (s := s) (i := f s + d) (by omega) (f_le hs hs1) (by omega) (by omega)
    have e : (cellOf R s (f s + d)).Bits = ((bitsN R (f s + d) : Nat) : Int) := rfl
    rw [e, Int.toNat_natCast]
    have : bitsN R (f s + d) ≤ R := by unfold bitsN; omega
    exact ⟨by omega, by omega, hb.1, by omega⟩
  · rw [h.len] at ha hx ⊢
    obtain ⟨s, d, hs1, hd, hpl, he⟩ := h.is hs ha
    rw [he, show (cellOf R s (f s + d)).Sym = s from rfl, h.reach hs hs1 hx, if_pos (by omega)]

theorem getD_set_self {l : List Cl} {a : Nat} (h : a < l.length) (c : Cl) : (l.set a c).getD a cl0 = c := by
  rw [List.getD_eq_getElem?_getD, List.getElem?_set_self h]; rfl
theorem getD_set_other {l : List Cl} {a b : Nat} (h : a ≠ b) (c : Cl) : (l.set a c).getD b cl0 = l.getD b cl0 := by
  rw [List.getD_eq_getElem?_getD, List.getElem?_set_ne h, ← List.getD_eq_getElem?_getD]

theorem whole_moved {l : List Cl} (h : WholeL l) {a : Nat} (ha : a < l.length) {e : Int} (he : e ≠ 0) : ¬ WholeL (l.set a ⟨(l.getD a cl0).Sym, (l.getD a cl0).Bits, (l.getD a cl0).Base + e⟩) := by
  intro h'
  obtain ⟨_, hb, hc⟩ := h
  obtain ⟨_, _, hc'⟩ := h'
  obtain ⟨b0, b1, b2, b3⟩ := hb a ha
  have hp := Nat.two_pow_pos (l.getD a cl0).Bits.toNat
  have key : ∀ x : Nat, x < l.length → inC (l.getD a cl0) (l.getD a cl0).Sym x → ¬ inC ⟨(l.getD a cl0).Sym, (l.getD a cl0).Bits, (l.getD a cl0).Base + e⟩ (l.getD a cl0).Sym x → False := fun x hx hin hout => by
    have h1 := hc a x ha hx
    have h2 := hc' a x (by rw [List.length_set]; exact ha) (by rw [List.length_set]; exact hx)
    rw [getD_set_self ha, List.length_set] at h2
    rw [countTo_none _ _ fun b hb' => ?_] at h2
    · omega
    · by_cases hab : a = b
      · subst hab
        rw [getD_set_self ha]
        exact decide_eq_false hout
      · rw [getD_set_other hab]
        refine decide_eq_false fun hin2 => hab ?_
        exact countTo_unique h1 ha hb' (decide_eq_true hin) (decide_eq_true hin2)
  by_cases hpos : 0 < e
  · refine key (l.getD a cl0).Base.toNat (by omega) ⟨rfl, by omega, by omega⟩ fun hh => ?_
    have := hh.2.1
    simp only [] at this
    omega
  · refine key ((l.getD a cl0).Base + ((2 ^ (l.getD a cl0).Bits.toNat : Nat) : Int) - 1).toNat (by omega) ⟨rfl, by omega, by omega⟩ fun hh => ?_
    have := hh.2.2
    simp only [] at this
    omega
theorem whole_wider {l : List Cl} (h : WholeL l) {a : Nat} (ha : a < l.length) : ¬ WholeL (l.set a ⟨(l.getD a cl0).Sym, (l.getD a cl0).Bits + 1, (l.getD a cl0).Base⟩) := by
  intro h'
  obtain ⟨_, hb, hc⟩ := h
  obtain ⟨_, hb', hc'⟩ := h'
  obtain ⟨b0, b1, b2, b3⟩ := hb a ha
  have h3 := hb' a (by rw [List.length_set]; exact ha)
  rw [getD_set_self ha, List.length_set] at h3
  simp only [] at h3
  obtain ⟨c0, c1, c2, c3⟩ := h3
  have hp := Nat.two_pow_pos (l.getD a cl0).Bits.toNat
  have ht : ((l.getD a cl0).Bits + 1).toNat = (l.getD a cl0).Bits.toNat + 1 := by omega
  rw [ht, two_pow_succ] at c3
  obtain ⟨x, hx⟩ : ∃ x : Nat, (x : Int) = (l.getD a cl0).Base + ((2 ^ (l.getD a cl0).Bits.toNat : Nat) : Int) := ⟨((l.getD a cl0).Base + ((2 ^ (l.getD a cl0).Bits.toNat : Nat) : Int)).toNat, by omega⟩
  have hxl : x < l.length := by omega
  have h1 := hc a x ha hxl
  have h2 := hc' a x (by rw [List.length_set]; exact ha) (by rw [List.length_set]; exact hxl)
  rw [getD_set_self ha, List.length_set] at h2
  obtain ⟨b, hbl, hin⟩ := countTo_pos (p := fun b => decide (inC (l.getD b cl0) (l.getD a cl0).Sym x)) l.length (by omega)
  rw [decide_eq_true_eq] at hin
  have hab : a ≠ b := fun hh => by
    subst hh
    have := hin.2.2
    omega
  refine hab (countTo_unique h2 ha hbl (decide_eq_true ?_) (decide_eq_true ?_))
  · rw [getD_set_self ha]
    refine ⟨rfl, by simp only []; omega, ?_⟩
    simp only []
    rw [ht, two_pow_succ]; omega
  · rw [getD_set_other hab]; exact hin

/-- who has more states takes no more bits, but for one -/
theorem bits_near {R p q i j : Nat} (hp : 1 ≤ q) (h : q ≤ p) (hi : p ≤ i) (hj2 : j < 2 * q) (hj : q ≤ j) (hR : j < 2 ^ (R + 1)) : bitsN R i ≤ bitsN R j + 1 := by
  have h1 := log2_mono (show q ≤ i by omega)
  have h2 := log2_mono (show j ≤ 2 * q by omega)
  have h3 : Nat.log2 (2 * q) = Nat.log2 q + 1 := by
    have := (floor_double (n := (q : Int)) (by omega)).1
    unfold floorI at this
    rw [show (2 * (q : Int)).toNat = 2 * q by omega, Int.toNat_natCast] at this
    exact this
  have h4 := log2_lt (show 1 ≤ j by omega) hR
  unfold bitsN
  omega

end Go.Proofs.Ytbopamcnlocdbaa

/- Rows of cells (api.Cell) in memory: read, or of one's own. -/
namespace Go.Proofs.Ytbopamcnlocdbaa
open Go.RowKit

/-- a cell as values -/
def cv (c : Cl) : List Value := [.int .u8 (c.Sym : Int), .int .i64 c.Bits, .int .i64 c.Base]
def cvs (l : List Cl) : List Value := l.flatMap cv
theorem cvs_length (l : List Cl) : (cvs l).length = l.length * 3 := by
  induction l with
  | nil => rfl
  | cons c r ih => simp [cvs, cv] at ih ⊢; omega
theorem cvs_get (l : List Cl) (j : Nat) (h : j < l.length) : (cvs l)[j * 3]? = some (.int .u8 ((l.getD j cl0).Sym : Int)) ∧ (cvs l)[j * 3 + 1]? = some (.int .i64 (l.getD j cl0).Bits) ∧ (cvs l)[j * 3 + 2]? = some (.int .i64 (l.getD j cl0).Base) := by
  induction l generalizing j with
  | nil => simp at h
  | cons c r ih =>
    have e : cvs (c :: r) = cv c ++ cvs r := by simp [cvs]
    cases j with
    | zero => rw [e]; exact ⟨rfl, rfl, rfl⟩
    | succ j =>
      have ih := ih j (by simpa using h)
      have hl : (cv c).length = 3 := rfl
      rw [e, List.getElem?_append_right (by omega), List.getElem?_append_right (by omega), List.getElem?_append_right (by omega), hl,
        show (j + 1) * 3 - 3 = j * 3 by omega, show (j + 1) * 3 + 1 - 3 = j * 3 + 1 by omega, show (j + 1) * 3 + 2 - 3 = j * 3 + 2 by omega]
      exact ih
theorem cvs_append (a b : List Cl) : cvs (a ++ b) = cvs a ++ cvs b := by simp [cvs]

/-- The value v is a slice of the cells l. -/
def RdC (w : World) (v : Value) (l : List Cl) : Prop :=
  (l = [] ∧ ∃ ao c, v = .slice ao 0 c) ∨ ∃ g off cap, v = .slice (some ⟨g, off, none⟩) l.length cap ∧ ∀ j, j < l.length →
    w.cell? ⟨g, off + j * 3, none⟩ = some (.int .u8 ((l.getD j cl0).Sym : Int)) ∧ w.cell? ⟨g, off + j * 3 + 1, none⟩ = some (.int .i64 (l.getD j cl0).Bits) ∧ w.cell? ⟨g, off + j * 3 + 2, none⟩ = some (.int .i64 (l.getD j cl0).Base)
theorem RdC.form {w : World} {v : Value} {l : List Cl} (h : RdC w v l) : ∃ ao cap, v = .slice ao l.length cap := by
  rcases h with ⟨rfl, ao, c, rfl⟩ | ⟨g, off, cap, rfl, _⟩
  · exact ⟨ao, c, rfl⟩
  · exact ⟨_, cap, rfl⟩
theorem RdC.at {w : World} {ao : Option Addr} {n cap : Nat} {l : List Cl} (h : RdC w (.slice ao n cap) l) (j : Nat) (hj : j < l.length) : ∃ g off, ao = some ⟨g, off, none⟩ ∧
    w.cell? ⟨g, off + j * 3, none⟩ = some (.int .u8 ((l.getD j cl0).Sym : Int)) ∧ w.cell? ⟨g, off + j * 3 + 1, none⟩ = some (.int .i64 (l.getD j cl0).Bits) ∧ w.cell? ⟨g, off + j * 3 + 2, none⟩ = some (.int .i64 (l.getD j cl0).Base) := by
  rcases h with ⟨h0, _⟩ | ⟨g, off, cap', he, hc⟩
  · rw [h0] at hj; simp at hj
  · simp only [Value.slice.injEq] at he
    exact ⟨g, off, he.1, hc _ hj⟩
theorem RdC.at' {w : World} {g off n cap : Nat} {l : List Cl} (h : RdC w (.slice (some ⟨g, off, none⟩) n cap) l) (j : Nat) (hj : j < l.length) :
    w.cell? ⟨g, off + j * 3, none⟩ = some (.int .u8 ((l.getD j cl0).Sym : Int)) ∧ w.cell? ⟨g, off + j * 3 + 1, none⟩ = some (.int .i64 (l.getD j cl0).Bits) ∧ w.cell? ⟨g, off + j * 3 + 2, none⟩ = some (.int .i64 (l.getD j cl0).Base) := by
  obtain ⟨g', off', he, hc⟩ := h.at j hj
  simp only [Option.some.injEq, Addr.mk.injEq] at he
  obtain ⟨rfl, rfl, -⟩ := he
  exact hc
theorem RdC.kept {S : Nat → Prop} {w w' : World} {v : Value} {l : List Cl} (h : RdC w v l) (hc : Chg S w w') (hS : ∀ k, v.ownBlock = some k → ¬ S k) : RdC w' v l := by
  rcases h with h | ⟨g, off, cap, rfl, hcell⟩
  · exact .inl h
  · refine .inr ⟨g, off, cap, rfl, fun j hj => ?_⟩
    have hh := hcell j hj
    have hlt : g < w.heap.size := block_lt_of_cell hh.1
    have hb := hc.block g hlt (hS g rfl)
    rw [World.cell?_of_block (w := w) (a := ⟨g, off + j * 3, none⟩) hb, World.cell?_of_block (w := w) (a := ⟨g, off + j * 3 + 1, none⟩) hb, World.cell?_of_block (w := w) (a := ⟨g, off + j * 3 + 2, none⟩) hb]
    exact hh

/-- none beyond its kind -/
def Cl.fits (c : Cl) : Prop := c.Sym < 256 ∧ (-9223372036854775808 ≤ c.Bits ∧ c.Bits ≤ 9223372036854775807) ∧ (-9223372036854775808 ≤ c.Base ∧ c.Base ≤ 9223372036854775807)

/-- A block that is a row of cells. -/
def RowC (w : World) (g : Nat) (t : TypeId) (l : List Cl) : Prop := w.heap[g]? = some (.cells (cvs l).toArray t (0, 0))
theorem RowC.cell {w : World} {g : Nat} {t : TypeId} {l : List Cl} (h : RowC w g t l) (j : Nat) (hj : j < l.length) :
    w.cell? ⟨g, j * 3, none⟩ = some (.int .u8 ((l.getD j cl0).Sym : Int)) ∧ w.cell? ⟨g, j * 3 + 1, none⟩ = some (.int .i64 (l.getD j cl0).Bits) ∧ w.cell? ⟨g, j * 3 + 2, none⟩ = some (.int .i64 (l.getD j cl0).Base) := by
  have hg := cvs_get l j hj
  rw [cell_of_row w g (j * 3) _ _ _ h, cell_of_row w g (j * 3 + 1) _ _ _ h, cell_of_row w g (j * 3 + 2) _ _ _ h, List.getElem?_toArray, List.getElem?_toArray, List.getElem?_toArray]
  exact hg
theorem RowC.free {w : World} {g : Nat} {t : TypeId} {l : List Cl} (h : RowC w g t l) (k : Nat) : w.frozen? ⟨g, k, none⟩ = false := frozen_of_row w g k _ _ h
theorem RowC.kept {S : Nat → Prop} {w w' : World} {g : Nat} {t : TypeId} {l : List Cl} (h : RowC w g t l) (hc : Chg S w w') (hS : ¬ S g) : RowC w' g t l := (hc.block g (lt_of_block h) hS).trans h
theorem RowC.lt {w : World} {g : Nat} {t : TypeId} {l : List Cl} (h : RowC w g t l) : g < w.heap.size := lt_of_block h
theorem RowC.rd {w : World} {g : Nat} {t : TypeId} {l : List Cl} (h : RowC w g t l) (cap : Nat) : RdC w (.slice (some ⟨g, 0, none⟩) l.length cap) l :=
  .inr ⟨g, 0, cap, rfl, fun j hj => by rw [Nat.zero_add]; exact h.cell j hj⟩

theorem cvs_set (l : List Cl) (j : Nat) (c : Cl) (h : j < l.length) : (((cvs l).set (j * 3) (.int .u8 (c.Sym : Int))).set (j * 3 + 1) (.int .i64 c.Bits)).set (j * 3 + 2) (.int .i64 c.Base) = cvs (l.set j c) := by
  induction l generalizing j with
  | nil => simp at h
  | cons d r ih =>
    have e : ∀ (x : Cl) (y : List Cl), cvs (x :: y) = cv x ++ cvs y := fun x y => by simp [cvs]
    cases j with
    | zero => rw [List.set_cons_zero, e, e]; rfl
    | succ j =>
      have ih := ih j (by simpa using h)
      have hl : (cv d).length = 3 := rfl
      rw [List.set_cons_succ, e, e, ← ih, List.set_append_right _ _ (by omega), List.set_append_right _ _ (by omega), List.set_append_right _ _ (by omega), hl,
        show (j + 1) * 3 - 3 = j * 3 by omega, show (j + 1) * 3 + 1 - 3 = j * 3 + 1 by omega, show (j + 1) * 3 + 2 - 3 = j * 3 + 2 by omega]
theorem RowC.set {w : World} {g : Nat} {t : TypeId} {l : List Cl} (h : RowC w g t l) (j : Nat) (hj : j < l.length) (c : Cl) :
    RowC (((w.setCell ⟨g, j * 3, none⟩ (.int .u8 (c.Sym : Int))).setCell ⟨g, j * 3 + 1, none⟩ (.int .i64 c.Bits)).setCell ⟨g, j * 3 + 2, none⟩ (.int .i64 c.Base)) g t (l.set j c) := by
  have h1 := heap_setCell_same w g (j * 3) _ _ (.int .u8 (c.Sym : Int)) h
  have h2 := heap_setCell_same _ g (j * 3 + 1) _ _ (.int .i64 c.Bits) h1
  have h3 := heap_setCell_same _ g (j * 3 + 2) _ _ (.int .i64 c.Base) h2
  unfold RowC
  rw [h3, List.setIfInBounds_toArray, List.setIfInBounds_toArray, List.setIfInBounds_toArray, cvs_set l j c hj]

end Go.Proofs.Ytbopamcnlocdbaa

/- What the document's own cells (puncheonref11) tell: Same. -/
namespace Go.Proofs.Ytbopamcnlocdbaa
open Go.RowKit

theorem extC_getD {a b : List Cl} (hl : a.length = b.length) (h : ∀ k, k < a.length → a.getD k cl0 = b.getD k cl0) : a = b := by
  refine List.ext_getElem hl fun k h1 h2 => ?_
  have := h k h1
  rw [List.getD_eq_getElem?_getD, List.getD_eq_getElem?_getD, List.getElem?_eq_getElem h1, List.getElem?_eq_getElem h2] at this
  exact this

set_option maxHeartbeats 1000000 in
theorem r11same_any (v u : Value) (ps bs : List Cl) (w : World) (h : RdC w v ps) (h2 : RdC w u bs) (hl : ps.length < 100000000000) (hl2 : bs.length < 100000000000) :
    Calls Try.prog 11 #[v, u] w fun e w' => e = .returned (.bool (decide (ps = bs))) ∧ ∃ m, w' = w.drewN m := by
  obtain ⟨ao, cap, rfl⟩ := h.form
  obtain ⟨au, capu, rfl⟩ := h2.form
  have H := Lib.hid h; have H2 := Lib.hid h2
  clear h h2
  by_cases hlen : ps.length = bs.length
  · have hq : ((ps.length : Int) != (bs.length : Int)) = false := by rw [hlen]; simp
    go_enter Try.func11, Try.ntmps11
    go_wp2
    go_loopw [5] (fun o5 wr => ∃ k : Nat, k ≤ ps.length ∧ o5 = .int .i64 (k : Int) ∧ (∀ j, j < k → ps.getD j cl0 = bs.getD j cl0) ∧ ∃ m, wr = w.drewN m) (fun o5 _ => ps.length - (intOf o5).toNat)
    case atStart => exact ⟨0, Nat.zero_le _, rfl, fun j hj => by omega, 0, rfl⟩
    case round =>
      obtain ⟨k, hk, rfl, heq, m, rfl⟩ := hrel
      have HEQ := Lib.hid heq
      clear heq
      by_cases hlt : k < ps.length
      · obtain ⟨g, off, rfl, c1, c2, c3⟩ := H.out.at k hlt
        obtain ⟨g2, off2, rfl, d1, d2, d3⟩ := H2.out.at k (by omega)
        have hlt2 : k < bs.length := by omega
        obtain ⟨x, hx⟩ : ∃ x, ps.getD k cl0 = x := ⟨_, rfl⟩
        obtain ⟨y, hy⟩ : ∃ y, bs.getD k cl0 = y := ⟨_, rfl⟩
        rw [hx] at c1 c2 c3
        rw [hy] at d1 d2 d3
        have HXX := Lib.hid hx; have HYY := Lib.hid hy
        clear hx hy
        by_cases hxy : x = y
        · subst hxy
          go_wp2
          go_quiet (fail)
          go_wp2
          go_roundw
          case rel =>
            refine ⟨k + 1, by omega, by go_num, fun j hj => ?_, m + nq, rfl⟩
            by_cases hjk : j = k
            · rw [hjk, HXX.out, HYY.out]
            · exact HEQ.out j (by omega)
          case measure => simp [intOf]; omega
        · have hd : decide (ps = bs) = false := decide_eq_false fun he => hxy (by rw [← HXX.out, ← HYY.out, he])
          have HD := Lib.hid hd
          clear hd
          obtain ⟨a1, a2, a3⟩ := x
          obtain ⟨b1, b2, b3⟩ := y
          simp only [Cl.mk.injEq] at hxy c1 c2 c3 d1 d2 d3
          clear HXX HYY
          by_cases h1 : a1 = b1
          · subst h1
            by_cases h2 : a2 = b2
            · subst h2
              have h3 : (a3 == b3) = false := by simp at hxy; simpa using hxy
              clear hxy
              go_wp2
              go_quiet (fail)
              go_wp2
              go_ret
              rw [HD.out]
              exact ⟨rfl, m + nq, drewN2 w m nq⟩
            · have h3 : (a2 == b2) = false := by simpa using h2
              clear hxy h2
              go_wp2
              go_quiet (fail)
              go_wp2
              go_ret
              rw [HD.out]
              exact ⟨rfl, m + nq, drewN2 w m nq⟩
          · have h3 : ((a1 : Int) == (b1 : Int)) = false := by simp; omega
            clear hxy h1
            go_wp2
            go_quiet (fail)
            go_wp2
            go_ret
            rw [HD.out]
            exact ⟨rfl, m + nq, drewN2 w m nq⟩
      · obtain rfl : k = ps.length := by omega
        go_wp2
        go_ret
        rw [decide_eq_true (extC_getD hlen HEQ.out)]
        exact ⟨rfl, m, rfl⟩
  · have hq : ((ps.length : Int) != (bs.length : Int)) = true := by simp; omega
    go_enter Try.func11, Try.ntmps11
    go_wp2
    go_ret
    have hd : decide (ps = bs) = false := decide_eq_false fun he => hlen (by rw [he])
    rw [hd]
    exact ⟨rfl, 0, rfl⟩

end Go.Proofs.Ytbopamcnlocdbaa

/- What the document's own dtab.Of (puncheonref11.Of) tells. -/
namespace Go.Proofs.Ytbopamcnlocdbaa
open Go.RowKit

/-- what Of tells -/
def DtabSays (w : World) (q : List Int) (e : Ending) (w' : World) : Prop :=
  ∃ v', e = .returned (.tuple #[v', .int .i64 (if logI (totalI q) = 0 then 1 else 0)]) ∧ (logI (totalI q) ≠ 0 → ∃ l, RdC w' v' l ∧ IsDtab (fq q) (logI (totalI q)) l) ∧ (logI (totalI q) = 0 → RdC w' v' []) ∧ Chg (fun _ => False) w w'

/-- the keys up to that of s and d have their cells -/
def DoneC (f : Nat → Nat) (R s d : Nat) (out : List Cl) : Prop := ∀ t e, (t < s ∧ e < f t) ∨ (t = s ∧ e < d) → out.getD (placeF f 256 t (f t + e)) cl0 = cellOf R t (f t + e)
theorem doneC_zero (f : Nat → Nat) (R : Nat) (out : List Cl) : DoneC f R 0 0 out := fun t e h => by omega
theorem doneC_next {f : Nat → Nat} {R s : Nat} {out : List Cl} (h : DoneC f R s (f s) out) : DoneC f R (s + 1) 0 out := fun t e ht => by
  refine h t e ?_
  by_cases hts : t = s
  · subst hts; exact .inr ⟨rfl, by omega⟩
  · exact .inl ⟨by omega, by omega⟩
theorem doneC_step {f : Nat → Nat} {R s d : Nat} {out : List Cl} (hl : out.length = sumTo f 256) (hs : s < 256) (hd : d < f s) (h : DoneC f R s d out) : DoneC f R s (d + 1) (out.set (placeF f 256 s (f s + d)) (cellOf R s (f s + d))) := fun t e ht => by
  have hp := place_room (f := f) (N := 256) hs hd
  by_cases hk : t = s ∧ e = d
  · obtain ⟨rfl, rfl⟩ := hk
    exact getD_set_self (by omega) _
  · have hte : t ≤ s ∧ e < f t := by
      rcases ht with ⟨h1, h2⟩ | ⟨rfl, h2⟩
      · exact ⟨by omega, h2⟩
      · exact ⟨Nat.le_refl _, by omega⟩
    rw [getD_set_other (fun he => hk (by
      have := place_inj (f := f) (N := 256) hs (by omega) hd hte.2 he
      exact ⟨this.1.symm, this.2.symm⟩))]
    exact h t e (by omega)
theorem doneC_all {f : Nat → Nat} {R : Nat} {out : List Cl} (hl : out.length = 2 ^ R) (h : DoneC f R 256 0 out) : IsDtab f R out := ⟨hl, fun s d hs hd => h s d (.inl ⟨hs, hd⟩)⟩

theorem Try.infoCell : (Try.prog.info? 37).map (fun i => (i.zero, i.size, i.bytes)) = some (some (.agg #[.int .u8 0, .int .i64 0, .int .i64 0]), 3, 24) := by kernel_rfl
theorem zeros_cvs (n : Nat) : (madeCells (Value.agg #[.int .u8 0, .int .i64 0, .int .i64 0]).cells (n * 3)).toList = cvs (List.replicate n cl0) := by
  have hl : (madeCells (Value.agg #[.int .u8 0, .int .i64 0, .int .i64 0]).cells (n * 3)).toList.length = n * 3 := by simp [madeCells]
  apply List.ext_getElem?
  intro i
  by_cases hi : i < n * 3
  · obtain ⟨j, r, hr, rfl⟩ : ∃ j r, r < 3 ∧ i = j * 3 + r := ⟨i / 3, i % 3, Nat.mod_lt _ (by decide), by omega⟩
    have hj : j < n := by omega
    have hg := cvs_get (List.replicate n cl0) j (by simpa using hj)
    have h0 : (List.replicate n cl0).getD j cl0 = cl0 := by simp [List.getD_eq_getElem?_getD, hj]
    rw [h0] at hg
    have hm : (madeCells (Value.agg #[.int .u8 0, .int .i64 0, .int .i64 0]).cells (n * 3)).toList[j * 3 + r]? = some ((Value.agg #[.int .u8 0, .int .i64 0, .int .i64 0]).cells[(j * 3 + r) % 3]!) := by
      simp only [madeCells, Array.toList_map, List.getElem?_map, Array.toList_range, List.getElem?_range hi, Option.map_some]
      rfl
    rw [hm]
    obtain rfl | rfl | rfl : r = 0 ∨ r = 1 ∨ r = 2 := by omega
    · rw [show (j * 3 + 0) % 3 = 0 by omega]; exact hg.1.symm
    · rw [show (j * 3 + 1) % 3 = 1 by omega]; exact hg.2.1.symm
    · rw [show (j * 3 + 2) % 3 = 2 by omega]; exact hg.2.2.symm
  · rw [List.getElem?_eq_none (by rw [hl]; omega), List.getElem?_eq_none (by rw [cvs_length]; simp; omega)]
theorem RowC.of_own {w : World} {base g n : Nat} {l : List Cl} (h : w.ownsRow base 37 3 (.slice (some ⟨g, 0, none⟩) n n) n (cvs l)) : RowC w g 37 l := by
  rcases h.2 with ⟨h0, _⟩ | ⟨g', cap, cur, he, _, hg, _, _, hs, ht⟩
  · simp at h0
  · simp only [Value.slice.injEq, Option.some.injEq, Addr.mk.injEq, and_true, true_and] at he
    obtain ⟨rfl, rfl⟩ := he
    have : cur = (cvs l).toArray := by
      apply Array.ext'
      rw [← ht, List.take_of_length_le (by rw [Array.length_toList, hs]; exact Nat.le_refl _)]
    rw [this] at hg
    exact hg
theorem wpList_make_cells {ops : Array Oper} {rest : List Oper} {o : Oper} {a : Act} {w : World} {Q : Exit → Act → World → Prop} (hg : o.guard = none) (l c : Operand) (hop : o.op = Op.makeSlice 25 l c)
    (L C : Int) (n : Nat) (hl : a.eval l = .int .i64 L) (hc : a.eval c = .int .i64 C) (hL : L = (n : Int)) (hC : C = (n : Int)) (hn : n < 100000000000) (Z : List Cl) (hZ : Z = List.replicate n cl0)
    (hK : ∀ w', RowC w' w.heap.size 37 Z → Chg (fun _ => False) w w' → wpList Try.prog ops Q rest (a.put o.dst (.slice (some ⟨w.heap.size, 0, none⟩) n n)) w') : wpList Try.prog ops Q (o :: rest) a w := by
  obtain ⟨i, hi, hz0, hz1, hz2⟩ := info_parts Try.infoCell
  refine wpList_make_full w hg l c 25 hop w.heap.size 37 i (.agg #[.int .u8 0, .int .i64 0, .int .i64 0]) 3 Try.underlying25 hi hz0 hz1 .i64 .i64 L C n hl hc hL hC (by rw [hz2]; omega) (by unfold maxLen; omega) (Nat.le_refl _) ?_
  intro w1 h1 h2
  rw [zeros_cvs, ← hZ] at h1
  exact hK w1 (RowC.of_own h1) ((Chg.of_grown h2).mono fun k _ hk => by simp at hk)

/-- the same, in memory that is new -/
def DtabOwn (w : World) (q : List Int) (e : Ending) (w' : World) : Prop :=
  ∃ v', e = .returned (.tuple #[v', .int .i64 (if logI (totalI q) = 0 then 1 else 0)]) ∧ (logI (totalI q) ≠ 0 → ∃ l g n, v' = .slice (some ⟨g, 0, none⟩) l.length n ∧ w.heap.size ≤ g ∧ RowC w' g 37 l ∧ IsDtab (fq q) (logI (totalI q)) l) ∧ (logI (totalI q) = 0 → RdC w' v' []) ∧ Chg (fun _ => False) w w'

set_option maxHeartbeats 2000000 in
theorem r11of_own (v : Value) (q : List Int) (w : World) (h : RdI w v q) (hb : ∀ z ∈ q, -9223372036854775808 ≤ z ∧ z ≤ 9223372036854775807) (hl : q.length < 100000000000) :
    Calls Try.prog 10 #[v] w fun e w' => DtabOwn w q e w' := by
  have HLG := Lib.hid (r8log_any v q w h hb hl)
  by_cases hk : logI (totalI q) = 0
  · clear hb hl
    go_enter Try.func10, Try.ntmps10
    go_wp2_with fail
    refine HLG.out.mono ?_
    rintro e w1 ⟨rfl, rfl⟩
    rw [hk]
    have HK := Lib.hid hk
    clear hk h HLG
    go_wp2
    go_ret2
    exact ⟨_, by rw [if_pos HK.out]; rfl, fun h => absurd HK.out h, fun _ => .inl ⟨rfl, none, 0, rfl⟩, Chg.refl _ _⟩
  · have hq := normQ_of hk
    have hkk : ((logI (totalI q) : Nat) : Int) ≠ 0 := by omega
    obtain ⟨k, hke⟩ : ∃ k, logI (totalI q) = k := ⟨_, rfl⟩
    rw [hke] at hq hkk
    rw [hke] at HLG
    have HK := Lib.hid hk
    clear hk
    obtain ⟨ao, cap, rfl⟩ := h.form
    have hsum := hq.sum
    have hsz := hq.size
    have hat := hq.at
    have hle := hq.le
    have h256 := hq.1
    have hk12 := hq.2.2.2.2
    obtain ⟨L, hL⟩ : ∃ L, 2 ^ k = L := ⟨_, rfl⟩
    rw [hL] at hsum hsz
    have hLI : (2 : Int) ^ k = (L : Int) := by rw [← hL]; simp
    have hcells : ∀ W, Chg (fun _ => False) w W → ∀ s, s < 256 → ∃ g off, ao = some ⟨g, off, none⟩ ∧ W.cell? ⟨g, off + s, none⟩ = some (.int .i64 ((fq q s : Nat) : Int)) := fun W hc s hs => by
      obtain ⟨g, off, h1, h2⟩ := (h.kept hc (by simp)).at s (by omega)
      rw [hat s] at h2
      exact ⟨g, off, h1, h2⟩
    obtain ⟨g, off, rfl, -⟩ := hcells w (Chg.refl _ _) 0 (by omega)
    have HCELL := Lib.hid fun W (hc : Chg (fun _ => False) w W) s hs => (show W.cell? ⟨g, off + s, none⟩ = some (.int .i64 ((fq q s : Nat) : Int)) by
      obtain ⟨g', off', h1, h2⟩ := hcells W hc s hs
      simp only [Option.some.injEq, Addr.mk.injEq] at h1
      obtain ⟨rfl, rfl, -⟩ := h1
      exact h2)
    have HPL := Lib.hid fun W (hc : Chg (fun _ => False) w W) (s i : Nat) hs hi => r10place_any (.slice (some ⟨g, off, none⟩) q.length cap) q k s i W (h.kept hc (by simp)) hq hs hi
    have hlenI : (q.length : Int) = 256 := by omega
    obtain ⟨n, hn⟩ : ∃ n, q.length = n := ⟨_, rfl⟩
    rw [hn] at hlenI HLG HPL ⊢
    have HSUM := Lib.hid hsum; have HLE := Lib.hid hle; have HKE := Lib.hid hke; have HL := Lib.hid hL; have HK12 := Lib.hid hk12
    have HLN := Lib.hid hlenI
    have hk64 : (k : Int) < 64 := by omega
    have hkL : (k : Int) ≤ 12 := by omega
    clear hcells hat hle h256 hL hsum h hq hb hl hn hke hlenI hk12
    go_enter Try.func10, Try.ntmps10
    go_wp2_with fail
    refine HLG.out.mono ?_
    rintro e w1 ⟨rfl, rfl⟩
    have hkk' : ((k : Int) == 0) = false := by simpa using hkk
    clear hkk HLG
    go_wp2_with (at_make; refine wpList_make_cells rfl _ _ rfl (L : Int) (L : Int) L rfl rfl rfl rfl (by omega) (List.replicate L cl0) rfl ?_)
    intro w2 hrow hc
    obtain ⟨Z, hZ⟩ : ∃ Z : List Cl, List.replicate L cl0 = Z := ⟨_, rfl⟩
    have hZl : Z.length = L := by rw [← hZ]; simp
    rw [hZ] at hrow
    have HROW := Lib.hid hrow; have HC := Lib.hid hc; have HZL := Lib.hid hZl
    clear hZ hrow hc hZl
    go_wp2
    obtain ⟨G, hG⟩ : ∃ G, w1.heap.size = G := ⟨_, rfl⟩
    rw [hG] at HROW ⊢
    have HG := Lib.hid hG
    clear hG
    go_loopw [7, 8, 9] (fun o7 _ _ wr => ∃ (s : Nat) (out : List Cl), s ≤ 256 ∧ o7 = .int .i64 (s : Int) ∧ out.length = L ∧ RowC wr G 37 out ∧ DoneC (fq q) k s 0 out ∧ Chg (fun _ => False) w1 wr) (fun o7 _ _ _ => 256 - (intOf o7).toNat)
    case atStart => exact ⟨0, Z, Nat.zero_le _, rfl, HZL.out, HROW.out, doneC_zero _ _ _, HC.out⟩
    case round =>
      obtain ⟨s, out, hs, rfl, hol, hrow, hdone, hc⟩ := hrel
      clear HROW HC HZL
      by_cases hlt : s < 256
      · have hcell := HCELL.out wr hc s hlt
        have hf4 := HLE.out s
        have dl : decide ((s : Int) < 256) = true := decide_eq_true (by omega)
        have hsn : (s : Int) < (n : Int) := by have := HLN.out; omega
        have HOL := Lib.hid hol; have HROW := Lib.hid hrow; have HDN := Lib.hid hdone; have HC := Lib.hid hc
        obtain ⟨F, hF⟩ : ∃ F, fq q s = F := ⟨_, rfl⟩
        rw [hF] at hcell hf4
        have HF := Lib.hid hF
        clear hol hrow hdone hc hF
        go_wp2
        obtain ⟨wa, hwa⟩ : ∃ wa, wa = wr := ⟨_, rfl⟩
        subst hwa
        go_loopw [8, 9] (fun o8 _ wr => ∃ (d : Nat) (out : List Cl), d ≤ F ∧ o8 = .int .i64 ((F + d : Nat) : Int) ∧ out.length = L ∧ RowC wr G 37 out ∧ DoneC (fq q) k s d out ∧ Chg (fun _ => False) w1 wr) (fun o8 _ _ => 2 * F - (intOf o8).toNat)
        case atStart => exact ⟨0, out, Nat.zero_le _, rfl, HOL.out, HROW.out, HDN.out, HC.out⟩
        case round =>
          obtain ⟨d, out2, hd, rfl, hol, hrow, hdone, hc⟩ := hrel
          clear HOL HROW HDN HC hcell
          have hcell := HCELL.out wr hc s hlt
          rw [HF.out] at hcell
          obtain ⟨J, hJ⟩ : ∃ J, F + d = J := ⟨_, rfl⟩
          rw [hJ]
          have HJ := Lib.hid hJ
          have hJ8 : J ≤ 8192 := by omega
          by_cases hlt2 : d < F
          · have dl2 : decide ((J : Int) < 2 * (F : Int)) = true := decide_eq_true (by omega)
            have hroom := place_room (f := fq q) (N := 256) (s := s) (d := d) hlt (by rw [HF.out]; exact hlt2)
            have hstep := doneC_step (R := k) (by rw [HSUM.out]; exact hol) hlt (by rw [HF.out]; exact hlt2) hdone
            rw [HF.out, hJ] at hroom hstep
            rw [HSUM.out] at hroom
            have hpl := HPL.out
            obtain ⟨P, hP⟩ : ∃ P, placeF (fq q) 256 s J = P := ⟨_, rfl⟩
            rw [hP] at hroom hstep
            have hPL : (P : Int) < (L : Int) := by omega
            have HSTEP := Lib.hid hstep; have HROW := Lib.hid hrow; have HOL := Lib.hid hol; have HC := Lib.hid hc; have HP := Lib.hid hP
            have h256 : (s : Int) % 256 = (s : Int) := by omega
            have hfl := r7floor_any (J : Int) wr (by omega) (by omega)
            have hfJ : floorI (J : Int) = Nat.log2 J := by unfold floorI; rw [Int.toNat_natCast]
            have hlg : Nat.log2 J ≤ k := log2_lt (by omega) (by have := f_le (f := fq q) (R := k) (s := s) (by rw [HL.out]; exact HSUM.out) hlt; rw [HF.out] at this; rw [two_pow_succ]; omega)
            rw [hfJ] at hfl
            obtain ⟨b, hb⟩ : ∃ b, bitsN k J = b := ⟨_, rfl⟩
            have hbI : (k : Int) - ((Nat.log2 J : Nat) : Int) = (b : Int) := by rw [← hb]; unfold bitsN; omega
            have hb12 : b ≤ 12 := by rw [← hb]; unfold bitsN; omega
            obtain ⟨B, hB⟩ : ∃ B, 2 ^ b = B := ⟨_, rfl⟩
            have hBI : (2 : Int) ^ b = (B : Int) := by rw [← hB]; simp
            obtain ⟨X, hX⟩ : ∃ X, J * B = X := ⟨_, rfl⟩
            have hXI : (J : Int) * (B : Int) = (X : Int) := by rw [← hX]; simp
            have hB4 : B ≤ 4096 := by rw [← hB]; exact pow12 hb12
            have hX4 : X ≤ 33554432 := by rw [← hX]; exact Nat.le_trans (Nat.mul_le_mul hJ8 hB4) (by decide)
            have hcl : cellOf k s J = ⟨s, (b : Int), (X : Int) - (L : Int)⟩ := by unfold cellOf; rw [hb, hB, hX, HL.out]
            rw [hcl] at HSTEP
            obtain ⟨lj, hlj⟩ : ∃ lj, Nat.log2 J = lj := ⟨_, rfl⟩
            rw [hlj] at hfl hbI
            have hbb : (b : Int) ≤ 12 := by omega
            have hljb : (lj : Int) ≤ 12 := by omega
            have HFL := Lib.hid hfl
            have HLT := Lib.hid hlt; have HLT2 := Lib.hid hlt2
            have hw1 : IntKind.u8.wrap (s : Int) = (s : Int) := by rw [IntKind.wrap_u8]; omega
            have hw2 : IntKind.i64.wrap (B : Int) = (B : Int) := by rw [IntKind.wrap_i64]; omega
            have hw3 : IntKind.i64.wrap (X : Int) = (X : Int) := by rw [IntKind.wrap_i64]; omega
            have hw4 : IntKind.i64.wrap ((X : Int) - (L : Int)) = (X : Int) - (L : Int) := by rw [IntKind.wrap_i64]; omega
            clear hfl hpl hstep hol hrow hdone hc hP hJ hroom hfJ hlg hb hB hX hcl hlj hb12 hlt hlt2
            go_wp2_with fail
            refine HFL.out.mono ?_
            rintro e w3 ⟨rfl, rfl⟩
            have hpd : Calls Try.prog 20 #[.slice (some ⟨g, off, none⟩) n cap, .int .i64 (s : Int), .int .i64 (J : Int)] w3.drew fun e w' => e = .returned (.int .i64 (P : Int)) ∧ RowC w' G 37 out2 ∧ Chg (fun _ => False) w1 w' := by
              refine (HPL.out w3.drew HC.out.drew s J (by have := HLT.out; omega) (by omega)).mono ?_
              rintro e w4 ⟨rfl, m, rfl⟩
              rw [HP.out]
              exact ⟨rfl, HROW.out.kept ((Chg.refl (fun _ => False) w3).drew.drewN m) (by simp), HC.out.drew.drewN m⟩
            have HPD := Lib.hid hpd
            have hPo : P < out2.length := by have := HOL.out; omega
            have HPO := Lib.hid hPo
            clear hpd hPo HROW HC hcell HFL
            go_wp2
            go_region_held3 (fun _ => True) (trivial) (first
              | (go_at_call 20; refine (HPD.out).mono ?_; rintro e w4 ⟨rfl, hr4, hc4⟩; have hcl := hr4.cell P HPO.out; have f0 := hr4.free (P * 3); have f1 := hr4.free (P * 3 + 1); have f2 := hr4.free (P * 3 + 2); obtain ⟨c0, c1, c2⟩ := hcl; have HR4 := Lib.hid hr4; have HC4 := Lib.hid hc4; clear hr4 hc4))
            have hr5 := HR4.out.set P HPO.out ⟨s, (b : Int), (X : Int) - (L : Int)⟩
            simp only [] at hr5
            have hc5 : Chg (fun _ => False) w1 (((w4.setCell ⟨G, P * 3, none⟩ (.int .u8 (s : Int))).setCell ⟨G, P * 3 + 1, none⟩ (.int .i64 (b : Int))).setCell ⟨G, P * 3 + 2, none⟩ (.int .i64 ((X : Int) - (L : Int)))) :=
              ((HC4.out.trans (Chg.setCell _ ⟨G, P * 3, none⟩ _) (fun q hq h => by simp at h; have := HG.out; omega)).trans (Chg.setCell _ ⟨G, P * 3 + 1, none⟩ _) (fun q hq h => by simp at h; have := HG.out; omega)).trans (Chg.setCell _ ⟨G, P * 3 + 2, none⟩ _) (fun q hq h => by simp at h; have := HG.out; omega)
            have HR5 := Lib.hid hr5; have HC5 := Lib.hid hc5
            clear hr5 hc5 HR4 HC4 c0 c1 c2 f0 f1 f2
            go_wp2
            go_roundw
            case rel => exact ⟨d + 1, out2.set P ⟨s, (b : Int), (X : Int) - (L : Int)⟩, by have := HLT2.out; omega, by have := HJ.out; go_num, by rw [List.length_set]; exact HOL.out, HR5.out, HSTEP.out, HC5.out⟩
            case measure => have := HJ.out; have := HLT2.out; simp [intOf]; omega
          · have dl2 : decide ((J : Int) < 2 * (F : Int)) = false := decide_eq_false (by omega)
            have hdF : d = F := by omega
            have hdn : DoneC (fq q) k (s + 1) 0 out2 := doneC_next (by rw [HF.out]; rw [← hdF]; exact hdone)
            have HDN := Lib.hid hdn; have HROW := Lib.hid hrow; have HOL := Lib.hid hol; have HC := Lib.hid hc
            clear hdn hrow hol hc hdone hJ hdF
            go_wp2
            go_roundw
            case rel => exact ⟨s + 1, out2, by omega, by go_num, HOL.out, HROW.out, HDN.out, HC.out⟩
            case measure => simp [intOf]; omega
      · have hs6 : s = 256 := by omega
        have dl : decide ((s : Int) < 256) = false := decide_eq_false (by omega)
        have hsp := doneC_all (f := fq q) (R := k) (out := out) (by rw [HL.out]; exact hol) (by rw [hs6] at hdone; exact hdone)
        have HSP := Lib.hid hsp; have HROW := Lib.hid hrow; have HOL := Lib.hid hol; have HC := Lib.hid hc
        clear hsp hrow hol hc hdone hs6
        go_wp2
        go_ret2
        exact ⟨_, by rw [if_neg HK.out]; rfl, fun _ => ⟨out, G, L, by rw [HOL.out]; rfl, by have := HG.out; omega, HROW.out, by rw [HKE.out]; exact HSP.out⟩, fun h => absurd h HK.out, HC.out⟩
theorem r11of_any (v : Value) (q : List Int) (w : World) (h : RdI w v q) (hb : ∀ z ∈ q, -9223372036854775808 ≤ z ∧ z ≤ 9223372036854775807) (hl : q.length < 100000000000) :
    Calls Try.prog 10 #[v] w fun e w' => DtabSays w q e w' :=
  (r11of_own v q w h hb hl).mono fun e w' ⟨v', h1, h2, h3, h4⟩ => ⟨v', h1, fun hk => by
    obtain ⟨l, g, n, rfl, _, hr, hi⟩ := h2 hk
    exact ⟨l, hr.rd n, hi⟩, h3, h4⟩

end Go.Proofs.Ytbopamcnlocdbaa

/- What math/bits.Len64 and math/bits.Len tell of any number. -/
namespace Go.Proofs.Ytbopamcnlocdbaa
open Go.RowKit

theorem len_fin {x y c : Int} (b : Nat) (hc : c = (b : Int)) (hb : b ≤ 56) (hy : y.toNat = x.toNat / 2 ^ b) (hy1 : 1 ≤ y) (hy2 : y < 256) : wrap64 (c + wrap64 ((bitLen y.toNat : Nat) : Int)) = ((bitLen x.toNat : Nat) : Int) := by
  have h8 := bitLen_le8 y.toNat (by omega)
  have hs := bitLen_shift x.toNat b (by omega)
  rw [← hy] at hs
  rw [hs, hc]
  generalize bitLen y.toNat = l at *
  unfold wrap64
  omega

set_option maxRecDepth 100000 in
set_option maxHeartbeats 4000000 in
theorem len64_any (x : Int) (h0 : 0 ≤ x) (hx : x ≤ 18446744073709551615) (w : World) : Calls Try.prog 52 #[.int .u64 x] w fun e w' => e = .returned (.int .i64 (bitLen x.toNat : Int)) ∧ w' = w := by
  go_enter Try.func52, Try.ntmps52
  go_wp2
  all_goals rw [len8tab_get]
  all_goals go_ret
  all_goals refine ⟨congrArg (fun z => Ending.returned (Value.int .i64 z)) ?_, rfl⟩
  · exact len_fin 56 rfl (by decide) (by omega) (by omega) (by omega)
  · exact len_fin 48 rfl (by decide) (by omega) (by omega) (by omega)
  · exact len_fin 40 rfl (by decide) (by omega) (by omega) (by omega)
  · exact len_fin 32 rfl (by decide) (by omega) (by omega) (by omega)
  · exact len_fin 24 rfl (by decide) (by omega) (by omega) (by omega)
  · exact len_fin 16 rfl (by decide) (by omega) (by omega) (by omega)
  · exact len_fin 8 rfl (by decide) (by omega) (by omega) (by omega)
  · have h8 := bitLen_le8 x.toNat (by omega)
    generalize bitLen x.toNat = l at *
    unfold wrap64
    omega

theorem len_any (x : Int) (h0 : 0 ≤ x) (hx : x ≤ 18446744073709551615) (w : World) : Calls Try.prog 50 #[.int .u64 x] w fun e w' => e = .returned (.int .i64 (bitLen x.toNat : Int)) ∧ w' = w := by
  have H := fun w => len64_any x h0 hx w
  go_enter Try.func50, Try.ntmps50
  go_wp2_with fail
  refine (H _).mono ?_
  rintro e w' ⟨rfl, rfl⟩
  go_wp2
  go_ret
  exact ⟨rfl, rfl⟩

end Go.Proofs.Ytbopamcnlocdbaa

/- What logs' Floor, Ceil, Width and Pick tell. THIS ALONE SPEAKS OF THE PROGRAM'S OWN TEXT. -/
namespace Go.Proofs.Ytbopamcnlocdbaa
open Go.RowKit

theorem bitLen_width {n : Int} (h : 1 ≤ n) : bitLen n.toNat = widthI n := by
  unfold bitLen widthI
  rw [if_neg (by omega), if_neg (by omega)]

theorem lwidth_w (n : Int) (w : World) (hn : n ≤ 1099511627776) (hlo : -9223372036854775808 ≤ n) :
    Calls Try.prog 46 #[.int .i64 n] w fun e w' => e = .returned (.int .i64 ((widthI n : Nat) : Int)) ∧ w' = w := by
  by_cases h1 : n < 1
  · have hw := width_small h1
    go_enter Try.func46, Try.ntmps46
    go_wp2
    go_ret
    rw [hw]
    exact ⟨rfl, rfl⟩
  · have hw := bitLen_width (n := n) (by omega)
    have H := fun w => len_any n (by omega) (by omega) w
    have hm : n % 18446744073709551616 = n := by omega
    go_enter Try.func46, Try.ntmps46
    go_wp2_with fail
    refine (H _).mono ?_
    rintro e w' ⟨rfl, rfl⟩
    go_wp2
    go_ret
    exact ⟨rfl, rfl⟩

theorem lfloor_w (n : Int) (w : World) (hn : n ≤ 1099511627776) (hlo : -9223372036854775808 ≤ n) :
    Calls Try.prog 35 #[.int .i64 n] w fun e w' => e = .returned (.int .i64 ((floorI n : Nat) : Int)) ∧ w' = w := by
  by_cases h1 : n < 2
  · have hw := floor_small h1
    go_enter Try.func35, Try.ntmps35
    go_wp2
    go_ret
    rw [hw]
    exact ⟨rfl, rfl⟩
  · have H := fun w => lwidth_w n w hn hlo
    have hw := width_floor (n := n) (by omega)
    have h40 := floor_le40 hn
    rw [hw] at H
    generalize floorI n = f at *
    have hs : ((f + 1 : Nat) : Int) - 1 = (f : Int) := by omega
    have hwr : wrap64 ((f : Int)) = (f : Int) := by unfold wrap64; omega
    obtain ⟨q, hq⟩ : ∃ q : Int, q = ((f + 1 : Nat) : Int) := ⟨_, rfl⟩
    rw [← hq] at H hs
    have hq1 : 0 ≤ q ∧ q ≤ 41 := by omega
    go_enter Try.func35, Try.ntmps35
    go_wp2_with fail
    refine (H _).mono ?_
    rintro e w' ⟨rfl, rfl⟩
    go_wp2
    go_ret
    refine ⟨congrArg (fun z => Ending.returned (Value.int .i64 z)) ?_, rfl⟩
    omega

theorem lceil_w (n : Int) (w : World) (hn : n ≤ 1099511627776) (hlo : -9223372036854775808 ≤ n) :
    Calls Try.prog 41 #[.int .i64 n] w fun e w' => e = .returned (.int .i64 ((ceilI n : Nat) : Int)) ∧ w' = w := by
  by_cases h1 : n < 2
  · have hw := ceil_small h1
    go_enter Try.func41, Try.ntmps41
    go_wp2
    go_ret
    rw [hw]
    exact ⟨rfl, rfl⟩
  · have H := fun w => lwidth_w (n - 1) w (by omega) (by omega)
    have hw : widthI (n - 1) = ceilI n := by
      unfold widthI ceilI
      rw [if_neg (by omega), if_neg h1]
      congr 2
      omega
    rw [hw] at H
    go_enter Try.func41, Try.ntmps41
    go_wp2_with fail
    refine (H _).mono ?_
    rintro e w' ⟨rfl, rfl⟩
    go_wp2
    go_ret
    exact ⟨rfl, rfl⟩

theorem lwidth_any (n : Int) (w : World) (hn : n ≤ 1099511627776) (hlo : -9223372036854775808 ≤ n) :
    Calls Try.prog 46 #[.int .i64 n] w fun e w' => e = .returned (.int .i64 ((widthI n : Nat) : Int)) ∧ Chg (fun _ => False) w w' :=
  (lwidth_w n w hn hlo).mono fun _ _ h => ⟨h.1, h.2 ▸ Chg.refl _ _⟩
theorem lfloor_any (n : Int) (w : World) (hn : n ≤ 1099511627776) (hlo : -9223372036854775808 ≤ n) :
    Calls Try.prog 35 #[.int .i64 n] w fun e w' => e = .returned (.int .i64 ((floorI n : Nat) : Int)) ∧ Chg (fun _ => False) w w' :=
  (lfloor_w n w hn hlo).mono fun _ _ h => ⟨h.1, h.2 ▸ Chg.refl _ _⟩
theorem lceil_any (n : Int) (w : World) (hn : n ≤ 1099511627776) (hlo : -9223372036854775808 ≤ n) :
    Calls Try.prog 41 #[.int .i64 n] w fun e w' => e = .returned (.int .i64 ((ceilI n : Nat) : Int)) ∧ Chg (fun _ => False) w w' :=
  (lceil_w n w hn hlo).mono fun _ _ h => ⟨h.1, h.2 ▸ Chg.refl _ _⟩

theorem foldl_take_succ (a : Int) (zs : List Int) (k : Nat) (hk : k < zs.length) : (zs.take (k + 1)).foldl max a = max ((zs.take k).foldl max a) (zs.getD k 0) := by
  rw [List.take_add_one, List.foldl_append]
  simp [List.getElem?_eq_getElem hk]

end Go.Proofs.Ytbopamcnlocdbaa

/- What dtab's cell, mayBeMany, fitted and Step tell. THIS SPEAKS OF THE PROGRAM'S OWN TEXT. -/
namespace Go.Proofs.Ytbopamcnlocdbaa
open Go.RowKit

/-- may it be gone on from x with more? -/
def canC (l : List Cl) (x : Int) (more : Nat) : Prop := 0 ≤ x ∧ x < (l.length : Int) ∧ 0 ≤ (l.getD x.toNat cl0).Bits ∧ (l.getD x.toNat cl0).Bits ≤ 24 ∧ more < 2 ^ (l.getD x.toNat cl0).Bits.toNat
instance (l : List Cl) (x : Int) (more : Nat) : Decidable (canC l x more) := by unfold canC; infer_instance
def stepS (l : List Cl) (x : Int) (more : Nat) : Nat := if canC l x more then (l.getD x.toNat cl0).Sym else 0
def stepN (l : List Cl) (x : Int) (more : Nat) : Int := if canC l x more then (l.getD x.toNat cl0).Base + (more : Int) else 0
/-- no base is out of what is promised -/
def baseOk (l : List Cl) (x : Int) : Prop := 0 ≤ x → x < (l.length : Int) → -1099511627776 ≤ (l.getD x.toNat cl0).Base ∧ (l.getD x.toNat cl0).Base ≤ 1099511627776

/-- a block that holds a cell -/
def Cb (w : World) (g : Nat) (c : Cl) : Prop := w.heap[g]? = some (.cells #[.int .u8 (c.Sym : Int), .int .i64 c.Bits, .int .i64 c.Base] 37 (0, 0))
theorem Cb.cells {w : World} {g : Nat} {c : Cl} (h : Cb w g c) : w.cell? ⟨g, 0, none⟩ = some (.int .u8 (c.Sym : Int)) ∧ w.cell? ⟨g, 1, none⟩ = some (.int .i64 c.Bits) ∧ w.cell? ⟨g, 2, none⟩ = some (.int .i64 c.Base) := by
  refine ⟨?_, ?_, ?_⟩
  · rw [cell_of_row _ _ 0 _ _ _ h]; rfl
  · rw [cell_of_row _ _ 1 _ _ _ h]; rfl
  · rw [cell_of_row _ _ 2 _ _ _ h]; rfl
theorem Cb.kept {S : Nat → Prop} {w w' : World} {g : Nat} {c : Cl} (h : Cb w g c) (hc : Chg S w w') (hS : ¬ S g) : Cb w' g c := (hc.block g (lt_of_block h) hS).trans h
theorem Cb.free {w : World} {g : Nat} {c : Cl} (h : Cb w g c) (k : Nat) : w.frozen? ⟨g, k, none⟩ = false := frozen_of_row w g k _ _ h
/-- a cell is laid into a block -/
def C3 (w : World) (g : Nat) (c : Cl) : World := ((w.setCell ⟨g, 0, none⟩ (.int .u8 (c.Sym : Int))).setCell ⟨g, 1, none⟩ (.int .i64 c.Bits)).setCell ⟨g, 2, none⟩ (.int .i64 c.Base)
theorem C3_chg (w : World) (g : Nat) (c : Cl) : Chg (fun q => q = g) w (C3 w g c) :=
  ((Chg.setCell w ⟨g, 0, none⟩ _).trans (Chg.setCell _ ⟨g, 1, none⟩ _) fun _ _ h => h).trans (Chg.setCell _ ⟨g, 2, none⟩ _) fun _ _ h => h
theorem C3_cb {w : World} {g : Nat} {c0 : Cl} (h : Cb w g c0) (c : Cl) : Cb (C3 w g c) g c := by
  have h1 := heap_setCell_same w g 0 _ _ (.int .u8 (c.Sym : Int)) h
  have h2 := heap_setCell_same _ g 1 _ _ (.int .i64 c.Bits) h1
  have h3 := heap_setCell_same _ g 2 _ _ (.int .i64 c.Base) h2
  exact h3
theorem C3_cells {w : World} {g : Nat} {c0 : Cl} (h : Cb w g c0) (S : Nat) (I B : Int) :
    (w.setCell ⟨g, 0, none⟩ (.int .u8 (S : Int))).cell? ⟨g, 0, none⟩ = some (.int .u8 (S : Int)) ∧ ((w.setCell ⟨g, 0, none⟩ (.int .u8 (S : Int))).setCell ⟨g, 1, none⟩ (.int .i64 I)).cell? ⟨g, 1, none⟩ = some (.int .i64 I) ∧ (C3 w g ⟨S, I, B⟩).cell? ⟨g, 2, none⟩ = some (.int .i64 B) := by
  have h1 := heap_setCell_same w g 0 _ _ (.int .u8 (S : Int)) h
  have h2 := heap_setCell_same _ g 1 _ _ (.int .i64 I) h1
  have h3 := heap_setCell_same _ g 2 _ _ (.int .i64 B) h2
  exact ⟨by rw [cell_of_row _ _ 0 _ _ _ h1]; rfl, by rw [cell_of_row _ _ 1 _ _ _ h2]; rfl, by unfold C3; rw [cell_of_row _ _ 2 _ _ _ h3]; rfl⟩
theorem zeroCell (W : World) : (zeroValue 37).run Try.prog W = .ok (.agg #[.int .u8 0, .int .i64 0, .int .i64 0]) W := by kernel_rfl

set_option maxHeartbeats 600000 in
theorem dcell_any (s i k : Nat) (w : World) (h1 : 1 ≤ i) (h2 : i < 2 ^ (k + 1)) (hk : k ≤ 12) :
    Calls Try.prog 18 #[.int .u8 (s : Int), .int .i64 (i : Int), .int .i64 (k : Int)] w fun e w' => e = .returned (.agg #[.int .u8 ((cellOf k s i).Sym : Int), .int .i64 (cellOf k s i).Bits, .int .i64 (cellOf k s i).Base]) ∧ Chg (fun _ => False) w w' := by
  have hlg : Nat.log2 i ≤ k := log2_lt h1 h2
  have hi8 : i ≤ 8192 := by
    have : 2 ^ (k + 1) ≤ 2 ^ 13 := Nat.pow_le_pow_right (by decide) (by omega)
    omega
  have hfl := fun W => lfloor_w (i : Int) W (by omega) (by omega)
  have hfi : floorI (i : Int) = Nat.log2 i := by unfold floorI; rw [Int.toNat_natCast]
  rw [hfi] at hfl
  obtain ⟨lj, hlj⟩ : ∃ lj, Nat.log2 i = lj := ⟨_, rfl⟩
  obtain ⟨b, hb⟩ : ∃ b, bitsN k i = b := ⟨_, rfl⟩
  have hbI : (k : Int) - ((lj : Nat) : Int) = (b : Int) := by rw [← hb, ← hlj]; unfold bitsN; omega
  have hb12 : b ≤ 12 := by rw [← hb]; unfold bitsN; omega
  obtain ⟨B, hB⟩ : ∃ B, 2 ^ b = B := ⟨_, rfl⟩
  have hBI : (2 : Int) ^ b = (B : Int) := by rw [← hB]; simp
  obtain ⟨L, hL⟩ : ∃ L, 2 ^ k = L := ⟨_, rfl⟩
  have hLI : (2 : Int) ^ k = (L : Int) := by rw [← hL]; simp
  have hL4 : L ≤ 4096 := by rw [← hL]; exact pow12 hk
  obtain ⟨X, hX⟩ : ∃ X, i * B = X := ⟨_, rfl⟩
  have hXI : (i : Int) * (B : Int) = (X : Int) := by rw [← hX]; simp
  have hB4 : B ≤ 4096 := by rw [← hB]; exact pow12 hb12
  have hX4 : X ≤ 33554432 := by rw [← hX]; exact Nat.le_trans (Nat.mul_le_mul hi8 hB4) (by decide)
  have hcl : cellOf k s i = ⟨s, (b : Int), (X : Int) - (L : Int)⟩ := by unfold cellOf; rw [hb, hB, hX, hL]
  rw [hcl]
  simp only []
  rw [hlj] at hfl
  have hcb : Cb (w.alloc (.cells #[.int .u8 0, .int .i64 0, .int .i64 0] 37)) w.heap.size cl0 := heap_alloc_new w _
  have hc0 := Chg.alloc (fun _ => False) w (.cells #[.int .u8 0, .int .i64 0, .int .i64 0] 37)
  have hz := zeroCell
  obtain ⟨W0, hW0⟩ : ∃ W0, w.alloc (.cells #[.int .u8 0, .int .i64 0, .int .i64 0] 37) = W0 := ⟨_, rfl⟩
  rw [hW0] at hcb hc0
  obtain ⟨G, hG⟩ : ∃ G, w.heap.size = G := ⟨_, rfl⟩
  rw [hG] at hcb
  have h3 := C3_cb hcb ⟨s, (b : Int), (X : Int) - (L : Int)⟩
  have hcc : Chg (fun _ => False) w (C3 W0 G ⟨s, (b : Int), (X : Int) - (L : Int)⟩) := hc0.trans (C3_chg W0 G ⟨s, (b : Int), (X : Int) - (L : Int)⟩) fun q hq he => by omega
  obtain ⟨u0, u1, u2⟩ := h3.cells
  obtain ⟨y0, y1, y2⟩ := C3_cells hcb s (b : Int) ((X : Int) - (L : Int))
  obtain ⟨z0, z1, z2⟩ := hcb.cells
  have f0 := hcb.free 0
  have f1 := hcb.free 1
  have f2 := hcb.free 2
  unfold C3 at u0 u1 u2 hcc y2
  simp only [] at u0 u1 u2 hcc z0 z1 z2 y2
  have HCC := Lib.hid hcc
  have hb64 : (b : Int) < 64 := by omega
  have hk64 : (k : Int) < 64 := by omega
  have hw0 : IntKind.i64.wrap (b : Int) = (b : Int) := by rw [IntKind.wrap_i64]; omega
  have hw2 : IntKind.i64.wrap (B : Int) = (B : Int) := by rw [IntKind.wrap_i64]; omega
  have hw5 : IntKind.i64.wrap (L : Int) = (L : Int) := by rw [IntKind.wrap_i64]; omega
  have hw3 : IntKind.i64.wrap (X : Int) = (X : Int) := by rw [IntKind.wrap_i64]; omega
  have hw4 : IntKind.i64.wrap ((X : Int) - (L : Int)) = (X : Int) - (L : Int) := by rw [IntKind.wrap_i64]; omega
  have HFL := Lib.hid hfl
  have hljI : (lj : Int) ≤ 12 := by omega
  have hkI : (k : Int) ≤ 12 := by omega
  have hbI0 : (b : Int) ≤ 12 := by omega
  have hiI : (i : Int) ≤ 8192 := by omega
  clear hcc h3 hcb hc0 hcl hX hB hL hb hlj hfl hfi hlg hi8 h1 h2 hk hb12 hL4 hB4 hX4
  go_enter Try.func18, Try.ntmps18
  go_wp2_with fail
  refine (HFL.out _).mono ?_
  rintro e w1 ⟨rfl, rfl⟩
  go_wp2
  go_region
  go_wp2
  refine bodyPost_ret (v := .agg #[.int .u8 (s : Int), .int .i64 (b : Int), .int .i64 ((X : Int) - (L : Int))]) (by simp [results, Try.results18, go_sem, y0, y1, y2]; try rfl) rfl ?_
  exact ⟨rfl, HCC.out.drew⟩

/-- there is a table of so many states -/
def IsPow (n : Int) : Prop := ∃ R, 1 ≤ R ∧ R ≤ 12 ∧ n = ((2 ^ R : Nat) : Int)
theorem IsPow.iff {n : Int} (h2 : 2 ≤ n) (h4 : n ≤ 4096) : floorI n = ceilI n ↔ IsPow n := by
  have hbo := both_at (n := n) (by omega)
  rw [eq_comm, hbo]
  refine ⟨fun h => ⟨floorI n, ?_, ?_, h⟩, fun ⟨R, hR, _, he⟩ => ?_⟩
  · have h1 : floorI n ≠ 0 := fun h0 => by rw [h0] at h; simp at h; omega
    omega
  · have : floorI n < 13 := lt_of_pow (a := floorI n) (b := 13) (by have : (2:Nat) ^ 13 = 8192 := rfl; omega)
    omega
  · rw [he, floor_at]
theorem IsPow.bnd {n : Int} (h : IsPow n) : 2 ≤ n ∧ n ≤ 4096 := by
  obtain ⟨R, h1, h2, rfl⟩ := h
  have := pow12 h2
  have : 2 ^ 1 ≤ 2 ^ R := Nat.pow_le_pow_right (by decide) h1
  omega

set_option maxHeartbeats 600000 in
theorem dmany_any (n : Int) (w : World) (b : Bool) (hb : b = true ↔ IsPow n) :
    Calls Try.prog 26 #[.int .i64 n] w fun e w' => e = .returned (.bool b) ∧ w' = w := by
  by_cases h2 : 2 ≤ n
  · by_cases h4 : n ≤ 4096
    · have d1 : decide (2 ≤ n) = true := decide_eq_true h2
      have d2 : decide (n ≤ 4096) = true := decide_eq_true h4
      have HF := Lib.hid (lfloor_w n w (by omega) (by omega))
      have HC := Lib.hid (lceil_w n w (by omega) (by omega))
      rw [← IsPow.iff h2 h4] at hb
      obtain ⟨F, hF⟩ : ∃ F, floorI n = F := ⟨_, rfl⟩
      obtain ⟨C, hC⟩ : ∃ C, ceilI n = C := ⟨_, rfl⟩
      rw [hF] at HF hb
      rw [hC] at HC hb
      have hbe : decide (F = C) = b := by
        cases b
        · simp at hb; simp [hb]
        · simp at hb; simp [hb]
      have HBE := Lib.hid hbe
      clear hF hC hb hbe
      go_enter Try.func26, Try.ntmps26
      go_wp2_with fail
      refine HF.out.mono ?_
      rintro e w1 ⟨rfl, hw1⟩
      obtain rfl := hw1.symm
      go_wp2_with fail
      refine HC.out.mono ?_
      rintro e w1 ⟨rfl, hw1⟩
      obtain rfl := hw1.symm
      go_wp2
      have hbe := HBE.out
      subst hbe
      go_ret
      refine ⟨?_, rfl⟩
      have : ((F : Int) == (C : Int)) = decide (F = C) := by by_cases h : F = C <;> simp [h]; omega
      rw [← this]; rfl
    · have d1 : decide (2 ≤ n) = true := decide_eq_true h2
      have d2 : decide (n ≤ 4096) = false := decide_eq_false h4
      have hbe : b = false := by
        cases b
        · rfl
        · have := (hb.1 rfl).bnd; omega
      subst hbe
      clear hb
      go_enter Try.func26, Try.ntmps26
      go_wp2
      go_ret
      exact ⟨rfl, rfl⟩
  · have d1 : decide (2 ≤ n) = false := decide_eq_false h2
    have hbe : b = false := by
      cases b
      · rfl
      · have := (hb.1 rfl).bnd; omega
    subst hbe
    clear hb
    go_enter Try.func26, Try.ntmps26
    go_wp2
    go_ret
    exact ⟨rfl, rfl⟩

set_option maxHeartbeats 600000 in
theorem dstep_any (v : Value) (l : List Cl) (x : Int) (more : Nat) (w : World) (h : RdC w v l) (hf : ∀ c ∈ l, c.fits) (hl : l.length < 100000000000) (hx : -9223372036854775808 ≤ x ∧ x ≤ 9223372036854775807) (hm : more < 4294967296) (hb : baseOk l x) :
    Calls Try.prog 14 #[v, .int .i64 x, .int .u32 (more : Int)] w fun e w' => e = .returned (.tuple #[.int .u8 ((stepS l x more : Nat) : Int), .int .i64 (stepN l x more), .bool (decide (canC l x more))]) ∧ Chg (fun _ => False) w w' := by
  obtain ⟨ao, cap, rfl⟩ := h.form
  by_cases h0 : x < 0
  · have hn : ¬ canC l x more := fun hc => by have := hc.1; omega
    unfold stepS stepN
    rw [if_neg hn, if_neg hn, decide_eq_false hn]
    have d0 : decide (x < 0) = true := decide_eq_true h0
    clear hf hl h hb hn hx
    go_enter Try.func14, Try.ntmps14
    go_wp2
    go_returns
    exact ⟨rfl, Chg.refl _ _⟩
  · have d0 : decide (x < 0) = false := decide_eq_false h0
    by_cases h1 : (l.length : Int) ≤ x
    · have hn : ¬ canC l x more := fun hc => by have := hc.2.1; omega
      unfold stepS stepN
      rw [if_neg hn, if_neg hn, decide_eq_false hn]
      have d1 : decide ((l.length : Int) ≤ x) = true := decide_eq_true h1
      clear hf hl h hb hn hx
      go_enter Try.func14, Try.ntmps14
      go_wp2
      go_returns
      exact ⟨rfl, Chg.refl _ _⟩
    · obtain ⟨j, rfl⟩ : ∃ j : Nat, x = (j : Int) := ⟨x.toNat, by omega⟩
      have hj : j < l.length := by omega
      have d1 : decide ((l.length : Int) ≤ (j : Int)) = false := decide_eq_false h1
      obtain ⟨g, off, rfl, a0, a1, a2⟩ := h.at j hj
      have hbj := hb (by omega) (by omega)
      rw [Int.toNat_natCast] at hbj
      have hcan : canC l (j : Int) more ↔ (0 ≤ (l.getD j cl0).Bits ∧ (l.getD j cl0).Bits ≤ 24 ∧ more < 2 ^ (l.getD j cl0).Bits.toNat) := by
        unfold canC
        rw [Int.toNat_natCast]
        exact ⟨fun h => h.2.2, fun h => ⟨by omega, by omega, h⟩⟩
      have hfit := hf (l.getD j cl0) (by rw [List.getD_eq_getElem?_getD, List.getElem?_eq_getElem hj]; exact List.getElem_mem hj)
      obtain ⟨D, hD⟩ : ∃ D, decide (canC l (j : Int) more) = D := ⟨_, rfl⟩
      obtain ⟨P, hP⟩ : ∃ P, stepS l (j : Int) more = P := ⟨_, rfl⟩
      obtain ⟨N, hN⟩ : ∃ N, stepN l (j : Int) more = N := ⟨_, rfl⟩
      rw [hD, hP, hN]
      have hno : ¬ (0 ≤ (l.getD j cl0).Bits ∧ (l.getD j cl0).Bits ≤ 24 ∧ more < 2 ^ (l.getD j cl0).Bits.toNat) → D = false ∧ P = 0 ∧ N = 0 := fun hn => by
        rw [← hD, ← hP, ← hN]
        unfold stepS stepN
        rw [← hcan] at hn
        rw [if_neg hn, if_neg hn]
        exact ⟨decide_eq_false hn, rfl, rfl⟩
      have hyes : (0 ≤ (l.getD j cl0).Bits ∧ (l.getD j cl0).Bits ≤ 24 ∧ more < 2 ^ (l.getD j cl0).Bits.toNat) → D = true ∧ P = (l.getD j cl0).Sym ∧ N = (l.getD j cl0).Base + (more : Int) := fun hn => by
        rw [← hD, ← hP, ← hN]
        unfold stepS stepN
        rw [← hcan] at hn
        rw [if_pos hn, if_pos hn, Int.toNat_natCast]
        exact ⟨decide_eq_true hn, rfl, rfl⟩
      clear hcan hb hf hD hP hN
      obtain ⟨c, hc⟩ : ∃ c, l.getD j cl0 = c := ⟨_, rfl⟩
      rw [hc] at a0 a1 a2 hbj hfit hno hyes
      clear hc
      obtain ⟨s, bi, ba⟩ := c
      unfold Cl.fits at hfit
      simp only [] at a0 a1 a2 hbj hfit hno hyes
      obtain ⟨-, ⟨fb0, fb1⟩, -⟩ := hfit
      obtain ⟨W1, hW1⟩ : ∃ W1, w.alloc (.cells #[.int .u8 (s : Int), .int .i64 bi, .int .i64 ba] 37) = W1 := ⟨_, rfl⟩
      have c1 : Chg (fun _ => False) w W1 := by rw [← hW1]; exact Chg.alloc _ _ _
      have n1 : Cb W1 w.heap.size ⟨s, bi, ba⟩ := by rw [← hW1]; exact heap_alloc_new _ _
      obtain ⟨b0, b1, b2⟩ := n1.cells
      simp only [] at b0 b1 b2
      obtain ⟨gx, hgx⟩ : ∃ gx, w.heap.size = gx := ⟨_, rfl⟩
      rw [hgx] at b0 b1 b2
      have HC := Lib.hid c1
      have hjl : (j : Int) < (l.length : Int) := by omega
      have hjn : ¬ l.length ≤ j := by omega
      obtain ⟨n, hn⟩ : ∃ n, l.length = n := ⟨_, rfl⟩
      rw [hn] at d1 hjl hjn ⊢
      clear c1 n1 h hj hl hn h1 h0
      by_cases e0 : bi < 0
      · obtain ⟨rfl, rfl, rfl⟩ := hno fun hc => by omega
        have d2 : decide (bi < 0) = true := decide_eq_true e0
        clear hx hbj hno hyes
        go_enter Try.func14, Try.ntmps14
        go_wp2
        go_returns
        exact ⟨rfl, HC.out⟩
      · have d2 : decide (bi < 0) = false := decide_eq_false e0
        by_cases e1 : 24 < bi
        · obtain ⟨rfl, rfl, rfl⟩ := hno fun hc => by omega
          have d3 : decide (24 < bi) = true := decide_eq_true e1
          clear hx hbj hno hyes
          go_enter Try.func14, Try.ntmps14
          go_wp2
          go_returns
          exact ⟨rfl, HC.out⟩
        · have d3 : decide (24 < bi) = false := decide_eq_false e1
          obtain ⟨b, rfl⟩ : ∃ b : Nat, bi = (b : Int) := ⟨bi.toNat, by omega⟩
          rw [Int.toNat_natCast] at hno hyes
          have hb24 : b ≤ 24 := by omega
          have hbI : (b : Int) ≤ 24 := by omega
          obtain ⟨B, hB⟩ : ∃ B, 2 ^ b = B := ⟨_, rfl⟩
          have hBI : (2 : Int) ^ b = (B : Int) := by rw [← hB]; simp
          have hB24 : B ≤ 16777216 := by rw [← hB]; exact Nat.pow_le_pow_right (n := 2) (by decide) hb24
          have hBl : (B : Int) ≤ 16777216 := by omega
          rw [hB] at hno hyes
          clear hB
          by_cases e2 : more < B
          · obtain ⟨rfl, rfl, rfl⟩ := hyes ⟨by omega, hbI, e2⟩
            have d4 : decide ((B : Int) ≤ (more : Int)) = false := decide_eq_false (by omega)
            have e3 : ¬ B ≤ more := by omega
            have hw1 : IntKind.i64.wrap (more : Int) = (more : Int) := by rw [IntKind.wrap_i64]; omega
            have hw2 : IntKind.i64.wrap (ba + (more : Int)) = ba + (more : Int) := by rw [IntKind.wrap_i64]; omega
            have hw3 : IntKind.u32.wrap (B : Int) = (B : Int) := by rw [IntKind.wrap_u32]; omega
            clear hno hyes hx hb24 hB24
            go_enter Try.func14, Try.ntmps14
            go_wp2
            go_quiet (fail)
            go_wp2
            go_returns
            exact ⟨rfl, HC.out.drewN _⟩
          · obtain ⟨rfl, rfl, rfl⟩ := hno fun hc => e2 hc.2.2
            have e3 : B ≤ more := by omega
            have d4 : decide ((B : Int) ≤ (more : Int)) = true := decide_eq_true (by omega)
            have hw3 : IntKind.u32.wrap (B : Int) = (B : Int) := by rw [IntKind.wrap_u32]; omega
            clear hx hbj hno hyes hb24 hB24
            go_enter Try.func14, Try.ntmps14
            go_wp2
            go_returns
            exact ⟨rfl, HC.out⟩

end Go.Proofs.Ytbopamcnlocdbaa

/- Plain mathematics of dtab's marks: rows of marks, a row for each symbol that is there; how many are not set yet. -/
namespace Go.Proofs.Ytbopamcnlocdbaa
open Go

def falses : List Bool → Nat
  | [] => 0
  | b :: r => (if b then 0 else 1) + falses r
theorem falses_set : ∀ (r : List Bool) (x : Nat), x < r.length → r.getD x false = false → falses (r.set x true) + 1 = falses r
  | [], x, h, _ => by simp at h
  | b :: r, 0, _, h => by
    have : b = false := by simpa using h
    subst this
    simp [falses]; omega
  | b :: r, x + 1, h, h2 => by
    have := falses_set r x (by simpa using h) (by simpa using h2)
    simp only [List.set_cons_succ, falses]
    omega
theorem falses_rep (n : Nat) : falses (List.replicate n false) = n := by
  induction n with
  | zero => rfl
  | succ n ih => rw [List.replicate_succ, falses, ih]; simp; omega
theorem falses_le : ∀ r : List Bool, falses r ≤ r.length
  | [] => Nat.le_refl _
  | b :: r => by
    have := falses_le r
    simp only [falses, List.length_cons]
    split <;> omega
theorem falses_zero : ∀ r : List Bool, falses r = 0 ↔ ∀ x, x < r.length → r.getD x false = true
  | [] => by simp [falses]
  | b :: r => by
    have ih := falses_zero r
    constructor
    · intro h x hx
      simp only [falses] at h
      cases x with
      | zero => cases b <;> simp_all
      | succ x => simpa using ih.1 (by omega) x (by simpa using hx)
    · intro h
      have h0 := h 0 (by simp)
      have hb : b = true := by simpa using h0
      have : falses r = 0 := ih.2 fun x hx => by simpa using h (x + 1) (by simpa using hx)
      simp only [falses, hb, this]
      simp

def updM (M : Nat → List Bool) (s : Nat) (r : List Bool) : Nat → List Bool := fun t => if t = s then r else M t
theorem updM_self (M : Nat → List Bool) (s : Nat) (r : List Bool) : updM M s r s = r := by unfold updM; rw [if_pos rfl]
theorem updM_other (M : Nat → List Bool) {s t : Nat} (r : List Bool) (h : t ≠ s) : updM M s r t = M t := by unfold updM; rw [if_neg h]
def miss (M : Nat → List Bool) : Nat := sumTo (fun s => falses (M s)) 256
theorem sumTo_upd (f g : Nat → Nat) (s v : Nat) (hg : g s = v) (ho : ∀ t, t ≠ s → g t = f t) : ∀ n, s < n → sumTo g n + f s = sumTo f n + v
  | 0, h => by omega
  | n + 1, h => by
    simp only [sumTo]
    by_cases hn : s = n
    · subst hn
      rw [sumTo_congr s (g := g) (h := f) fun a ha => ho a (by omega), hg]; omega
    · have := sumTo_upd f g s v hg ho n (by omega)
      rw [ho n (by omega)]; omega
theorem miss_upd (M : Nat → List Bool) (s : Nat) (r : List Bool) (h : s < 256) : miss (updM M s r) + falses (M s) = miss M + falses r := by
  unfold miss
  exact sumTo_upd (fun t => falses (M t)) (fun t => falses (updM M s r t)) s (falses r) (by simp only [updM_self]) (fun t ht => by simp only [updM_other M r ht]) 256 h
theorem miss_zero (M : Nat → List Bool) : miss M = 0 ↔ ∀ s, s < 256 → falses (M s) = 0 := by
  unfold miss
  constructor
  · intro h s hs
    have := sumTo_at (fun s => falses (M s)) 256 s hs
    exact Nat.le_zero.1 (h ▸ this)
  · intro h
    have := sumTo_congr (g := fun s => falses (M s)) (h := fun _ => 0) 256 h
    rw [this, sumTo_zero]

/-- what is marked: P; of which symbols there is a row: S -/
structure Inv (n : Nat) (P : Nat → Nat → Prop) (S : Nat → Prop) (M : Nat → List Bool) : Prop where
  len : ∀ s, s < 256 → M s = [] ∨ (M s).length = n
  seen : ∀ s, s < 256 → (M s ≠ [] ↔ S s)
  at' : ∀ s x, s < 256 → x < n → ((M s).getD x false = true ↔ P s x)

/-- no two of the first k cells hold one state of one symbol -/
def Apart (l : List Cl) (k : Nat) : Prop := ∀ a b, a < k → b < k → ∀ s x, inC (l.getD a cl0) s x → inC (l.getD b cl0) s x → a = b
def MarkD (l : List Cl) (k s x : Nat) : Prop := ∃ b, b < k ∧ inC (l.getD b cl0) s x
def Seen (l : List Cl) (k s : Nat) : Prop := ∃ b, b < k ∧ (l.getD b cl0).Sym = s
/-- .. and the first t states of the cell k -/
def MarkDT (l : List Cl) (k t s x : Nat) : Prop := MarkD l k s x ∨ (s = (l.getD k cl0).Sym ∧ (l.getD k cl0).Base ≤ (x : Int) ∧ (x : Int) < (l.getD k cl0).Base + (t : Int))

theorem inv_start (n : Nat) (l : List Cl) : Inv n (MarkD l 0) (Seen l 0) (fun _ => []) :=
  ⟨fun _ _ => .inl rfl, fun s _ => ⟨fun h => absurd rfl h, fun ⟨b, hb, _⟩ => by omega⟩, fun s x _ _ => ⟨fun h => by simp at h, fun ⟨b, hb, _⟩ => by omega⟩⟩
theorem apart_start (l : List Cl) : Apart l 0 := fun a b ha => by omega
theorem miss_start : miss (fun _ => []) = 0 := sumTo_zero 256

theorem Seen.succ {l : List Cl} {k s : Nat} : Seen l (k + 1) s ↔ Seen l k s ∨ s = (l.getD k cl0).Sym := by
  constructor
  · rintro ⟨b, hb, h⟩
    by_cases hbk : b = k
    · subst hbk; exact .inr h.symm
    · exact .inl ⟨b, by omega, h⟩
  · rintro (⟨b, hb, h⟩ | h)
    · exact ⟨b, by omega, h⟩
    · exact ⟨k, by omega, h.symm⟩
/-- a row is made for the symbol of the cell k, if there is none -/
theorem Inv.make {n : Nat} {l : List Cl} {k : Nat} {M : Nat → List Bool} (h : Inv n (MarkD l k) (Seen l k) M) (hn : 0 < n) (h0 : M (l.getD k cl0).Sym = []) (hs : (l.getD k cl0).Sym < 256) :
    Inv n (MarkDT l k 0) (Seen l (k + 1)) (updM M (l.getD k cl0).Sym (List.replicate n false)) := by
  refine ⟨fun s hsl => ?_, fun s hsl => ?_, fun s x hsl hx => ?_⟩
  · by_cases he : s = (l.getD k cl0).Sym
    · rw [he, updM_self]; exact .inr List.length_replicate
    · rw [updM_other _ _ he]; exact h.len s hsl
  · rw [Seen.succ]
    by_cases he : s = (l.getD k cl0).Sym
    · rw [he, updM_self]
      refine ⟨fun _ => .inr rfl, fun _ hh => ?_⟩
      have := congrArg List.length hh
      simp at this; omega
    · rw [updM_other _ _ he, h.seen s hsl]
      exact ⟨.inl, fun h => h.resolve_right he⟩
  · have hM : ¬ MarkD l k (l.getD k cl0).Sym x := fun hm => by
      have := (h.at' _ x hs hx).2 hm
      rw [h0] at this; simp at this
    by_cases he : s = (l.getD k cl0).Sym
    · rw [he, updM_self]
      refine ⟨fun hh => by simp [List.getD_eq_getElem?_getD, List.getElem?_replicate, hx] at hh, fun hh => ?_⟩
      rcases hh with hh | ⟨_, h1, h2⟩
      · exact absurd hh hM
      · omega
    · rw [updM_other _ _ he, h.at' s x hsl hx]
      refine ⟨.inl, fun hh => ?_⟩
      rcases hh with hh | ⟨h1, _⟩
      · exact hh
      · exact absurd h1 he
theorem Inv.has {n : Nat} {l : List Cl} {k : Nat} {M : Nat → List Bool} (h : Inv n (MarkD l k) (Seen l k) M) (h0 : M (l.getD k cl0).Sym ≠ []) (hs : (l.getD k cl0).Sym < 256) :
    Inv n (MarkDT l k 0) (Seen l (k + 1)) M := by
  refine ⟨h.len, fun s hsl => ?_, fun s x hsl hx => ?_⟩
  · rw [Seen.succ, h.seen s hsl]
    exact ⟨.inl, fun hh => hh.elim id fun he => by rw [he, ← h.seen _ hs]; exact h0⟩
  · rw [h.at' s x hsl hx]
    refine ⟨.inl, fun hh => ?_⟩
    rcases hh with hh | ⟨_, h1, h2⟩
    · exact hh
    · omega
/-- a mark more -/
theorem Inv.mark {n : Nat} {l : List Cl} {k t : Nat} {M : Nat → List Bool} (h : Inv n (MarkDT l k t) (Seen l (k + 1)) M) (hs : (l.getD k cl0).Sym < 256) {x : Nat} (hx : x < n) (he : (x : Int) = (l.getD k cl0).Base + (t : Int)) (hl : (M (l.getD k cl0).Sym).length = n) :
    Inv n (MarkDT l k (t + 1)) (Seen l (k + 1)) (updM M (l.getD k cl0).Sym ((M (l.getD k cl0).Sym).set x true)) := by
  refine ⟨fun s hsl => ?_, fun s hsl => ?_, fun s y hsl hy => ?_⟩
  · by_cases hes : s = (l.getD k cl0).Sym
    · rw [hes, updM_self, List.length_set]; exact .inr hl
    · rw [updM_other _ _ hes]; exact h.len s hsl
  · rw [← h.seen s hsl]
    by_cases hes : s = (l.getD k cl0).Sym
    · rw [hes, updM_self]
      constructor
      · intro _ hh; rw [hh] at hl; simp at hl; omega
      · intro _ hh
        have h2 := congrArg List.length hh
        rw [List.length_set, hl] at h2
        simp at h2; omega
    · rw [updM_other _ _ hes]
  · have hat := h.at' s y hsl hy
    have hstep : MarkDT l k (t + 1) s y ↔ MarkDT l k t s y ∨ (s = (l.getD k cl0).Sym ∧ y = x) := by
      unfold MarkDT
      constructor
      · rintro (hh | ⟨h1, h2, h3⟩)
        · exact .inl (.inl hh)
        · by_cases hyx : y = x
          · exact .inr ⟨h1, hyx⟩
          · exact .inl (.inr ⟨h1, h2, by omega⟩)
      · rintro ((hh | ⟨h1, h2, h3⟩) | ⟨h1, h2⟩)
        · exact .inl hh
        · exact .inr ⟨h1, h2, by omega⟩
        · exact .inr ⟨h1, by omega, by omega⟩
    rw [hstep, ← hat]
    by_cases hes : s = (l.getD k cl0).Sym
    · rw [hes, updM_self]
      by_cases hyx : y = x
      · subst hyx
        rw [List.getD_eq_getElem?_getD, List.getElem?_set_self (by omega)]
        simp
      · rw [List.getD_eq_getElem?_getD, List.getElem?_set_ne (by omega), ← List.getD_eq_getElem?_getD]
        exact ⟨.inl, fun hh => hh.elim id fun h => absurd h.2 hyx⟩
    · rw [updM_other _ _ hes]
      exact ⟨.inl, fun hh => hh.elim id fun h => absurd h.1 hes⟩
/-- none of the first t states of the cell k was marked -/
def ApartT (l : List Cl) (k t : Nat) : Prop := Apart l k ∧ ∀ b (x : Nat), b < k → (l.getD k cl0).Base ≤ (x : Int) → (x : Int) < (l.getD k cl0).Base + (t : Int) → ¬ inC (l.getD b cl0) (l.getD k cl0).Sym x
theorem Apart.zero {l : List Cl} {k : Nat} (h : Apart l k) : ApartT l k 0 := ⟨h, fun b x _ h1 h2 => by omega⟩
theorem ApartT.step {l : List Cl} {k t : Nat} (h : ApartT l k t) {x : Nat} (he : (x : Int) = (l.getD k cl0).Base + (t : Int)) (hm : ¬ MarkDT l k t (l.getD k cl0).Sym x) : ApartT l k (t + 1) := by
  refine ⟨h.1, fun b y hb h1 h2 hin => ?_⟩
  by_cases hyx : y = x
  · subst hyx; exact hm (.inl ⟨b, hb, hin⟩)
  · exact h.2 b y hb h1 (by omega) hin
theorem ApartT.all {l : List Cl} {k t : Nat} (h : ApartT l k t) (ht : t = 2 ^ (l.getD k cl0).Bits.toNat) : Apart l (k + 1) := by
  have key : ∀ b s x, b < k → inC (l.getD k cl0) s x → ¬ inC (l.getD b cl0) s x := fun b s x hb hk hin => by
    obtain ⟨h1, h2, h3⟩ := hk
    rw [← h1] at hin
    exact h.2 b x hb h2 (by rw [ht]; exact h3) hin
  intro a b ha hb s x h1 h2
  by_cases hak : a = k
  · by_cases hbk : b = k
    · omega
    · rw [hak] at h1; exact absurd h2 (key b s x (by omega) h1)
  · by_cases hbk : b = k
    · rw [hbk] at h2; exact absurd h1 (key a s x (by omega) h2)
    · exact h.1 a b (by omega) (by omega) s x h1 h2
theorem Inv.all {n : Nat} {l : List Cl} {k t : Nat} {M : Nat → List Bool} (h : Inv n (MarkDT l k t) (Seen l (k + 1)) M) (ht : t = 2 ^ (l.getD k cl0).Bits.toNat) : Inv n (MarkD l (k + 1)) (Seen l (k + 1)) M := by
  refine ⟨h.len, h.seen, fun s x hs hx => ?_⟩
  rw [h.at' s x hs hx]
  constructor
  · rintro (⟨b, hb, hin⟩ | ⟨h1, h2, h3⟩)
    · exact ⟨b, by omega, hin⟩
    · exact ⟨k, by omega, h1.symm, h2, by rw [← ht]; exact h3⟩
  · rintro ⟨b, hb, hin⟩
    by_cases hbk : b = k
    · subst hbk
      obtain ⟨h1, h2, h3⟩ := hin
      exact .inr ⟨h1.symm, h2, by rw [ht]; exact h3⟩
    · exact .inl ⟨b, by omega, hin⟩

/-- of each symbol that is there each state comes once -/
def OnceL (l : List Cl) (n : Nat) : Prop := ∀ a x, a < n → x < n → countTo (fun b => decide (inC (l.getD b cl0) (l.getD a cl0).Sym x)) n = 1
/-- a state that is marked twice -/
theorem not_once {l : List Cl} {n k t : Nat} (hk : k < n) {x : Nat} (hx : x < n) (he : (x : Int) = (l.getD k cl0).Base + (t : Int)) (ht : t < 2 ^ (l.getD k cl0).Bits.toNat) (hm : MarkDT l k t (l.getD k cl0).Sym x) : ¬ OnceL l n := by
  intro h
  have h1 := h k x hk hx
  rcases hm with ⟨b, hb, hin⟩ | ⟨_, h2, h3⟩
  · have hin2 : inC (l.getD k cl0) (l.getD k cl0).Sym x := ⟨rfl, by omega, by omega⟩
    have := countTo_unique h1 (show b < n by omega) hk (decide_eq_true hin) (decide_eq_true hin2)
    omega
  · omega
theorem once_iff {l : List Cl} {n : Nat} {M : Nat → List Bool} (h : Inv n (MarkD l n) (Seen l n) M) (ha : Apart l n) (hs : ∀ a, a < n → (l.getD a cl0).Sym < 256) : miss M = 0 ↔ OnceL l n := by
  rw [miss_zero]
  constructor
  · intro h0 a x hal hx
    have hsa := hs a hal
    have hne := (h.seen _ hsa).2 ⟨a, hal, rfl⟩
    have hl := (h.len _ hsa).resolve_left hne
    have hall := (falses_zero _).1 (h0 _ hsa)
    obtain ⟨b, hb, hin⟩ := (h.at' _ x hsa hx).1 (hall x (by omega))
    refine countTo_exact hb (decide_eq_true hin) fun c hc hin2 => ?_
    rw [decide_eq_true_eq] at hin2
    exact ha c b hc hb _ x hin2 hin
  · intro h0 s hsl
    rw [falses_zero]
    intro x hx
    by_cases he : M s = []
    · rw [he] at hx; simp at hx
    · have hl := (h.len s hsl).resolve_left he
      obtain ⟨a, hal, hae⟩ := (h.seen s hsl).1 he
      have h1 := h0 a x hal (by omega)
      obtain ⟨b, hb, hin⟩ := countTo_pos (p := fun b => decide (inC (l.getD b cl0) (l.getD a cl0).Sym x)) n (by omega)
      rw [decide_eq_true_eq, hae] at hin
      exact (h.at' s x hsl (by omega)).2 ⟨b, hb, hin⟩
theorem miss_le {n : Nat} {P : Nat → Nat → Prop} {S : Nat → Prop} {M : Nat → List Bool} (h : Inv n P S M) : miss M ≤ 256 * n := by
  have h1 : ∀ a, a < 256 → falses (M a) ≤ n := fun a ha => by
    have := falses_le (M a)
    rcases h.len a ha with h0 | h0
    · rw [h0]; simp [falses]
    · omega
  have h2 := sumTo_le (g := fun s => falses (M s)) (h := fun _ => n) 256 h1
  have h3 : ∀ k, sumTo (fun _ => n) k = k * n := fun k => by
    induction k with
    | zero => simp [sumTo]
    | succ k ih => rw [sumTo, ih, Nat.add_mul, Nat.one_mul]
  rw [h3] at h2
  exact h2
theorem WholeL.iff {l : List Cl} {R : Nat} (h1 : 1 ≤ R) (h2 : R ≤ 12) (hl : l.length = 2 ^ R) (hc : ∀ a, a < l.length → 0 ≤ (l.getD a cl0).Bits ∧ (l.getD a cl0).Bits ≤ 12 ∧ 0 ≤ (l.getD a cl0).Base ∧ (l.getD a cl0).Base ≤ (l.length : Int) - ((2 ^ (l.getD a cl0).Bits.toNat : Nat) : Int)) : WholeL l ↔ OnceL l l.length :=
  ⟨fun h => h.2.2, fun h => ⟨⟨R, h1, h2, hl⟩, hc, h⟩⟩

end Go.Proofs.Ytbopamcnlocdbaa

/- What dtab's eachOnce tells. THIS SPEAKS OF THE PROGRAM'S OWN TEXT. -/
namespace Go.Proofs.Ytbopamcnlocdbaa
open Go.RowKit

/-- rows of marks in memory -/
structure Mk (w : World) (G n : Nat) (M : Nat → List Bool) (vs : List Value) : Prop where
  row : w.heap[G]? = some (.cells vs.toArray 72 (0, 0))
  len : vs.length = 256
  at' : ∀ s, s < 256 → (M s = [] ∧ vs.getD s undef = .slice none 0 0) ∨ ∃ g, vs.getD s undef = .slice (some ⟨g, 0, none⟩) n n ∧ RowT w g 4 (M s) ∧ (M s).length = n ∧ G < g
  apart : ∀ s t g, s < 256 → t < 256 → vs.getD s undef = .slice (some ⟨g, 0, none⟩) n n → vs.getD t undef = .slice (some ⟨g, 0, none⟩) n n → s = t
theorem Mk.kept {w w' : World} {G n : Nat} {M : Nat → List Bool} {vs : List Value} (h : Mk w G n M vs) (hc : Chg (fun _ => False) w w') : Mk w' G n M vs :=
  ⟨(hc.block G (lt_of_block h.row) (by simp)).trans h.row, h.len, fun s hs => (h.at' s hs).imp id fun ⟨g, a, b, c, d⟩ => ⟨g, a, b.kept hc (by simp), c, d⟩, h.apart⟩
theorem Mk.cell {w : World} {G n : Nat} {M : Nat → List Bool} {vs : List Value} (h : Mk w G n M vs) (j : Nat) (hj : j < 256) : w.cell? ⟨G, j, none⟩ = some (vs.getD j undef) := by
  have hl : j < vs.length := by rw [h.len]; exact hj
  rw [cell_of_row w G j _ _ _ h.row, List.getElem?_toArray, List.getElem?_eq_getElem hl, List.getD_eq_getElem?_getD, List.getElem?_eq_getElem hl]; rfl
theorem Mk.free {w : World} {G n : Nat} {M : Nat → List Bool} {vs : List Value} (h : Mk w G n M vs) (k : Nat) : w.frozen? ⟨G, k, none⟩ = false := frozen_of_row w G k _ _ h.row
theorem slice_ne {g n : Nat} : (Value.slice (some ⟨g, 0, none⟩) n n) ≠ .slice none 0 0 := fun h => by simp at h
/-- a row is laid -/
theorem Mk.lay {w : World} {G n : Nat} {M : Nat → List Bool} {vs : List Value} (h : Mk w G n M vs) (s g : Nat) (r : List Bool) (hs : s < 256) (hg : G < g) (hr : RowT w g 4 r) (hl : r.length = n) (hnew : ∀ t g', t < 256 → vs.getD t undef = .slice (some ⟨g', 0, none⟩) n n → g' ≠ g) :
    Mk (w.setCell ⟨G, s, none⟩ (.slice (some ⟨g, 0, none⟩) n n)) G n (updM M s r) (vs.set s (.slice (some ⟨g, 0, none⟩) n n)) := by
  have hch := Chg.setCell w ⟨G, s, none⟩ (.slice (some ⟨g, 0, none⟩) n n)
  have hself : (vs.set s (.slice (some ⟨g, 0, none⟩) n n)).getD s undef = .slice (some ⟨g, 0, none⟩) n n := by
    rw [List.getD_eq_getElem?_getD, List.getElem?_set_self (by rw [h.len]; exact hs)]; rfl
  have hother : ∀ t, t ≠ s → (vs.set s (.slice (some ⟨g, 0, none⟩) n n)).getD t undef = vs.getD t undef := fun t ht => by
    rw [List.getD_eq_getElem?_getD, List.getElem?_set_ne (by omega), ← List.getD_eq_getElem?_getD]
  refine ⟨by rw [heap_setCell_same w G s _ _ _ h.row, List.setIfInBounds_toArray], by rw [List.length_set]; exact h.len, fun t ht => ?_, fun t u g' ht hu h1 h2 => ?_⟩
  · by_cases hts : t = s
    · rw [hts, updM_self, hself]
      exact .inr ⟨g, rfl, hr.kept hch (by simp; omega), hl, hg⟩
    · rw [updM_other _ _ hts, hother t hts]
      exact (h.at' t ht).imp id fun ⟨g', a, b, c, d⟩ => ⟨g', a, b.kept hch (by simp; omega), c, d⟩
  · by_cases hts : t = s
    · by_cases hus : u = s
      · omega
      · rw [hts, hself] at h1
        rw [hother u hus] at h2
        simp only [Value.slice.injEq, Option.some.injEq, Addr.mk.injEq, and_true] at h1
        exact absurd h1.symm (hnew u g' hu h2)
    · rw [hother t hts] at h1
      by_cases hus : u = s
      · rw [hus, hself] at h2
        simp only [Value.slice.injEq, Option.some.injEq, Addr.mk.injEq, and_true] at h2
        exact absurd h2.symm (hnew t g' ht h1)
      · rw [hother u hus] at h2
        exact h.apart t u g' ht hu h1 h2
/-- a mark is set -/
theorem Mk.mark {w : World} {G n : Nat} {M : Nat → List Bool} {vs : List Value} (h : Mk w G n M vs) (s g x : Nat) (hs : s < 256) (hv : vs.getD s undef = .slice (some ⟨g, 0, none⟩) n n) :
    Mk (w.setCell ⟨g, x, none⟩ (.bool true)) G n (updM M s ((M s).set x true)) vs := by
  have hch := Chg.setCell w ⟨g, x, none⟩ (.bool true)
  have hat : RowT w g 4 (M s) ∧ (M s).length = n ∧ G < g := by
    rcases h.at' s hs with ⟨_, h0⟩ | ⟨g', a, b, c, d⟩
    · rw [hv] at h0; exact absurd h0 slice_ne
    · rw [hv] at a
      simp only [Value.slice.injEq, Option.some.injEq, Addr.mk.injEq, and_true] at a
      subst a; exact ⟨b, c, d⟩
  obtain ⟨hr, hl, hg⟩ := hat
  refine ⟨(hch.block G (lt_of_block h.row) (by simp; omega)).trans h.row, h.len, fun t ht => ?_, h.apart⟩
  by_cases hts : t = s
  · rw [hts, updM_self]
    exact .inr ⟨g, hv, hr.set x true, by rw [List.length_set]; exact hl, hg⟩
  · rw [updM_other _ _ hts]
    refine (h.at' t ht).imp id fun ⟨g', a, b, c, d⟩ => ⟨g', a, b.kept hch ?_, c, d⟩
    intro he
    simp only [] at he
    subst he
    exact hts (h.apart t s _ ht hs a hv)

set_option maxRecDepth 100000 in
theorem zeroMarks : ∃ Z : List Value, Z = List.replicate 256 (.slice none 0 0) ∧ ∀ W : World, (zeroValue 72).run Try.prog W = .ok (.agg Z.toArray) W := ⟨_, rfl, fun W => by kernel_rfl⟩
theorem eqlBools (W : World) (a : Addr) (n c : Nat) : (binOp .eql 69 (.slice (some a) n c) (.slice none 0 0)).run Try.prog W = .ok (.bool false) W := by kernel_rfl
theorem eqlBools0 (W : World) (n c : Nat) : (binOp .eql 69 (.slice none n c) (.slice none 0 0)).run Try.prog W = .ok (.bool true) W := by kernel_rfl
theorem mk_start (w : World) (Z : List Value) (n : Nat) (hZ : Z = List.replicate 256 (.slice none 0 0)) : Mk (w.alloc (.cells Z.toArray 72)) w.heap.size n (fun _ => []) Z := by
  have hz : ∀ s, s < 256 → Z.getD s undef = .slice none 0 0 := fun s hs => by rw [hZ, List.getD_eq_getElem?_getD, List.getElem?_replicate, if_pos hs]; rfl
  refine ⟨heap_alloc_new w _, by rw [hZ]; exact List.length_replicate, fun s hs => .inl ⟨rfl, hz s hs⟩, fun s t g hs ht h1 h2 => ?_⟩
  rw [hz s hs] at h1
  exact absurd h1.symm slice_ne

theorem made_bools (w : World) (n : Nat) : RowT (w.alloc (.cells (madeCells #[.bool false] n) 4)) w.heap.size 4 (List.replicate n false) := by
  have : madeCells #[.bool false] n = (bl (List.replicate n false)).toArray := by
    apply Array.ext'
    rw [madeCells, Array.toList_map, Array.toList_range]
    refine List.ext_getElem (by simp [bl]) fun i h1 h2 => ?_
    simp [bl, Nat.mod_one]
  unfold RowT
  rw [← this]
  exact heap_alloc_new w _

set_option maxHeartbeats 1000000 in
theorem donce_any (v : Value) (l : List Cl) (n : Nat) (w : World) (h : RdC w v l) (hn : l.length = n) (h2 : 2 ≤ n) (h4 : n ≤ 4096)
    (hc : ∀ a, a < n → (l.getD a cl0).Sym < 256 ∧ 0 ≤ (l.getD a cl0).Bits ∧ (l.getD a cl0).Bits ≤ 12 ∧ 0 ≤ (l.getD a cl0).Base ∧ (l.getD a cl0).Base ≤ (n : Int) - ((2 ^ (l.getD a cl0).Bits.toNat : Nat) : Int)) (b : Bool) (hb : b = true ↔ OnceL l n) :
    Calls Try.prog 28 #[v] w fun e w' => e = .returned (.bool b) ∧ Chg (fun _ => False) w w' := by
  obtain ⟨ao, cap, rfl⟩ := h.form
  rw [hn]
  rw [hn] at h
  obtain ⟨Z, hZ, hzero⟩ := zeroMarks
  obtain ⟨ib, hib, hzb0, hzb1, hzb2⟩ := info_parts Try.infoBool
  have h0 := mk_start w Z n hZ
  have c0 := Chg.alloc (fun _ => False) w (.cells Z.toArray 72)
  obtain ⟨W0, hW0⟩ : ∃ W0, w.alloc (.cells Z.toArray 72) = W0 := ⟨_, rfl⟩
  rw [hW0] at h0 c0
  obtain ⟨G, hG⟩ : ∃ G, w.heap.size = G := ⟨_, rfl⟩
  rw [hG] at h0
  have HG := Lib.hid hG; have H := Lib.hid h; have HN := Lib.hid hn; have HCC := Lib.hid hc; have HB := Lib.hid hb
  have ST := Lib.hid (And.intro h0 c0)
  have hnI : (n : Int) ≤ 4096 := by omega
  have h2I : (2 : Int) ≤ (n : Int) := by omega
  clear h0 c0 hZ hn hc hb h h2 h4
  go_enter Try.func28, Try.ntmps28
  go_wp2
  go_step3
  go_wp2
  go_step3
  go_wp2
  clear hG
  go_loopg [4, 5, 13] n (fun gh o4 o5 o13 wr => ∃ (k : Nat) (M : Nat → List Bool) (vs : List Value), k + gh = n ∧ o13 = .int .i64 (k : Int) ∧ o4 = .int .i64 ((miss M : Nat) : Int) ∧ o5 = .bool false ∧ Mk wr G n M vs ∧ Inv n (MarkD l k) (Seen l k) M ∧ Apart l k ∧ Chg (fun _ => False) w wr)
  case atStart => exact ⟨0, fun _ => [], Z, by omega, rfl, by rw [miss_start]; rfl, rfl, ST.out.1, inv_start n l, apart_start l, ST.out.2⟩
  case round =>
    obtain ⟨k, M, vs, hkg, rfl, rfl, rfl, hmk, hinv, hap, hcw⟩ := hrel
    clear ST
    have hml := miss_le hinv
    have hmI : ((miss M : Nat) : Int) ≤ 1048576 := by omega
    cases gk with
    | zero =>
      obtain rfl : k = n := by omega
      have ho := once_iff hinv hap fun a ha => (HCC.out a ha).1
      have hbe : decide (miss M = 0) = b := by
        have h1 := HB.out
        rw [← ho] at h1
        cases b
        · exact decide_eq_false fun hh => by have := h1.2 hh; simp at this
        · exact decide_eq_true (h1.1 rfl)
      have HBE := Lib.hid hbe; have HC := Lib.hid hcw
      have hlt : ¬ (k : Int) < (k : Int) := by omega
      clear hbe ho hmk hinv hap hcw hml
      obtain ⟨m, hm⟩ : ∃ m, miss M = m := ⟨_, rfl⟩
      rw [hm] at HBE hmI ⊢
      clear hm hkg
      go_wp2
      have hbe := HBE.out
      subst hbe
      go_ret
      refine ⟨?_, HC.out⟩
      have : ((m : Int) == 0) = decide (m = 0) := by by_cases h : m = 0 <;> simp [h]
      rw [← this]; rfl
    | succ g =>
      have hk : k < n := by omega
      have hkI : (k : Int) < (n : Int) := by omega
      obtain ⟨g0, off, rfl, -⟩ := (H.out.kept hcw (by simp)).at k (by rw [HN.out]; exact hk)
      obtain ⟨a0, a1, a2⟩ := (H.out.kept hcw (by simp)).at' k (by rw [HN.out]; exact hk)
      have hck := HCC.out k hk
      obtain ⟨c, hce⟩ : ∃ c, l.getD k cl0 = c := ⟨_, rfl⟩
      rw [hce] at a0 a1 a2 hck
      obtain ⟨S, bi, ba⟩ := c
      simp only [] at a0 a1 a2 hck
      obtain ⟨hS, b0, b12, e0, e1⟩ := hck
      obtain ⟨bn, rfl⟩ : ∃ bn : Nat, bi = (bn : Int) := ⟨bi.toNat, by omega⟩
      obtain ⟨B, rfl⟩ : ∃ B : Nat, ba = (B : Int) := ⟨ba.toNat, by omega⟩
      rw [Int.toNat_natCast] at e1
      obtain ⟨D, hD⟩ : ∃ D, 2 ^ bn = D := ⟨_, rfl⟩
      have hDI : (2 : Int) ^ bn = (D : Int) := by rw [← hD]; simp
      rw [hD] at e1
      obtain ⟨W1, hW1⟩ : ∃ W1, wr.alloc (.cells #[.int .u8 (S : Int), .int .i64 (bn : Int), .int .i64 (B : Int)] 37) = W1 := ⟨_, rfl⟩
      have c1 : Chg (fun _ => False) wr W1 := by rw [← hW1]; exact Chg.alloc _ _ _
      have n1 : Cb W1 wr.heap.size ⟨S, (bn : Int), (B : Int)⟩ := by rw [← hW1]; exact heap_alloc_new _ _
      obtain ⟨x0, x1, x2⟩ := n1.cells
      simp only [] at x0 x1 x2
      have hmk1 := hmk.kept c1
      have hcw1 := hcw.trans c1 fun _ _ h => h
      have hms := hmk1.cell S hS
      obtain ⟨gx, hgx⟩ : ∃ gx, wr.heap.size = gx := ⟨_, rfl⟩
      rw [hgx] at x0 x1 x2
      have hS256 : (S : Int) < 256 := by omega
      have hDp : 0 < D := by rw [← hD]; exact Nat.two_pow_pos _
      have hBD : B + D ≤ n := by omega
      have hsym : (l.getD k cl0).Sym = S := by rw [hce]
      have hbas : (l.getD k cl0).Base = (B : Int) := by rw [hce]
      have hbit : (l.getD k cl0).Bits = (bn : Int) := by rw [hce]
      have HCE := Lib.hid (show (l.getD k cl0).Sym = S ∧ (l.getD k cl0).Base = (B : Int) ∧ 2 ^ (l.getD k cl0).Bits.toNat = D from ⟨hsym, hbas, by rw [hbit, Int.toNat_natCast]; exact hD⟩)
      have HMK := Lib.hid hmk1; have HINV := Lib.hid hinv; have HAP := Lib.hid hap; have HCW := Lib.hid hcw1; have HN1 := Lib.hid n1; have HKG := Lib.hid hkg; have HDP := Lib.hid (And.intro hDp hBD)
      have HGX := Lib.hid (show G < gx by rw [← hgx]; exact lt_of_block hmk.row)
      have HNX := Lib.hid (show gx < W1.heap.size by rw [← hgx]; exact lt_of_block n1)
      have hbnI : (bn : Int) ≤ 12 := by omega
      have hbn64 : (bn : Int) < 64 := by omega
      have hD4 : (D : Int) ≤ 4096 := by omega
      have hBI : (B : Int) ≤ 4096 := by omega
      rw [hgx] at n1
      have HN1 := Lib.hid n1
      obtain ⟨ms, hmse⟩ : ∃ ms, miss M = ms := ⟨_, rfl⟩
      rw [hmse] at hmI ⊢
      have HMS := Lib.hid hmse
      obtain ⟨vS, hvS⟩ : ∃ vS, vs.getD S undef = vS := ⟨_, rfl⟩
      rw [hvS] at hms
      have HVS := Lib.hid hvS
      have hcase := hmk1.at' S hS
      rw [hvS] at hcase
      obtain ⟨d, ⟨hdq, hdg⟩, hcase⟩ : ∃ d, ((∀ W, (binOp .eql 69 vS (.slice none 0 0)).run Try.prog W = .ok (.bool d) W) ∧ ∀ W, (eqGuard .eql 69 (.tmp 20) (.const (.slice none 0 0)) vS (.slice none 0 0)).run Try.prog W = .ok () W) ∧ ((d = true ∧ M S = [] ∧ vS = .slice none 0 0) ∨ (d = false ∧ ∃ g, vS = .slice (some ⟨g, 0, none⟩) n n ∧ M S ≠ [])) := by
        rcases hcase with ⟨h1, h2⟩ | ⟨g, h1, h2, h3, h4⟩
        · exact ⟨true, ⟨fun W => by rw [h2]; exact eqlBools0 W 0 0, fun W => by rw [h2]; kernel_rfl⟩, .inl ⟨rfl, h1, h2⟩⟩
        · exact ⟨false, ⟨fun W => by rw [h1]; exact eqlBools W _ n n, fun W => by rw [h1]; kernel_rfl⟩, .inr ⟨rfl, g, h1, fun hh => by rw [hh] at h3; simp at h3; omega⟩⟩
      have HCASE := Lib.hid hcase
      have HK := Lib.hid hk; have HSL := Lib.hid hS
      clear hmk hmk1 hinv hap hcw hcw1 c1 n1 hkg hsym hbas hbit hce hD hDp hBD hml hmse hvS hcase hS b0 b12 e0 e1
      skip
      go_upto_if 21 with fail
      go_cut [4] from 15 to 46 (fun o4 wx => ∃ (M2 : Nat → List Bool) (vs2 : List Value) (gr : Nat), o4 = .int .i64 ((miss M2 : Nat) : Int) ∧ Mk wx G n M2 vs2 ∧ Inv n (MarkDT l k 0) (Seen l (k + 1)) M2 ∧ vs2.getD S undef = .slice (some ⟨gr, 0, none⟩) n n ∧ Cb wx gx ⟨S, (bn : Int), (B : Int)⟩ ∧ Chg (fun _ => False) w wx)
      case first =>
        rcases HCASE.out with ⟨rfl, hM0, rfl⟩ | ⟨rfl, gr, rfl, hM0⟩
        · have hmkr := fun W => run_make_row (P := Try.prog) 69 4 ib (.bool false) Try.underlying69 hib hzb0 hzb1 rfl .i64 .i64 n (by rw [hzb2]; omega) (by omega) W
          obtain ⟨W2, hW2⟩ : ∃ W2, W1.alloc (.cells (madeCells #[.bool false] n) 4) = W2 := ⟨_, rfl⟩
          have c2 : Chg (fun _ => False) W1 W2 := by rw [← hW2]; exact Chg.alloc _ _ _
          have hrow : RowT W2 W1.heap.size 4 (List.replicate n false) := by rw [← hW2]; exact made_bools W1 n
          have hold : ∀ t g', t < 256 → vs.getD t undef = .slice (some ⟨g', 0, none⟩) n n → g' ≠ W1.heap.size := fun t g' ht he => by
            rcases HMK.out.at' t ht with ⟨_, h0⟩ | ⟨g2, a, b, _⟩
            · rw [he] at h0; exact absurd h0 slice_ne
            · rw [he] at a
              simp only [Value.slice.injEq, Option.some.injEq, Addr.mk.injEq, and_true] at a
              subst a
              have := b.lt; omega
          have hmk2 := HMK.out.kept c2
          have hmk3 := hmk2.lay S W1.heap.size (List.replicate n false) HSL.out (by have := HMK.out.row; exact lt_of_block this) hrow List.length_replicate hold
          have hinv3 := HINV.out.make (by omega) (by rw [HCE.out.1]; exact hM0) (by rw [HCE.out.1]; exact HSL.out)
          rw [HCE.out.1] at hinv3
          have hmi := miss_upd M S (List.replicate n false) HSL.out
          rw [hM0, falses_rep, HMS.out] at hmi
          have hvs3 : (vs.set S (.slice (some ⟨W1.heap.size, 0, none⟩) n n)).getD S undef = .slice (some ⟨W1.heap.size, 0, none⟩) n n := by
            rw [List.getD_eq_getElem?_getD, List.getElem?_set_self (by rw [HMK.out.len]; exact HSL.out)]; rfl
          have hc3 : Chg (fun _ => False) w (W2.setCell ⟨G, S, none⟩ (.slice (some ⟨W1.heap.size, 0, none⟩) n n)) := (HCW.out.trans c2 fun _ _ h => h).trans (Chg.setCell W2 ⟨G, S, none⟩ _) fun q hq he => by have := HG.out; simp only [] at he; omega
          have hcb3 : Cb (W2.setCell ⟨G, S, none⟩ (.slice (some ⟨W1.heap.size, 0, none⟩) n n)) gx ⟨S, (bn : Int), (B : Int)⟩ := (HN1.out.kept c2 (by simp)).kept (Chg.setCell W2 ⟨G, S, none⟩ _) (by have := HGX.out; simp only []; omega)
          obtain ⟨y0, -, -⟩ := (HN1.out.kept c2 (by simp)).cells
          simp only [] at y0
          have hms2 := hmk2.cell S HSL.out
          rw [HVS.out] at hms2
          have hfr2 := hmk2.free S
          obtain ⟨gr, hgr⟩ : ∃ gr, W1.heap.size = gr := ⟨_, rfl⟩
          rw [hgr] at hmk3 hvs3 hc3 hcb3
          obtain ⟨m2, hm2⟩ : ∃ m2, ms + n = m2 := ⟨_, rfl⟩
          have hm2I : (ms : Int) + (n : Int) = (m2 : Int) := by omega
          rw [hm2] at hmi
          have HE := Lib.hid (And.intro hmk3 (And.intro hinv3 (And.intro hvs3 (And.intro hcb3 (And.intro hc3 hmi)))))
          clear hmk3 hinv3 hvs3 hcb3 hc3 hmi hmk2 hrow hold c2 hM0 hm2
          go_wp2
          go_region
          go_wp2
          go_meet
          obtain ⟨hmk3, hinv3, hvs3, hcb3, hc3, hmi⟩ := HE.out
          exact ⟨updM M S (List.replicate n false), vs.set S (.slice (some ⟨gr, 0, none⟩) n n), gr, by rw [← hmi]; simp [falses], hmk3.kept (Chg.refl _ _).drew, hinv3, hvs3, hcb3.kept (S := fun _ => False) (Chg.refl _ _).drew (by simp), hc3.drew⟩
        · have HM0 := Lib.hid hM0
          clear hM0 hdq hdg
          go_wp2
          go_meet
          have hinv3 := HINV.out.has (by rw [HCE.out.1]; exact HM0.out) (by rw [HCE.out.1]; exact HSL.out)
          exact ⟨M, vs, gr, by rw [HMS.out], HMK.out, hinv3, HVS.out, HN1.out, HCW.out⟩
      case rest =>
        obtain ⟨M2, vs2, gr, rfl, hmk, hinv, hvs, hcb, hcw⟩ := hcut
        clear HMK HINV HCW HN1 HNX HMS HVS HCASE hdq hdg x0 x1 x2 hms hW1 hgx a0 a1 a2 hmI
        obtain ⟨z0, z1, z2⟩ := hcb.cells
        simp only [] at z0 z1 z2
        have hcs := hmk.cell S HSL.out
        rw [hvs] at hcs
        obtain ⟨E, hE⟩ : ∃ E, B + D = E := ⟨_, rfl⟩
        have hEI : (B : Int) + (D : Int) = (E : Int) := by omega
        have hsl : ∀ W : World, (Instr.slice 69 (.slice (some ⟨gr, 0, none⟩) n n) (some (.int .i64 (B : Int))) (some (.int .i64 (E : Int))) none).run Try.prog W = .ok (.slice (some ⟨gr, B, none⟩) D (n - B)) W := fun W => by
          have hs : ∀ W, (sizeOf (Try.prog.elem 69)).run Try.prog W = .ok 1 W := fun W => by kernel_rfl
          have h1 := HDP.out
          rw [run_slice_lh W 69 (some ⟨gr, 0, none⟩) n n (by kernel_rfl) .i64 .i64 (B : Int) (E : Int) (by omega) (by omega) (by omega), hs]
          have h3 : ¬ n = B := by omega
          have h4 : E - B = D := by omega
          simp [Result.andThen, sliced, Addr.add, h3, h4]
          intro h0; exact h0.symm
        have hwD : IntKind.i64.wrap (D : Int) = (D : Int) := by rw [IntKind.wrap_i64]; omega
        have hwE : IntKind.i64.wrap (E : Int) = (E : Int) := by rw [IntKind.wrap_i64]; have := HDP.out; omega
        have HMK := Lib.hid hmk; have HINV := Lib.hid hinv; have HVS := Lib.hid hvs; have HCW := Lib.hid hcw; have HE := Lib.hid hE
        have hml := miss_le hinv
        have hmI : ((miss M2 : Nat) : Int) ≤ 1048576 := by omega
        obtain ⟨ms, hmse⟩ : ∃ ms, miss M2 = ms := ⟨_, rfl⟩
        rw [hmse] at hmI ⊢
        have HMS := Lib.hid hmse
        clear hmk hinv hvs hcw hcb hE hml hmse
        go_wp2
        go_quiet (fail)
        go_wp2
        have hmkd := fun nq => HMK.out.kept ((Chg.refl (fun _ => False) wc).drewN nq)
        have hcwd := fun nq => HCW.out.drewN nq
        obtain ⟨wd, hwd⟩ : ∃ wd, wc.drewN nq = wd := ⟨_, rfl⟩
        have hmk := hmkd nq
        have hcw := hcwd nq
        rw [hwd] at hmk hcw
        rw [hwd]
        clear hmkd hcwd HMK HCW z0 z1 z2 hcs hsl hwd
        have ST := Lib.hid (And.intro hmk hcw)
        clear hmk hcw
        go_loopg [4, 5, 47] D (fun g2 o4 o5 o47 wy => ∃ (t : Nat) (M3 : Nat → List Bool), t + g2 = D ∧ o47 = .int .i64 (t : Int) ∧ o4 = .int .i64 ((miss M3 : Nat) : Int) ∧ o5 = .bool false ∧ Mk wy G n M3 vs2 ∧ Inv n (MarkDT l k t) (Seen l (k + 1)) M3 ∧ ApartT l k t ∧ Chg (fun _ => False) w wy)
        case atStart => exact ⟨0, M2, by omega, rfl, by rw [HMS.out], rfl, ST.out.1, HINV.out, HAP.out.zero, ST.out.2⟩
        case round =>
          obtain ⟨t, M3, htg, rfl, rfl, rfl, hmk, hinv, hap, hcw⟩ := hrel
          clear ST HINV HMS hmI
          have hml := miss_le hinv
          have hmI : ((miss M3 : Nat) : Int) ≤ 1048576 := by omega
          obtain ⟨ms3, hmse⟩ : ∃ ms3, miss M3 = ms3 := ⟨_, rfl⟩
          rw [hmse] at hmI ⊢
          have HMS := Lib.hid hmse
          cases gk with
          | zero =>
            have htD : t = D := by omega
            have hlt : decide ((t : Int) < (D : Int)) = false := decide_eq_false (by omega)
            have hltN : ¬ t < D := by omega
            have hinv2 := hinv.all (by rw [htD, HCE.out.2.2])
            have hap2 := hap.all (by rw [htD, HCE.out.2.2])
            have HALL := Lib.hid (And.intro hmk (And.intro hinv2 (And.intro hap2 hcw)))
            clear hmk hinv hap hcw hinv2 hap2 hml hmse htD htg
            go_wp2
            go_roundg g
            case measure => omega
            case rel =>
              obtain ⟨hmk, hinv2, hap2, hcw⟩ := HALL.out
              exact ⟨k + 1, M3, vs2, by have := HKG.out; omega, by go_num, by rw [HMS.out], rfl, hmk, hinv2, hap2, hcw⟩
          | succ g2 =>
            have hltI : (t : Int) < (D : Int) := by omega
            have hlt : decide ((t : Int) < (D : Int)) = true := decide_eq_true (by omega)
            have hltN : t < D := by omega
            obtain ⟨hrow, hlen⟩ : RowT wr gr 4 (M3 S) ∧ (M3 S).length = n := by
              rcases hmk.at' S HSL.out with ⟨_, h0⟩ | ⟨g', a, b, c, _⟩
              · rw [HVS.out] at h0; exact absurd h0 slice_ne
              · rw [HVS.out] at a
                simp only [Value.slice.injEq, Option.some.injEq, Addr.mk.injEq, and_true] at a
                subst a; exact ⟨b, c⟩
            obtain ⟨x, hx⟩ : ∃ x, B + t = x := ⟨_, rfl⟩
            have hxn : x < n := by have := HDP.out; omega
            have hxe : (x : Int) = (l.getD k cl0).Base + (t : Int) := by rw [HCE.out.2.1]; omega
            have hcx := hrow.cell x (by omega)
            have hfx := hrow.free x
            have hat := hinv.at' S x HSL.out hxn
            by_cases hmd : (M3 S).getD x false = true
            · have hno : ¬ OnceL l n := not_once hk hxn hxe (by rw [HCE.out.2.2]; exact hltN) (by rw [HCE.out.1]; exact hat.1 hmd)
              have hbf : b = false := by
                cases b
                · rfl
                · exact absurd (HB.out.1 rfl) hno
              subst hbf
              rw [hmd] at hcx
              have HC := Lib.hid hcw
              clear hmk hinv hap hcw hml hmse hrow hlen hxe hat hmd hno htg hxn
              go_wp2
              rw [Exit.noGoto_ret]
              go_ret
              exact ⟨rfl, HC.out⟩
            · have hmd0 : (M3 S).getD x false = false := by simpa using hmd
              rw [hmd0] at hcx
              have hmk2 := hmk.mark S gr x HSL.out HVS.out
              have hinv2 := hinv.mark (x := x) (by rw [HCE.out.1]; exact HSL.out) hxn hxe (by rw [HCE.out.1]; exact hlen)
              rw [HCE.out.1] at hinv2
              have hap2 := hap.step hxe (by rw [HCE.out.1]; exact fun hh => hmd (hat.2 hh))
              have hcw2 : Chg (fun _ => False) w (wr.setCell ⟨gr, x, none⟩ (.bool true)) := hcw.trans (Chg.setCell wr ⟨gr, x, none⟩ _) fun q hq he => by
                have h1 := HG.out
                rcases hmk.at' S HSL.out with ⟨_, h0⟩ | ⟨g', a, _, _, d⟩
                · rw [HVS.out] at h0; exact absurd h0 slice_ne
                · rw [HVS.out] at a
                  simp only [Value.slice.injEq, Option.some.injEq, Addr.mk.injEq, and_true] at a
                  simp only [] at he
                  omega
              have hmi := miss_upd M3 S ((M3 S).set x true) HSL.out
              have hf1 := falses_set (M3 S) x (by omega) hmd0
              obtain ⟨m2, hm2⟩ : ∃ m2, miss (updM M3 S ((M3 S).set x true)) = m2 := ⟨_, rfl⟩
              have hm2I : (ms3 : Int) - 1 = (m2 : Int) := by omega
              have HM2 := Lib.hid (And.intro hm2 (And.intro hmk2 (And.intro hinv2 (And.intro hap2 hcw2))))
              have HTG := Lib.hid htg
              clear hmk hinv hap hcw hml hmse hrow hlen hxe hat hmd hmd0 htg hxn hmk2 hinv2 hap2 hcw2 hmi hf1 hm2
              go_wp2
              go_roundg g2
              case measure => omega
              case rel =>
                obtain ⟨hm2, hmk2, hinv2, hap2, hcw2⟩ := HM2.out
                exact ⟨t + 1, _, by have := HTG.out; omega, by go_num, by rw [hm2], rfl, hmk2, hinv2, hap2, hcw2⟩

end Go.Proofs.Ytbopamcnlocdbaa

/- What dtab's fitted and Whole tell. THIS SPEAKS OF THE PROGRAM'S OWN TEXT. -/
namespace Go.Proofs.Ytbopamcnlocdbaa
open Go.RowKit

/-- the cell next to c that leads to none but a table's states -/
def clampI (x m : Int) : Int := if m < (if x < 0 then 0 else x) then m else (if x < 0 then 0 else x)
def fitC (c : Cl) (R : Nat) : Cl := ⟨c.Sym, clampI c.Bits (R : Int), clampI c.Base (((2 ^ R : Nat) : Int) - ((2 ^ (clampI c.Bits (R : Int)).toNat : Nat) : Int))⟩
theorem clamp_range {x m : Int} (h : 0 ≤ m) : 0 ≤ clampI x m ∧ clampI x m ≤ m := by
  unfold clampI; split <;> split at * <;> omega
theorem clamp_eq {x m : Int} (h : 0 ≤ m) : x = clampI x m ↔ 0 ≤ x ∧ x ≤ m := by
  unfold clampI; split <;> split at * <;> omega

set_option maxHeartbeats 600000 in
theorem dfitted_any (c : Cl) (R : Nat) (w : World) (h1 : 1 ≤ R) (h2 : R ≤ 12) (hf : c.fits) :
    Calls Try.prog 27 #[.agg #[.int .u8 (c.Sym : Int), .int .i64 c.Bits, .int .i64 c.Base], .int .i64 ((2 ^ R : Nat) : Int)] w fun e w' => e = .returned (.agg #[.int .u8 ((fitC c R).Sym : Int), .int .i64 (fitC c R).Bits, .int .i64 (fitC c R).Base]) ∧ Chg (fun _ => False) w w' := by
  have hfl := fun W => lfloor_w (((2 ^ R : Nat) : Int)) W (by have := pow12 h2; omega) (by have := Nat.two_pow_pos R; omega)
  rw [floor_at] at hfl
  obtain ⟨S, bi, ba⟩ := c
  unfold Cl.fits at hf
  obtain ⟨-, ⟨b0, b1⟩, ⟨a0, a1⟩⟩ := hf
  simp only [] at b0 b1 a0 a1
  unfold fitC
  simp only []
  have hR4 := pow12 h2
  have hRp := Nat.two_pow_pos R
  have hr1 := clamp_range (x := bi) (m := (R : Int)) (by omega)
  obtain ⟨nb, hnb⟩ : ∃ nb : Nat, clampI bi (R : Int) = (nb : Int) := ⟨(clampI bi (R : Int)).toNat, by omega⟩
  rw [hnb, Int.toNat_natCast]
  rw [hnb] at hr1
  have hDR : 2 ^ nb ≤ 2 ^ R := Nat.pow_le_pow_right (by decide) (by omega)
  obtain ⟨D, hD⟩ : ∃ D, 2 ^ nb = D := ⟨_, rfl⟩
  have hDI : (2 : Int) ^ nb = (D : Int) := by rw [← hD]; simp
  obtain ⟨L, hL⟩ : ∃ L, 2 ^ R = L := ⟨_, rfl⟩
  rw [hL] at hfl hR4 hRp hDR ⊢
  rw [hD] at hDR ⊢
  obtain ⟨X, hX⟩ : ∃ X : Int, (L : Int) - (D : Int) = X := ⟨_, rfl⟩
  rw [hX]
  have hr2 := clamp_range (x := ba) (m := X) (by omega)
  obtain ⟨nx, hnx⟩ : ∃ nx : Int, clampI ba X = nx := ⟨_, rfl⟩
  rw [hnx] at hr2 ⊢
  have W1e : ∃ W1, w.alloc (.cells #[.int .u8 (S : Int), .int .i64 bi, .int .i64 ba] 37) = W1 := ⟨_, rfl⟩
  obtain ⟨W1, hW1⟩ := W1e
  have c1 : Chg (fun _ => False) w W1 := by rw [← hW1]; exact Chg.alloc _ _ _
  have n1 : Cb W1 w.heap.size ⟨S, bi, ba⟩ := by rw [← hW1]; exact heap_alloc_new _ _
  obtain ⟨W2, hW2⟩ : ∃ W2, W1.alloc (.cells #[.int .u8 0, .int .i64 0, .int .i64 0] 37) = W2 := ⟨_, rfl⟩
  have c2 : Chg (fun _ => False) W1 W2 := by rw [← hW2]; exact Chg.alloc _ _ _
  have n2 : Cb W2 W1.heap.size cl0 := by rw [← hW2]; exact heap_alloc_new _ _
  have n12 := n1.kept c2 (by simp)
  obtain ⟨gx, hgx⟩ : ∃ gx, w.heap.size = gx := ⟨_, rfl⟩
  obtain ⟨gy, hgy⟩ : ∃ gy, W1.heap.size = gy := ⟨_, rfl⟩
  rw [hgx] at n12
  rw [hgy] at n2
  have hne : gx ≠ gy := by have := lt_of_block n1; omega
  obtain ⟨x0, x1, x2⟩ := n12.cells
  have hxs := fun W (hc : Chg (fun _ => False) W2 W) => (n12.kept hc (by simp)).cells
  have h3 := C3_cb n2 ⟨S, (nb : Int), nx⟩
  have hcc : Chg (fun _ => False) w (C3 W2 gy ⟨S, (nb : Int), nx⟩) := (c1.trans c2 fun _ _ h => h).trans (C3_chg W2 gy ⟨S, (nb : Int), nx⟩) fun q hq he => by have := c1.size; omega
  obtain ⟨u0, u1, u2⟩ := h3.cells
  obtain ⟨y0, y1, y2⟩ := C3_cells n2 S (nb : Int) nx
  obtain ⟨z0, z1, z2⟩ := n2.cells
  have f0 := n2.free 0
  have f1 := n2.free 1
  have f2 := n2.free 2
  unfold C3 at u0 u1 u2 hcc y2
  simp only [] at u0 u1 u2 hcc z0 z1 z2 y2 x0 x1 x2 hxs
  have HCC := Lib.hid hcc; have HFL := Lib.hid hfl
  have hz := zeroCell
  have hnbI : (nb : Int) ≤ 12 := by omega
  have hnb64 : (nb : Int) < 64 := by omega
  have hRI : (R : Int) ≤ 12 := by omega
  have hw2 : IntKind.i64.wrap (D : Int) = (D : Int) := by rw [IntKind.wrap_i64]; omega
  have hw4 : IntKind.i64.wrap ((L : Int) - (D : Int)) = (L : Int) - (D : Int) := by rw [IntKind.wrap_i64]; omega
  have hXI : 0 ≤ X ∧ X ≤ 4096 := by omega
  have hLI : (L : Int) ≤ 4096 := by omega
  unfold clampI at hnb hnx
  obtain ⟨m1, hm1⟩ : ∃ m1 : Int, (if bi < 0 then 0 else bi) = m1 := ⟨_, rfl⟩
  obtain ⟨m2, hm2⟩ : ∃ m2 : Int, (if ba < 0 then 0 else ba) = m2 := ⟨_, rfl⟩
  rw [hm1] at hnb
  rw [hm2] at hnx
  clear hcc h3 n2 n12 n1 c1 c2 hxs hr1 hr2 hDR hD hL hfl hR4 hRp h1 h2 hne
  go_enter Try.func27, Try.ntmps27
  go_wp2
  go_region_held3 (fun W => W.cell? ⟨gx, 1, none⟩ = some (.int .i64 bi)) (first | exact x1 | assumption) (first
    | (go_at_call 35; refine (HFL.out _).mono ?_; rintro e w4 ⟨rfl, rfl⟩))
  all_goals go_wp2
  all_goals go_region
  all_goals go_wp2
  all_goals refine bodyPost_ret (v := .agg #[.int .u8 (S : Int), .int .i64 (nb : Int), .int .i64 nx]) (by simp [results, Try.results27, go_sem, y0, y1, y2]; try rfl) rfl ?_
  all_goals exact ⟨rfl, HCC.out.drew.drew⟩

theorem fit_ok {c : Cl} {R : Nat} : c = fitC c R ↔ 0 ≤ c.Bits ∧ c.Bits ≤ (R : Int) ∧ 0 ≤ c.Base ∧ c.Base ≤ ((2 ^ R : Nat) : Int) - ((2 ^ c.Bits.toNat : Nat) : Int) := by
  obtain ⟨S, bi, ba⟩ := c
  unfold fitC
  simp only [Cl.mk.injEq, true_and]
  have h1 := clamp_eq (x := bi) (m := (R : Int)) (by omega)
  constructor
  · rintro ⟨e1, e2⟩
    have hb := h1.1 e1
    rw [← e1] at e2
    have hle : 2 ^ bi.toNat ≤ 2 ^ R := Nat.pow_le_pow_right (by decide) (by omega)
    have := (clamp_eq (by omega)).1 e2
    exact ⟨hb.1, hb.2, this.1, this.2⟩
  · rintro ⟨a1, a2, a3, a4⟩
    have e1 := h1.2 ⟨a1, a2⟩
    have hle : 2 ^ bi.toNat ≤ 2 ^ R := Nat.pow_le_pow_right (by decide) (by omega)
    refine ⟨e1, ?_⟩
    rw [← e1]
    exact (clamp_eq (by omega)).2 ⟨a3, a4⟩

theorem whole_fit {l : List Cl} {n R : Nat} (hn : n = 2 ^ R) (hl : l.length = n) (h : WholeL l) (a : Nat) (ha : a < n) : l.getD a cl0 = fitC (l.getD a cl0) R := by
  obtain ⟨h0, h1, h2, h3⟩ := h.2.1 a (by rw [hl]; exact ha)
  rw [hl] at h3
  refine fit_ok.2 ⟨h0, ?_, h2, by rw [← hn]; exact h3⟩
  have : 2 ^ (l.getD a cl0).Bits.toNat ≤ 2 ^ R := by omega
  have : (l.getD a cl0).Bits.toNat < R + 1 := lt_of_pow (by rw [Nat.pow_succ]; have := Nat.two_pow_pos R; omega)
  omega

set_option maxHeartbeats 1000000 in
theorem dwhole_b (v : Value) (l : List Cl) (w : World) (h : RdC w v l) (hf : ∀ c ∈ l, c.fits) (hl : l.length < 100000000000) (b : Bool) (hb : b = true ↔ WholeL l) :
    Calls Try.prog 13 #[v] w fun e w' => e = .returned (.bool b) ∧ Chg (fun _ => False) w w' := by
  obtain ⟨ao, cap, rfl⟩ := h.form
  by_cases hp : IsPow (l.length : Int)
  · have HM := Lib.hid fun W => dmany_any (l.length : Int) W true ⟨fun _ => hp, fun _ => rfl⟩
    obtain ⟨R, h1, h12, hR⟩ := hp
    have hR' : l.length = 2 ^ R := by omega
    have hR4 := pow12 h12
    have hR2 : 2 ^ 1 ≤ 2 ^ R := Nat.pow_le_pow_right (by decide) h1
    have honce := fun (w' : World) (b : Bool) hb hc h h2 h4 => donce_any (.slice ao l.length cap) l l.length w' h rfl h2 h4 hc b hb
    obtain ⟨n, hn⟩ : ∃ n, l.length = n := ⟨_, rfl⟩
    have HH := Lib.hid h; have HF := Lib.hid hf; have HB := Lib.hid hb; have HO := Lib.hid honce; have HN := Lib.hid hn
    rw [hn] at HM HO hR' ⊢
    have HR := Lib.hid (show n = 2 ^ R ∧ 2 ≤ n ∧ n ≤ 4096 ∧ 1 ≤ R ∧ R ≤ 12 from ⟨hR', by omega, by omega, h1, h12⟩)
    have hnI : (n : Int) ≤ 4096 := by omega
    clear h hf hb honce hl hn hR hR' hR4 hR2
    go_enter Try.func13, Try.ntmps13
    go_wp2_with fail
    refine (HM.out _).mono ?_
    rintro e w1 ⟨rfl, hw1⟩
    obtain rfl := hw1.symm
    clear HM
    go_wp2
    go_loopw [11] (fun o11 wr => ∃ k : Nat, k ≤ n ∧ o11 = .int .i64 (k : Int) ∧ (∀ a, a < k → l.getD a cl0 = fitC (l.getD a cl0) R) ∧ Chg (fun _ => False) w wr) (fun o11 _ => n - (intOf o11).toNat)
    case atStart => exact ⟨0, Nat.zero_le _, rfl, fun a ha => by omega, Chg.refl _ _⟩
    case round =>
      obtain ⟨k, hk, rfl, hall, hcw⟩ := hrel
      by_cases hlt : k < n
      · obtain ⟨g0, off, rfl, -⟩ := (HH.out.kept hcw (by simp)).at k (by rw [HN.out]; exact hlt)
        obtain ⟨a0, a1, a2⟩ := (HH.out.kept hcw (by simp)).at' k (by rw [HN.out]; exact hlt)
        have hfit := HF.out (l.getD k cl0) (by rw [List.getD_eq_getElem?_getD, List.getElem?_eq_getElem (by rw [HN.out]; exact hlt)]; exact List.getElem_mem _)
        have hfa := fun W => dfitted_any (l.getD k cl0) R W HR.out.2.2.2.1 HR.out.2.2.2.2 hfit
        rw [← HR.out.1] at hfa
        obtain ⟨c, hce⟩ : ∃ c, l.getD k cl0 = c := ⟨_, rfl⟩
        rw [hce] at a0 a1 a2 hfa
        obtain ⟨d, hde⟩ : ∃ d, fitC c R = d := ⟨_, rfl⟩
        rw [hde] at hfa
        have hsy : d.Sym = c.Sym := by rw [← hde]; rfl
        rw [hsy] at hfa
        have HCE := Lib.hid (And.intro hce hde)
        have hcd : c = d ↔ c.Bits = d.Bits ∧ c.Base = d.Base := by
          obtain ⟨s1, b1, e1⟩ := c
          obtain ⟨s2, b2, e2⟩ := d
          simp only [] at hsy
          subst hsy
          simp
        obtain ⟨S, bi, ba⟩ := c
        obtain ⟨S2, nb, nx⟩ := d
        simp only [] at a0 a1 a2 hfa hcd
        obtain ⟨W1, hW1⟩ : ∃ W1, wr.alloc (.cells #[.int .u8 (S : Int), .int .i64 bi, .int .i64 ba] 37) = W1 := ⟨_, rfl⟩
        have c1 : Chg (fun _ => False) wr W1 := by rw [← hW1]; exact Chg.alloc _ _ _
        have n1 : Cb W1 wr.heap.size ⟨S, bi, ba⟩ := by rw [← hW1]; exact heap_alloc_new _ _
        obtain ⟨gx, hgx⟩ : ∃ gx, wr.heap.size = gx := ⟨_, rfl⟩
        rw [hgx] at n1
        obtain ⟨x0, x1, x2⟩ := n1.cells
        simp only [] at x0 x1 x2
        have HN1 := Lib.hid n1; have HFA := Lib.hid hfa; have HALL := Lib.hid hall; have HCW := Lib.hid (hcw.trans c1 fun _ _ h => h); have HCD := Lib.hid hcd
        clear n1 hfa hall hcw c1 hfit hce hde hsy hcd
        by_cases hbi : bi = nb
        · by_cases hba : ba = nx
          · subst hbi
            subst hba
            have hS2 : (S : Int) = (S : Int) := rfl
            go_wp2
            go_region_held3 (fun W => W.cell? ⟨gx, 0, none⟩ = some (.int .u8 (S : Int)) ∧ W.cell? ⟨gx, 1, none⟩ = some (.int .i64 bi) ∧ W.cell? ⟨gx, 2, none⟩ = some (.int .i64 ba)) (first | exact ⟨x0, x1, x2⟩ | exact ⟨q0, q1, q2⟩) (first
              | (go_at_call 27; refine (HFA.out _).mono ?_; rintro e w4 ⟨rfl, hc4⟩; have hc5 := (Chg.refl (fun _ => False) W1).drew.trans hc4 fun _ _ h => h; obtain ⟨q0, q1, q2⟩ := (HN1.out.kept hc5 (by simp)).cells; simp only [] at q0 q1 q2; have HC5 := Lib.hid (HCW.out.trans hc5 fun _ _ h => h); clear hc4 hc5))
            go_wp2
            go_roundw
            case rel =>
              refine ⟨k + 1, by omega, by go_num, fun a ha => ?_, HC5.out⟩
              by_cases hak : a = k
              · rw [hak, HCE.out.1, HCE.out.2]; exact HCD.out.2 (by simp)
              · exact HALL.out a (by omega)
            case measure => simp [intOf]; omega
          · have hne : (ba == nx) = false := by simpa using hba
            have hbf : b = false := by
              cases b
              · rfl
              · have hw := HB.out.1 rfl
                have := (whole_fit HR.out.1 HN.out hw k hlt)
                rw [HCE.out.1, HCE.out.2] at this
                exact absurd (HCD.out.1 this).2 hba
            subst hbf
            subst hbi
            clear hba
            go_wp2
            go_region_held3 (fun W => W.cell? ⟨gx, 0, none⟩ = some (.int .u8 (S : Int)) ∧ W.cell? ⟨gx, 1, none⟩ = some (.int .i64 bi) ∧ W.cell? ⟨gx, 2, none⟩ = some (.int .i64 ba)) (first | exact ⟨x0, x1, x2⟩ | exact ⟨q0, q1, q2⟩) (first
              | (go_at_call 27; refine (HFA.out _).mono ?_; rintro e w4 ⟨rfl, hc4⟩; have hc5 := (Chg.refl (fun _ => False) W1).drew.trans hc4 fun _ _ h => h; obtain ⟨q0, q1, q2⟩ := (HN1.out.kept hc5 (by simp)).cells; simp only [] at q0 q1 q2; have HC5 := Lib.hid (HCW.out.trans hc5 fun _ _ h => h); clear hc4 hc5))
            go_wp2
            go_ret
            exact ⟨by first | rfl | trivial, HC5.out⟩
        · have hne : (bi == nb) = false := by simpa using hbi
          have hbf : b = false := by
            cases b
            · rfl
            · have hw := HB.out.1 rfl
              have := (whole_fit HR.out.1 HN.out hw k hlt)
              rw [HCE.out.1, HCE.out.2] at this
              exact absurd (HCD.out.1 this).1 hbi
          subst hbf
          clear hbi
          go_wp2
          go_region_held3 (fun W => W.cell? ⟨gx, 0, none⟩ = some (.int .u8 (S : Int)) ∧ W.cell? ⟨gx, 1, none⟩ = some (.int .i64 bi) ∧ W.cell? ⟨gx, 2, none⟩ = some (.int .i64 ba)) (first | exact ⟨x0, x1, x2⟩ | exact ⟨q0, q1, q2⟩) (first
            | (go_at_call 27; refine (HFA.out _).mono ?_; rintro e w4 ⟨rfl, hc4⟩; have hc5 := (Chg.refl (fun _ => False) W1).drew.trans hc4 fun _ _ h => h; obtain ⟨q0, q1, q2⟩ := (HN1.out.kept hc5 (by simp)).cells; simp only [] at q0 q1 q2; have HC5 := Lib.hid (HCW.out.trans hc5 fun _ _ h => h); clear hc4 hc5))
          go_wp2
          go_ret
          exact ⟨by first | rfl | trivial, HC5.out⟩
      · obtain rfl : k = n := by omega
        have hcells : ∀ a, a < k → 0 ≤ (l.getD a cl0).Bits ∧ (l.getD a cl0).Bits ≤ 12 ∧ 0 ≤ (l.getD a cl0).Base ∧ (l.getD a cl0).Base ≤ (k : Int) - ((2 ^ (l.getD a cl0).Bits.toNat : Nat) : Int) := fun a ha => by
          have := fit_ok.1 (hall a ha)
          rw [← HR.out.1] at this
          have h5 := HR.out.2.2.2.2
          exact ⟨this.1, by omega, this.2.2⟩
        have hwi : WholeL l ↔ OnceL l k := by
          rw [← HN.out] at hcells ⊢
          exact WholeL.iff HR.out.2.2.2.1 HR.out.2.2.2.2 (by rw [HN.out]; exact HR.out.1) hcells
        have hon := HO.out wr b (HB.out.trans hwi) (fun a ha => ⟨(HF.out (l.getD a cl0) (by rw [List.getD_eq_getElem?_getD, List.getElem?_eq_getElem (by rw [HN.out]; exact ha)]; exact List.getElem_mem _)).1, hcells a ha⟩) (by have h9 := HH.out.kept hcw (by simp); rw [HN.out] at h9; exact h9) HR.out.2.1 HR.out.2.2.1
        have HON := Lib.hid hon; have HCW := Lib.hid hcw
        clear hcells hwi hon hcw hall hk
        go_wp2_with fail
        refine HON.out.mono ?_
        rintro e w4 ⟨rfl, hc4⟩
        have HC5 := Lib.hid (HCW.out.trans hc4 fun _ _ h => h)
        clear hc4
        go_wp2
        go_ret
        exact ⟨by first | rfl | trivial, HC5.out⟩
  · have HM := Lib.hid fun W => dmany_any (l.length : Int) W false ⟨fun h => by simp at h, fun h => absurd h hp⟩
    have hbf : b = false := by
      cases b
      · rfl
      · obtain ⟨⟨R, h1, h2, h3⟩, _⟩ := hb.1 rfl
        exact absurd ⟨R, h1, h2, by omega⟩ hp
    subst hbf
    clear hb hf hp h hl
    go_enter Try.func13, Try.ntmps13
    go_wp2_with fail
    refine (HM.out _).mono ?_
    rintro e w1 ⟨rfl, hw1⟩
    obtain rfl := hw1.symm
    go_wp2
    go_ret
    exact ⟨rfl, Chg.refl _ _⟩

theorem dwhole_any (v : Value) (l : List Cl) (w : World) (h : RdC w v l) (hf : ∀ c ∈ l, c.fits) (hl : l.length < 100000000000) :
    Calls Try.prog 13 #[v] w fun e w' => ∃ b, e = .returned (.bool b) ∧ (b = true ↔ WholeL l) ∧ Chg (fun _ => False) w w' := by
  obtain ⟨b, hb⟩ : ∃ b : Bool, b = true ↔ WholeL l := by
    by_cases hw : WholeL l
    · exact ⟨true, fun _ => hw, fun _ => rfl⟩
    · exact ⟨false, fun h => by simp at h, fun h => absurd h hw⟩
  exact (dwhole_b v l w h hf hl b hb).mono fun e w' ⟨h1, h2⟩ => ⟨b, h1, hb, h2⟩

end Go.Proofs.Ytbopamcnlocdbaa

/- append(s, x...): numbers x that are read, nil or not, onto a row of numbers of the call's own. -/
namespace Go.Proofs.Ytbopamcnlocdbaa
open Go.RowKit

theorem RdI.news {w : World} {a : Addr} {n cap : Nat} {xs : List Int} (h : RdI w (.slice (some a) n cap) xs) : ∀ j u, (iw xs)[j]? = some u → w.cell? (a.add j) = some u := by
  intro j u hu
  rcases h with ⟨rfl, _⟩ | ⟨g, off, cap', he, hc⟩
  · simp [iw] at hu
  · simp only [Value.slice.injEq, Option.some.injEq] at he
    obtain ⟨rfl, rfl, rfl⟩ := he
    have hj : j < xs.length := by rw [← iw_length]; exact (List.getElem?_eq_some_iff.1 hu).1
    rw [iw_get xs j hj] at hu
    rw [← Option.some.inj hu, add_lit]
    exact hc j hj
theorem iw_one (xs : List Int) : ∀ u ∈ iw xs, u.oneCell' = true := by
  intro u hu
  simp only [iw, List.mem_map] at hu
  obtain ⟨x, _, rfl⟩ := hu
  rfl
theorem run_appendI_nil (w : World) (ty : TypeId) (base n c : Nat) (v : Value) (ys : List Value) (hown : w.ownsRow base 3 1 v n ys) :
    (Builtin.append_ #[22, 22] ty #[v, .slice none 0 c]).run Try.prog w = .ok v w := by
  obtain ⟨i, hi, hz0, hz1, hz2⟩ := info_parts Try.infoInt
  rcases hown.2 with ⟨rfl, _⟩ | ⟨g, cap, cur, rfl, _, hg, hn, _⟩
  · simp [Builtin.append_, run_underlying Try.underlying22, sizeOf, typeInfo, hi, Builtin.lenOf, Builtin.firstCells]
  · simp [Builtin.append_, run_underlying Try.underlying22, sizeOf, typeInfo, hi, Builtin.lenOf, Builtin.firstCells, hn, storeCells]

theorem wp_append_ints {o : Oper} {a : Act} {w : World} {K : Act → World → Prop} {Q : Exit → Act → World → Prop} (s x : Operand)
    (ho : o.op = .call { callee := .builtin .append, args := #[s, x], argTypes := #[22, 22] })
    (base : Nat) (v : Value) (ys : List Int) (hs : a.eval s = v) (hown : w.ownsRow base 3 1 v ys.length (iw ys))
    (u : Value) (xs : List Int) (hx : a.eval x = u) (hr : RdI w u xs) (hb : base ≤ w.heap.size) (hl : ys.length + xs.length < 100000000000)
    (h : ∀ v' w', w'.ownsRow base 3 1 v' (ys ++ xs).length (iw (ys ++ xs)) → Chg (fun k => some k = v.ownBlock) w w' → K (a.put o.dst v') w') : o.wp Try.prog a w K Q := by
  obtain ⟨i, hi, hz0, hz1, hz2⟩ := info_parts Try.infoInt
  obtain ⟨ao, cap, hu⟩ := hr.form
  subst hu
  cases ao with
  | none =>
    have h0 : xs = [] := by
      rcases hr with ⟨h0, _⟩ | ⟨g, off, cap', he, _⟩
      · exact h0
      · simp at he
    subst h0
    have hrun := run_appendI_nil w o.type base ys.length cap v (iw ys) hown
    rw [List.length_nil] at hx
    unfold Oper.wp execOp
    simp only [ho, resolve, invoke, builtin, Sem.run_bind, Sem.run_pure, Result.andThen_ok, List.map_toArray, List.map_cons, List.map_nil, hs, hx, hrun]
    exact h v w (by rw [List.append_nil]; exact hown) (Chg.refl _ _)
  | some ad =>
    refine wp_append_own w s x 22 ho base 3 i (.int .i64 0) 1 8 Try.underlying22 hi hz0 hz1 hz2 rfl (by decide) v ys.length (iw ys) hs hown ad xs.length cap (iw xs) hx (by rw [iw_length, Nat.mul_one]) (RdI.news hr) (iw_one xs) (by unfold maxLen; omega) (by omega) hb fun v' w' h2 h3 _ => ?_
    exact h v' w' (by rw [List.length_append, show iw (ys ++ xs) = iw ys ++ iw xs from by simp [iw]]; exact h2) (Chg.of_grown h3)

theorem wpList_append_ints {ops : Array Oper} {rest : List Oper} {o : Oper} {a : Act} {w : World} {Q : Exit → Act → World → Prop} (hgd : o.guard = none) (s x : Operand)
    (ho : o.op = .call { callee := .builtin .append, args := #[s, x], argTypes := #[22, 22] })
    (base : Nat) (v : Value) (ys : List Int) (hs : a.eval s = v) (hown : w.ownsRow base 3 1 v ys.length (iw ys))
    (u : Value) (xs : List Int) (hx : a.eval x = u) (hr : RdI w u xs) (hb : base ≤ w.heap.size) (hl : ys.length + xs.length < 100000000000)
    (h : ∀ v' w', w'.ownsRow base 3 1 v' (ys ++ xs).length (iw (ys ++ xs)) → Chg (fun k => some k = v.ownBlock) w w' → wpList Try.prog ops Q rest (a.put o.dst v') w') :
    wpList Try.prog ops Q (o :: rest) a w :=
  wpList_plain hgd fun _ hK => wp_append_ints s x ho base v ys hs hown u xs hx hr hb hl fun v' w' h2 h3 => hK _ _ (h v' w' h2 h3)

/-- numbers that the call has laid -/
theorem rdi_new (w : World) (xs : List Int) (cs : Array Value) (n : Nat) (fr : Nat × Nat) (h : cs.toList = iw xs) (hn : n = xs.length) : RdI (w.alloc (.cells cs 3 fr)) (.slice (some ⟨w.heap.size, 0, none⟩) n n) xs := by
  subst hn
  refine .inr ⟨w.heap.size, 0, xs.length, rfl, fun j hj => ?_⟩
  rw [cell_of_row _ _ _ _ _ _ (heap_alloc_new w _), Nat.zero_add, ← Array.getElem?_toList, h, iw_get xs j hj]

theorem RdI.of_own {w : World} {base : Nat} {v : Value} {n : Nat} {xs : List Int} (h : w.ownsRow base 3 1 v n (iw xs)) : RdI w v xs := by
  have hl := h.1
  rw [iw_length] at hl
  rcases h.2 with ⟨rfl, rfl⟩ | ⟨g, cap, cur, rfl, _⟩
  · exact .inl ⟨List.eq_nil_of_length_eq_zero (by omega), none, 0, rfl⟩
  · refine .inr ⟨g, 0, cap, by simp [hl], fun j hj => ?_⟩
    rw [Nat.zero_add, h.cellAt j (by omega), iw_get xs j hj]

/-- nil is a row of no numbers -/
theorem nil_owns (w : World) (base : Nat) : w.ownsRow base 3 1 (.slice none 0 0) ([] : List Int).length (iw []) := ⟨rfl, .inl ⟨rfl, rfl⟩⟩

end Go.Proofs.Ytbopamcnlocdbaa

/- append(s, x...): cells x that are read, onto a row of cells of the call's own; cells that may be written. -/
namespace Go.Proofs.Ytbopamcnlocdbaa
open Go.RowKit

theorem RdC.news {w : World} {a : Addr} {n cap : Nat} {xs : List Cl} (h : RdC w (.slice (some a) n cap) xs) : ∀ j u, (cvs xs)[j]? = some u → w.cell? (a.add j) = some u := by
  intro j u hu
  rcases h with ⟨rfl, _⟩ | ⟨g, off, cap', he, hc⟩
  · simp [cvs] at hu
  · simp only [Value.slice.injEq, Option.some.injEq] at he
    obtain ⟨rfl, rfl, rfl⟩ := he
    have hj : j < xs.length * 3 := by rw [← cvs_length]; exact (List.getElem?_eq_some_iff.1 hu).1
    obtain ⟨i, r, hr, rfl⟩ : ∃ i r, r < 3 ∧ j = i * 3 + r := ⟨j / 3, j % 3, Nat.mod_lt _ (by decide), by omega⟩
    have hg := cvs_get xs i (by omega)
    have hcc := hc i (by omega)
    rw [add_lit]
    obtain rfl | rfl | rfl : r = 0 ∨ r = 1 ∨ r = 2 := by omega
    · have := hg.1; rw [Nat.add_zero] at hu ⊢; rw [this] at hu; rw [← Option.some.inj hu]; exact hcc.1
    · rw [hg.2.1] at hu; rw [← Option.some.inj hu, ← Nat.add_assoc]; exact hcc.2.1
    · rw [hg.2.2] at hu; rw [← Option.some.inj hu, ← Nat.add_assoc]; exact hcc.2.2
theorem cvs_one (xs : List Cl) : ∀ u ∈ cvs xs, u.oneCell' = true := by
  intro u hu
  simp only [cvs, List.mem_flatMap, cv] at hu
  obtain ⟨x, _, hx⟩ := hu
  simp at hx
  rcases hx with rfl | rfl | rfl <;> rfl
theorem run_appendC_nil (w : World) (ty : TypeId) (base n c : Nat) (v : Value) (ys : List Value) (hown : w.ownsRow base 37 3 v n ys) :
    (Builtin.append_ #[25, 25] ty #[v, .slice none 0 c]).run Try.prog w = .ok v w := by
  obtain ⟨i, hi, hz0, hz1, hz2⟩ := info_parts Try.infoCell
  rcases hown.2 with ⟨rfl, _⟩ | ⟨g, cap, cur, rfl, _, hg, hn, _⟩
  · simp [Builtin.append_, run_underlying Try.underlying25, sizeOf, typeInfo, hi, Builtin.lenOf, Builtin.firstCells]
  · simp [Builtin.append_, run_underlying Try.underlying25, sizeOf, typeInfo, hi, Builtin.lenOf, Builtin.firstCells, hn, storeCells]

theorem wp_append_cells {o : Oper} {a : Act} {w : World} {K : Act → World → Prop} {Q : Exit → Act → World → Prop} (s x : Operand)
    (ho : o.op = .call { callee := .builtin .append, args := #[s, x], argTypes := #[25, 25] })
    (base : Nat) (v : Value) (ys : List Cl) (hs : a.eval s = v) (hown : w.ownsRow base 37 3 v ys.length (cvs ys))
    (u : Value) (xs : List Cl) (hx : a.eval x = u) (hr : RdC w u xs) (hb : base ≤ w.heap.size) (hl : ys.length + xs.length < 10000000000)
    (h : ∀ v' w', w'.ownsRow base 37 3 v' (ys ++ xs).length (cvs (ys ++ xs)) → Chg (fun k => some k = v.ownBlock) w w' → K (a.put o.dst v') w') : o.wp Try.prog a w K Q := by
  obtain ⟨i, hi, hz0, hz1, hz2⟩ := info_parts Try.infoCell
  obtain ⟨ao, cap, hu⟩ := hr.form
  subst hu
  cases ao with
  | none =>
    have h0 : xs = [] := by
      rcases hr with ⟨h0, _⟩ | ⟨g, off, cap', he, _⟩
      · exact h0
      · simp at he
    subst h0
    have hrun := run_appendC_nil w o.type base ys.length cap v (cvs ys) hown
    rw [List.length_nil] at hx
    unfold Oper.wp execOp
    simp only [ho, resolve, invoke, builtin, Sem.run_bind, Sem.run_pure, Result.andThen_ok, List.map_toArray, List.map_cons, List.map_nil, hs, hx, hrun]
    exact h v w (by rw [List.append_nil]; exact hown) (Chg.refl _ _)
  | some ad =>
    refine wp_append_own w s x 25 ho base 37 i (.agg #[.int .u8 0, .int .i64 0, .int .i64 0]) 3 24 Try.underlying25 hi hz0 hz1 hz2 rfl (by decide) v ys.length (cvs ys) hs hown ad xs.length cap (cvs xs) hx (by rw [cvs_length]) (RdC.news hr) (cvs_one xs) (by unfold maxLen; omega) (by omega) hb fun v' w' h2 h3 _ => ?_
    exact h v' w' (by rw [List.length_append, cvs_append]; exact h2) (Chg.of_grown h3)

theorem wpList_append_cells {ops : Array Oper} {rest : List Oper} {o : Oper} {a : Act} {w : World} {Q : Exit → Act → World → Prop} (hgd : o.guard = none) (s x : Operand)
    (ho : o.op = .call { callee := .builtin .append, args := #[s, x], argTypes := #[25, 25] })
    (base : Nat) (v : Value) (ys : List Cl) (hs : a.eval s = v) (hown : w.ownsRow base 37 3 v ys.length (cvs ys))
    (u : Value) (xs : List Cl) (hx : a.eval x = u) (hr : RdC w u xs) (hb : base ≤ w.heap.size) (hl : ys.length + xs.length < 10000000000)
    (h : ∀ v' w', w'.ownsRow base 37 3 v' (ys ++ xs).length (cvs (ys ++ xs)) → Chg (fun k => some k = v.ownBlock) w w' → wpList Try.prog ops Q rest (a.put o.dst v') w') :
    wpList Try.prog ops Q (o :: rest) a w :=
  wpList_plain hgd fun _ hK => wp_append_cells s x ho base v ys hs hown u xs hx hr hb hl fun v' w' h2 h3 => hK _ _ (h v' w' h2 h3)

/-- The value v is a slice of the cells l, in memory from block base on, that may be written. -/
def OwnC (w : World) (base : Nat) (v : Value) (l : List Cl) : Prop :=
  ∃ g off cap, v = .slice (some ⟨g, off, none⟩) l.length cap ∧ base ≤ g ∧ g < w.heap.size ∧ (∀ j, j < l.length →
    w.cell? ⟨g, off + j * 3, none⟩ = some (.int .u8 ((l.getD j cl0).Sym : Int)) ∧ w.cell? ⟨g, off + j * 3 + 1, none⟩ = some (.int .i64 (l.getD j cl0).Bits) ∧ w.cell? ⟨g, off + j * 3 + 2, none⟩ = some (.int .i64 (l.getD j cl0).Base)) ∧ ∀ j, w.frozen? ⟨g, off + j, none⟩ = false
theorem OwnC.rd {w : World} {base : Nat} {v : Value} {l : List Cl} (h : OwnC w base v l) : RdC w v l := by
  obtain ⟨g, off, cap, rfl, _, _, hc, _⟩ := h
  exact .inr ⟨g, off, cap, rfl, hc⟩
theorem OwnC.kept {S : Nat → Prop} {w w' : World} {base : Nat} {v : Value} {l : List Cl} (h : OwnC w base v l) (hc : Chg S w w') (hS : ∀ k, v.ownBlock = some k → ¬ S k) : OwnC w' base v l := by
  obtain ⟨g, off, cap, rfl, hb, hl, hcell, hf⟩ := h
  have hblk := hc.block g hl (hS g rfl)
  refine ⟨g, off, cap, rfl, hb, Nat.lt_of_lt_of_le hl hc.size, fun j hj => ?_, fun j => ?_⟩
  · rw [World.cell?_of_block (w := w) (a := ⟨g, off + j * 3, none⟩) hblk, World.cell?_of_block (w := w) (a := ⟨g, off + j * 3 + 1, none⟩) hblk, World.cell?_of_block (w := w) (a := ⟨g, off + j * 3 + 2, none⟩) hblk]; exact hcell j hj
  · have := hf j
    unfold World.frozen? at this ⊢
    simp only [hblk]; exact this
theorem OwnC.of_own {w : World} {base : Nat} {v : Value} {l : List Cl} (h : w.ownsRow base 37 3 v l.length (cvs l)) (h0 : 0 < l.length) : OwnC w base v l := by
  rcases h.2 with ⟨rfl, h1⟩ | ⟨g, cap, cur, rfl, hb, hg, h3⟩
  · omega
  · refine ⟨g, 0, cap, rfl, hb, lt_of_block hg, fun j hj => ?_, fun j => frozen_of_row w g _ _ _ hg⟩
    have hh := cvs_get l j hj
    rw [Nat.zero_add, h.cellAt (j * 3) (by omega), h.cellAt (j * 3 + 1) (by omega), h.cellAt (j * 3 + 2) (by omega)]
    exact hh
theorem getD_setC (l : List Cl) (i j : Nat) (c : Cl) (hi : i < l.length) : (l.set i c).getD j cl0 = if i = j then c else l.getD j cl0 := by
  by_cases h : i = j
  · subst h; rw [if_pos rfl, getD_set_self hi]
  · rw [if_neg h, getD_set_other h]
theorem OwnC.storeBase {w : World} {base g off n cap : Nat} {l : List Cl} (h : OwnC w base (.slice (some ⟨g, off, none⟩) n cap) l) (i : Nat) (hi : i < l.length) (z : Int) :
    OwnC (w.setCell ⟨g, off + i * 3 + 2, none⟩ (.int .i64 z)) base (.slice (some ⟨g, off, none⟩) n cap) (l.set i ⟨(l.getD i cl0).Sym, (l.getD i cl0).Bits, z⟩) := by
  obtain ⟨g', off', cap', he, hb, hl, hcell, hf⟩ := h
  simp only [Value.slice.injEq, Option.some.injEq, Addr.mk.injEq] at he
  obtain ⟨⟨rfl, rfl, -⟩, rfl, rfl⟩ := he
  refine ⟨g, off, cap, by simp, hb, by simpa [World.setCell] using hl, fun j hj => ?_, fun j => ?_⟩
  · rw [List.length_set] at hj
    have hcj := hcell j hj
    rw [getD_setC _ _ _ _ hi, World.cell?_setCell_other _ _ _ _ (fun hh => by simp only [Addr.mk.injEq] at hh; omega), World.cell?_setCell_other _ _ _ _ (fun hh => by simp only [Addr.mk.injEq] at hh; omega)]
    by_cases hij : i = j
    · subst hij
      rw [if_pos rfl, World.cell?_setCell_same _ _ _ hcj.2.2]
      exact ⟨hcj.1, hcj.2.1, rfl⟩
    · rw [if_neg hij, World.cell?_setCell_other _ _ _ _ (fun hh => by simp only [Addr.mk.injEq] at hh; omega)]
      exact hcj
  · rw [World.frozen?_setCell]; exact hf j
theorem OwnC.storeBits {w : World} {base g off n cap : Nat} {l : List Cl} (h : OwnC w base (.slice (some ⟨g, off, none⟩) n cap) l) (i : Nat) (hi : i < l.length) (z : Int) :
    OwnC (w.setCell ⟨g, off + i * 3 + 1, none⟩ (.int .i64 z)) base (.slice (some ⟨g, off, none⟩) n cap) (l.set i ⟨(l.getD i cl0).Sym, z, (l.getD i cl0).Base⟩) := by
  obtain ⟨g', off', cap', he, hb, hl, hcell, hf⟩ := h
  simp only [Value.slice.injEq, Option.some.injEq, Addr.mk.injEq] at he
  obtain ⟨⟨rfl, rfl, -⟩, rfl, rfl⟩ := he
  refine ⟨g, off, cap, by simp, hb, by simpa [World.setCell] using hl, fun j hj => ?_, fun j => ?_⟩
  · rw [List.length_set] at hj
    have hcj := hcell j hj
    rw [getD_setC _ _ _ _ hi, World.cell?_setCell_other _ _ _ _ (fun hh => by simp only [Addr.mk.injEq] at hh; omega), World.cell?_setCell_other (a := ⟨g, off + i * 3 + 1, none⟩) (b := ⟨g, off + j * 3 + 2, none⟩) _ _ (fun hh => by simp only [Addr.mk.injEq] at hh; omega)]
    by_cases hij : i = j
    · subst hij
      rw [if_pos rfl, World.cell?_setCell_same _ _ _ hcj.2.1]
      exact ⟨hcj.1, rfl, hcj.2.2⟩
    · rw [if_neg hij, World.cell?_setCell_other _ _ _ _ (fun hh => by simp only [Addr.mk.injEq] at hh; omega)]
      exact hcj
  · rw [World.frozen?_setCell]; exact hf j

end Go.Proofs.Ytbopamcnlocdbaa

/- Plain: heaps, as container/heap keeps them (a row; who stands at k stands behind who stands at (k - 1) / 2). -/
namespace Go.Proofs.Ytbopamcnlocdbaa
open Go

structure TotalOrd {α : Type} (le : α → α → Prop) : Prop where
  total : ∀ a b, le a b ∨ le b a
  trans : ∀ {a b c}, le a b → le b c → le a c

theorem TotalOrd.refl {α : Type} {le : α → α → Prop} (o : TotalOrd le) (a : α) : le a a := (o.total a a).elim id id

section
variable {α : Type} [Inhabited α]

/-- two have changed places -/
def swp (l : List α) (i j : Nat) : List α := (l.set i (l.getD j default)).set j (l.getD i default)
theorem swp_length (l : List α) (i j : Nat) : (swp l i j).length = l.length := by simp [swp]
theorem aset_getD (l : List α) (i k : Nat) (x : α) (hi : i < l.length) : (l.set i x).getD k default = if i = k then x else l.getD k default := by
  by_cases h : i = k
  · subst h; rw [if_pos rfl, List.getD_eq_getElem?_getD, List.getElem?_set_self hi]; rfl
  · rw [if_neg h, List.getD_eq_getElem?_getD, List.getElem?_set_ne h, ← List.getD_eq_getElem?_getD]
theorem swp_getD (l : List α) (i j k : Nat) (hi : i < l.length) (hj : j < l.length) : (swp l i j).getD k default = if j = k then l.getD i default else if i = k then l.getD j default else l.getD k default := by
  unfold swp
  rw [aset_getD _ _ _ _ (by simpa using hj), aset_getD _ _ _ _ hi]
theorem swp_perm (l : List α) (i j : Nat) (hi : i < l.length) (hj : j < l.length) : (swp l i j).Perm l := by
  classical
  rw [List.perm_iff_count]
  intro a
  have hp : l[i] ∈ l := List.getElem_mem hi
  have hgi : l.getD i default = l[i] := by rw [List.getD_eq_getElem?_getD, List.getElem?_eq_getElem hi]; rfl
  have hgj : l.getD j default = l[j] := by rw [List.getD_eq_getElem?_getD, List.getElem?_eq_getElem hj]; rfl
  have hs : swp l i j = (l.set i l[j]).set j l[i] := by unfold swp; rw [hgi, hgj]
  rw [hs, List.count_set (h := by simpa using hj), List.count_set (h := hi), List.getElem_set]
  by_cases hij : i = j
  · subst hij
    rw [if_pos rfl]
    have hc : (if (l[i] == a) = true then 1 else 0) ≤ l.count a := by
      split
      · next h => rw [List.one_le_count_iff]; have := LawfulBEq.eq_of_beq h; rw [← this]; exact hp
      · omega
    omega
  · rw [if_neg hij]
    have hc : (if (l[i] == a) = true then 1 else 0) ≤ l.count a := by
      split
      · next h => rw [List.one_le_count_iff]; have := LawfulBEq.eq_of_beq h; rw [← this]; exact hp
      · omega
    have hc2 : (if (l[j] == a) = true then 1 else 0) ≤ l.count a := by
      split
      · next h => rw [List.one_le_count_iff]; have := LawfulBEq.eq_of_beq h; rw [← this]; exact List.getElem_mem hj
      · omega
    omega

/-- the first n are a heap -/
def Heap (le : α → α → Prop) (l : List α) (n : Nat) : Prop := ∀ k, 0 < k → k < n → le (l.getD ((k - 1) / 2) default) (l.getD k default)

theorem Heap.least {le : α → α → Prop} (o : TotalOrd le) {l : List α} {n : Nat} (h : Heap le l n) : ∀ k, k < n → le (l.getD 0 default) (l.getD k default) := by
  intro k
  induction k using Nat.strongRecOn with
  | ind k ih =>
    intro hk
    by_cases h0 : k = 0
    · subst h0; exact o.refl _
    · exact o.trans (ih ((k - 1) / 2) (by omega) (by omega)) (h k (by omega) hk)

/-- a heap, but for who stands at j, that may stand too far behind -/
structure UpInv (le : α → α → Prop) (l : List α) (n j : Nat) : Prop where
  lt : j < n
  rest : ∀ k, 0 < k → k < n → k ≠ j → le (l.getD ((k - 1) / 2) default) (l.getD k default)
  over : ∀ k, 0 < k → k < n → (k - 1) / 2 = j → 0 < j → le (l.getD ((j - 1) / 2) default) (l.getD k default)

theorem UpInv.done {le : α → α → Prop} {l : List α} {n j : Nat} (h : UpInv le l n j) (hd : j = 0 ∨ le (l.getD ((j - 1) / 2) default) (l.getD j default)) : Heap le l n := by
  intro k h0 hk
  by_cases hkj : k = j
  · subst hkj
    rcases hd with hd | hd
    · omega
    · exact hd
  · exact h.rest k h0 hk hkj

theorem UpInv.step {le : α → α → Prop} (o : TotalOrd le) {l : List α} {n j : Nat} (hn : n ≤ l.length) (h : UpInv le l n j) (hj : 0 < j) (hl : ¬ le (l.getD ((j - 1) / 2) default) (l.getD j default)) : UpInv le (swp l ((j - 1) / 2) j) n ((j - 1) / 2) := by
  have hlt := h.lt
  obtain ⟨i, hi⟩ : ∃ i, (j - 1) / 2 = i := ⟨_, rfl⟩
  rw [hi] at hl ⊢
  have hij : i < j := by omega
  have hji : le (l.getD j default) (l.getD i default) := (o.total _ _).resolve_left hl
  have g := fun k => swp_getD l i j k (by omega) (by omega)
  refine ⟨by omega, fun k h0 hk hki => ?_, fun k h0 hk hpk hi0 => ?_⟩
  · rw [g, g]
    by_cases hkj : j = k
    · subst hkj
      rw [if_neg (show ¬ j = (j - 1) / 2 by omega), if_pos hi.symm, if_pos rfl]
      exact hji
    · rw [if_neg hkj, if_neg (show ¬ i = k from fun hh => hki hh.symm)]
      by_cases hp1 : j = (k - 1) / 2
      · rw [if_pos hp1]
        have := h.over k h0 hk hp1.symm hj
        rw [hi] at this
        exact this
      · rw [if_neg hp1]
        by_cases hp2 : i = (k - 1) / 2
        · rw [if_pos hp2]
          have := h.rest k h0 hk (fun hh => hkj hh.symm)
          rw [← hp2] at this
          exact o.trans hji this
        · rw [if_neg hp2]
          exact h.rest k h0 hk (fun hh => hkj hh.symm)
  · rw [g, g]
    have hpi : le (l.getD ((i - 1) / 2) default) (l.getD i default) := h.rest i hi0 (by omega) (by omega)
    rw [if_neg (show ¬ j = (i - 1) / 2 by omega), if_neg (show ¬ i = (i - 1) / 2 by omega)]
    by_cases hkj : j = k
    · rw [if_pos hkj]; exact hpi
    · rw [if_neg hkj, if_neg (show ¬ i = k by omega)]
      have := h.rest k h0 hk (fun hh => hkj hh.symm)
      rw [hpk] at this
      exact o.trans hpi this

/-- the first n are a heap, as far as those go whose parents stand at lo or behind -/
def HeapFrom (le : α → α → Prop) (l : List α) (n lo : Nat) : Prop := ∀ k, 0 < k → k < n → lo ≤ (k - 1) / 2 → le (l.getD ((k - 1) / 2) default) (l.getD k default)
theorem HeapFrom.heap {le : α → α → Prop} {l : List α} {n : Nat} (h : HeapFrom le l n 0) : Heap le l n := fun k h0 hk => h k h0 hk (Nat.zero_le _)
theorem Heap.all {le : α → α → Prop} {l : List α} {n : Nat} (h : Heap le l n) : HeapFrom le l n 0 := fun k h0 hk _ => h k h0 hk

/-- a heap (from lo on), but for who stands at i, that may stand too far ahead -/
structure DownInv (le : α → α → Prop) (l : List α) (n lo i : Nat) : Prop where
  ge : lo ≤ i
  rest : ∀ k, 0 < k → k < n → lo ≤ (k - 1) / 2 → (k - 1) / 2 ≠ i → le (l.getD ((k - 1) / 2) default) (l.getD k default)
  over : ∀ k, 0 < k → k < n → (k - 1) / 2 = i → 0 < i → lo ≤ (i - 1) / 2 → le (l.getD ((i - 1) / 2) default) (l.getD k default)

theorem DownInv.done {le : α → α → Prop} {l : List α} {n lo i : Nat} (h : DownInv le l n lo i) (hd : ∀ k, 0 < k → k < n → (k - 1) / 2 = i → le (l.getD i default) (l.getD k default)) : HeapFrom le l n lo := by
  intro k h0 hk hlo
  by_cases hp : (k - 1) / 2 = i
  · rw [hp]; exact hd k h0 hk hp
  · exact h.rest k h0 hk hlo hp

theorem DownInv.step {le : α → α → Prop} (o : TotalOrd le) {l : List α} {n lo i j : Nat} (hn : n ≤ l.length) (h : DownInv le l n lo i) (hj0 : 0 < j) (hjn : j < n) (hpj : (j - 1) / 2 = i)
    (hmin : ∀ k, 0 < k → k < n → (k - 1) / 2 = i → le (l.getD j default) (l.getD k default)) (hji : le (l.getD j default) (l.getD i default)) : DownInv le (swp l i j) n lo j := by
  have hij : i < j := by omega
  have hge := h.ge
  have g := fun k => swp_getD l i j k (by omega) (by omega)
  refine ⟨by omega, fun k h0 hk hlo hpk => ?_, fun k h0 hk hpk hj hlo => ?_⟩
  · rw [g, g]
    rw [if_neg (show ¬ j = (k - 1) / 2 from fun hh => hpk hh.symm)]
    by_cases hpi : i = (k - 1) / 2
    · rw [if_pos hpi]
      by_cases hkj : j = k
      · rw [if_pos hkj]; exact hji
      · rw [if_neg hkj, if_neg (show ¬ i = k by omega)]
        exact hmin k h0 hk hpi.symm
    · rw [if_neg hpi, if_neg (show ¬ j = k by omega)]
      by_cases hki : i = k
      · subst hki
        rw [if_pos rfl]
        exact h.over j hj0 hjn hpj h0 hlo
      · rw [if_neg hki]
        exact h.rest k h0 hk hlo (fun hh => hpi hh.symm)
  · rw [g, g]
    rw [if_neg (show ¬ j = (j - 1) / 2 by omega), if_pos hpj.symm, if_neg (show ¬ j = k by omega), if_neg (show ¬ i = k by omega)]
    have := h.rest k h0 hk (by omega) (by omega)
    rw [hpk] at this
    exact this

theorem DownInv.start {le : α → α → Prop} {l : List α} {n i : Nat} (h : HeapFrom le l n (i + 1)) : DownInv le l n i i :=
  ⟨Nat.le_refl _, fun k h0 hk hlo hne => h k h0 hk (by omega), fun k h0 hk hp hi hlo => by omega⟩

/-- a heap, one behind it: it may stand too far behind -/
theorem UpInv.pushed {le : α → α → Prop} {l : List α} (h : Heap le l l.length) (x : α) : UpInv le (l ++ [x]) (l.length + 1) l.length := by
  have g : ∀ k, k < l.length → (l ++ [x]).getD k default = l.getD k default := fun k hk => by
    rw [List.getD_eq_getElem?_getD, List.getElem?_append_left hk, ← List.getD_eq_getElem?_getD]
  refine ⟨by omega, fun k h0 hk hkl => ?_, fun k h0 hk hp _ => by omega⟩
  rw [g k (by omega), g ((k - 1) / 2) (by omega)]
  exact h k h0 (by omega)

/-- the last one put first: it may stand too far ahead -/
theorem DownInv.popped {le : α → α → Prop} {l : List α} {n : Nat} (hl : l.length = n + 1) (h : Heap le l (n + 1)) : DownInv le (swp l 0 n) n 0 0 := by
  have g := fun k => swp_getD l 0 n k (by omega) (by omega)
  refine ⟨Nat.le_refl _, fun k h0 hk _ hp => ?_, fun k h0 hk hp hh => by omega⟩
  rw [g, g, if_neg (show ¬ n = (k - 1) / 2 by omega), if_neg (show ¬ 0 = (k - 1) / 2 by omega), if_neg (show ¬ n = k by omega), if_neg (show ¬ 0 = k by omega)]
  exact h k h0 (by omega)

/-- who stands first was changed: it may stand too far ahead -/
theorem DownInv.changed0 {le : α → α → Prop} {l : List α} {n : Nat} (x : α) (hi : 0 < l.length) (h : Heap le l n) : DownInv le (l.set 0 x) n 0 0 := by
  have g := fun k => aset_getD l 0 k x hi
  refine ⟨Nat.le_refl _, fun k h0 hk _ hp => ?_, fun k h0 hk hp h0i _ => by omega⟩
  rw [g, g, if_neg (show ¬ 0 = k by omega), if_neg (fun hh => hp hh.symm)]
  exact h k h0 hk

theorem UpInv.of_heap {le : α → α → Prop} {l : List α} {n : Nat} (h : Heap le l n) (h0 : 0 < n) : UpInv le l n 0 := ⟨h0, fun k h0 hk _ => h k h0 hk, fun k _ _ _ h => by omega⟩

theorem HeapFrom.leaves {le : α → α → Prop} {l : List α} {n lo : Nat} (h : n ≤ 2 * lo + 1) : HeapFrom le l n lo := fun k h0 hk hlo => by omega

/-- the last one apart -/
theorem last_apart (l : List α) (n : Nat) (h : l.length = n + 1) : l = l.take n ++ [l.getD n default] := by
  rw [List.getD_eq_getElem?_getD, List.getElem?_eq_getElem (by omega)]
  have := List.take_append_getElem (l := l) (i := n) (by omega)
  simp only [Option.getD_some]
  rw [this, List.take_of_length_le (by omega)]

theorem Heap.take {le : α → α → Prop} {l : List α} {n : Nat} (h : Heap le l n) (hn : n ≤ l.length) : Heap le (l.take n) (l.take n).length := by
  have g : ∀ k, k < n → (l.take n).getD k default = l.getD k default := fun k hk => by
    rw [List.getD_eq_getElem?_getD, List.getElem?_take_of_lt hk, ← List.getD_eq_getElem?_getD]
  intro k h0 hk
  rw [List.length_take, Nat.min_eq_left hn] at hk
  rw [g k hk, g _ (by omega)]
  exact h k h0 hk

theorem Heap.least_mem {le : α → α → Prop} (o : TotalOrd le) {l : List α} (h : Heap le l l.length) {y : α} (hy : y ∈ l) : le (l.getD 0 default) y := by
  obtain ⟨k, hk, rfl⟩ := List.getElem_of_mem hy
  have := h.least o k hk
  rw [List.getD_eq_getElem?_getD (l := l) (i := k), List.getElem?_eq_getElem hk] at this
  exact this

end

/-- no less: what a heap keeps -/
def noLess {α : Type} (lt : α → α → Bool) (a b : α) : Prop := lt b a = false
theorem noLess_of {α : Type} {lt : α → α → Bool} (o : TotalOrd (noLess lt)) {a b : α} (h : lt a b = true) : noLess lt a b := by
  rcases o.total b a with h1 | h1
  · unfold noLess at h1; rw [h] at h1; cases h1
  · exact h1

end Go.Proofs.Ytbopamcnlocdbaa

/- What container/heap's up, down, Init, Push, Pop and Fix do with one type's heap (hpB), whatever it holds. -/
namespace Go.Proofs.Ytbopamcnlocdbaa
open Go.RowKit

/-- The value p is a heap's receiver: R tells what the heap holds; val, an item as a value; lt, who is less; only blocks of S turn. -/
structure HpB {α : Type} [Inhabited α] (p : Value) (R : World → List α → Prop) (lt : α → α → Bool) (S : Nat → Prop) : Prop where
  len : ∀ w l, R w l → ∃ r, (method 211 59 p "Len").run Try.prog w = .ok (31, r) w ∧
    Calls Try.prog 31 #[r] w fun e w' => e = .returned (.int .i64 ((l.length : Nat) : Int)) ∧ R w' l ∧ Chg S w w'
  less : ∀ w l, R w l → ∃ r, (method 211 59 p "Less").run Try.prog w = .ok (70, r) w ∧ ∀ i j : Nat, i < l.length → j < l.length →
    Calls Try.prog 70 #[r, .int .i64 (i : Int), .int .i64 (j : Int)] w fun e w' => e = .returned (.bool (lt (l.getD i default) (l.getD j default))) ∧ R w' l ∧ Chg S w w'
  swap : ∀ w l, R w l → ∃ r, (method 211 59 p "Swap").run Try.prog w = .ok (73, r) w ∧ ∀ i j : Nat, i < l.length → j < l.length →
    Calls Try.prog 73 #[r, .int .i64 (i : Int), .int .i64 (j : Int)] w fun e w' => e = .returned (.tuple #[]) ∧ R w' (swp l i j) ∧ Chg S w w'
  small : ∀ w l, R w l → l.length < 1000000000

section
variable {α : Type} [Inhabited α] {p : Value} {R : World → List α → Prop} {lt : α → α → Bool} {S : Nat → Prop}

set_option maxHeartbeats 1000000 in
theorem hpB_up (o : TotalOrd (noLess lt)) (h : HpB p R lt S) (w : World) (l : List α) (n j : Nat) (hR : R w l) (hn : n ≤ l.length) (hu : UpInv (noLess lt) l n j) :
    Calls Try.prog 49 #[.iface 59 p, .int .i64 (j : Int)] w fun e w' => e = .returned (.tuple #[]) ∧ ∃ l', R w' l' ∧ l'.Perm l ∧ Heap (noLess lt) l' n ∧ Chg S w w' := by
  have H := Lib.hid h; have HU := Lib.hid hu; have HR := Lib.hid hR; have HN := Lib.hid hn
  clear h hu hR hn
  go_enter Try.func49, Try.ntmps49
  go_wp2
  go_loopw [1] (fun o1 wr => ∃ (j : Nat) (l' : List α), o1 = .int .i64 (j : Int) ∧ R wr l' ∧ l'.Perm l ∧ UpInv (noLess lt) l' n j ∧ Chg S w wr) (fun o1 _ => (intOf o1).toNat)
  case atStart => exact ⟨j, l, rfl, HR.out, List.Perm.refl _, HU.out, Chg.refl _ _⟩
  case round =>
    obtain ⟨j, l', rfl, hR, hp, hu, hc⟩ := hrel
    have hsm := H.out.small _ _ hR
    have hln := hp.length_eq
    have hn := HN.out
    have hjn := hu.lt
    by_cases h0 : j = 0
    · subst h0
      have HH := Lib.hid (hu.done (.inl rfl)); have HR := Lib.hid hR; have HP := Lib.hid hp; have HC := Lib.hid hc
      clear hu hR hp hc hln hn hsm hjn
      go_wp2
      go_returns
      exact ⟨rfl, l', HR.out, HP.out, HH.out, HC.out⟩
    · obtain ⟨i, hi⟩ : ∃ i, (j - 1) / 2 = i := ⟨_, rfl⟩
      have e1 : ((j : Int) - 1).tdiv 2 = (i : Int) := by rw [Int.tdiv_eq_ediv_of_nonneg (by omega)]; omega
      have e2 : wrap64 ((j : Int) - 1) = (j : Int) - 1 := by unfold wrap64; omega
      have e3 : ((i : Int) == (j : Int)) = false := by simp; omega
      obtain ⟨r, hm, hless⟩ := H.out.less _ _ hR
      have hless := hless j i (by omega) (by omega)
      have hb : (j : Int) ≤ 1000000000 ∧ (i : Int) ≤ 1000000000 := by omega
      have HI := Lib.hid hi; have HP := Lib.hid hp; have HC := Lib.hid hc; have HU2 := Lib.hid hu; have HL := Lib.hid hless
      have HLN := Lib.hid hln; have HN0 := Lib.hid h0; have HJN := Lib.hid hjn
      clear hi hR hp hc hu hless hln hn hsm hjn h0
      go_wp2_with fail
      refine (HL.out).mono ?_
      rintro e w2 ⟨rfl, hR2, hc2⟩
      cases hlt : lt (l'.getD j default) (l'.getD i default) with
      | false =>
        have HH := Lib.hid (HU2.out.done (.inr (by rw [HI.out]; exact hlt))); have HR2 := Lib.hid hR2; have HC2 := Lib.hid (HC.out.trans hc2 (fun _ _ h => h))
        clear hR2 hc2 hlt hm
        go_wp2
        go_returns
        exact ⟨rfl, l', HR2.out, HP.out, HH.out, HC2.out⟩
      | true =>
        have hst : UpInv (noLess lt) (swp l' i j) n i := by
          have := HU2.out.step o (by have := HLN.out; have := HN.out; omega) (by have := HN0.out; omega) (by rw [HI.out]; unfold noLess; rw [hlt]; simp)
          rw [HI.out] at this
          exact this
        have hij : i < j := by have := HI.out; have := HN0.out; omega
        obtain ⟨r2, hm2, hsw⟩ := H.out.swap _ _ hR2
        have hln := HLN.out
        have hnn := HN.out
        have hjn := HJN.out
        have hsw := hsw i j (by omega) (by omega)
        have hpm := swp_perm l' i j (by omega) (by omega)
        have HSW := Lib.hid hsw; have HST := Lib.hid hst; have HPM := Lib.hid (hpm.trans HP.out); have HC2 := Lib.hid (HC.out.trans hc2 (fun _ _ h => h)); have HIJ := Lib.hid hij
        clear hsw hst hpm hc2 hR2 hlt hm hln hnn hjn hij
        go_wp2_with fail
        refine (HSW.out).mono ?_
        rintro e w3 ⟨rfl, hR3, hc3⟩
        have HR3 := Lib.hid hR3; have HC3 := Lib.hid (HC2.out.trans hc3 (fun _ _ h => h))
        clear hR3 hc3 hm2
        go_wp2
        go_roundw
        case rel => exact ⟨i, swp l' i j, rfl, HR3.out, HPM.out, HST.out, HC3.out⟩
        case measure => simp [intOf]; exact HIJ.out

set_option maxHeartbeats 2000000 in
theorem hpB_down (o : TotalOrd (noLess lt)) (h : HpB p R lt S) (w : World) (l : List α) (n lo i0 : Nat) (hR : R w l) (hn : n ≤ l.length) (hi0 : i0 < 1000000000) (hd : DownInv (noLess lt) l n lo i0) :
    Calls Try.prog 48 #[.iface 59 p, .int .i64 (i0 : Int), .int .i64 (n : Int)] w fun e w' => ∃ l' b, e = .returned (.bool b) ∧ R w' l' ∧ l'.Perm l ∧ (∀ k, n ≤ k → l'.getD k default = l.getD k default) ∧ HeapFrom (noLess lt) l' n lo ∧ (b = false → l' = l) ∧ Chg S w w' := by
  have hsm := h.small _ _ hR
  have hnb : (n : Int) ≤ 1000000000 := by omega
  have H := Lib.hid h; have HD := Lib.hid hd; have HR := Lib.hid hR; have HN := Lib.hid hn; have HI0 := Lib.hid hi0
  clear h hd hR hn hsm hi0
  go_enter Try.func48, Try.ntmps48
  go_wp2
  go_loopw [7] (fun o7 wr => ∃ (i : Nat) (l' : List α), o7 = .int .i64 (i : Int) ∧ R wr l' ∧ l'.Perm l ∧ (∀ k, n ≤ k → l'.getD k default = l.getD k default) ∧ DownInv (noLess lt) l' n lo i ∧ i0 ≤ i ∧ (i ≤ i0 → l' = l) ∧ i < 1000000000 ∧ Chg S w wr) (fun o7 _ => n - (intOf o7).toNat)
  case atStart => exact ⟨i0, l, rfl, HR.out, List.Perm.refl _, fun _ _ => rfl, HD.out, Nat.le_refl _, fun _ => rfl, HI0.out, Chg.refl _ _⟩
  case round =>
    clear HD HR
    obtain ⟨i, l', rfl, hR, hp, ht, hd, hge, hs0, hib, hc⟩ := hrel
    have hln := hp.length_eq
    have hib2 : (i : Int) < 1000000000 := by omega
    have e1 : wrap64 (2 * (i : Int)) = 2 * (i : Int) := by unfold wrap64; omega
    obtain ⟨j1, hj1⟩ : ∃ j1, 2 * i + 1 = j1 := ⟨_, rfl⟩
    have e2 : 2 * (i : Int) + 1 = (j1 : Int) := by omega
    have e3 : wrap64 (j1 : Int) = (j1 : Int) := by unfold wrap64; omega
    have HRQ := Lib.hid hR; have HP := Lib.hid hp; have HT := Lib.hid ht; have HD := Lib.hid hd; have HGE := Lib.hid hge; have HS0 := Lib.hid hs0; have HCQ := Lib.hid hc; have HLN := Lib.hid hln; have HJ1 := Lib.hid hj1
    clear hR hp ht hd hge hs0 hc hln hib
    by_cases hend : n ≤ j1
    · have d1 : decide ((n : Int) ≤ (j1 : Int)) = true := by simp; omega
      have HH := Lib.hid (HD.out.done (fun k h0 hk hp => by have := HJ1.out; omega))
      clear hj1
      go_wp2
      go_returns
      exact ⟨l', _, rfl, HRQ.out, HP.out, HT.out, HH.out, fun hb => HS0.out (by simpa using hb), HCQ.out⟩
    · have d1 : decide ((n : Int) ≤ (j1 : Int)) = false := by simp; omega
      have d2 : decide ((j1 : Int) < 0) = false := by simp
      obtain ⟨j2, hj2⟩ : ∃ j2, j1 + 1 = j2 := ⟨_, rfl⟩
      have e4 : (j1 : Int) + 1 = (j2 : Int) := by omega
      have e5 : wrap64 (j2 : Int) = (j2 : Int) := by unfold wrap64; omega
      have HJ2 := Lib.hid hj2; have HEND := Lib.hid hend
      by_cases h2 : j2 < n
      · have d3 : decide ((j2 : Int) < (n : Int)) = true := by simp; omega
        obtain ⟨ra, hma, hla⟩ := H.out.less _ _ HRQ.out
        have hla := hla j2 j1 (by have := HLN.out; have := HN.out; omega) (by have := HLN.out; have := HN.out; omega)
        have HLA := Lib.hid hla; have HL2 := Lib.hid h2
        clear hla hj1 hj2
        go_wp2_with fail
        refine (HLA.out).mono ?_
        rintro e w4 ⟨rfl, hR4, hc4⟩
        have HRQ0 := HRQ; have HCQ0 := HCQ
        clear HRQ HCQ
        have HRQ := Lib.hid hR4; have HCQ := Lib.hid (HCQ0.out.trans hc4 (fun _ _ h => h))
        clear hR4 hc4 HRQ0 HCQ0 hma
        cases hlt : lt (l'.getD j2 default) (l'.getD j1 default) with
        | true =>
          have HJ := Lib.hid (show 0 < j2 ∧ j2 < n ∧ (j2 - 1) / 2 = i by have := HJ1.out; have := HJ2.out; have := HL2.out; omega)
          have HMIN := Lib.hid (show ∀ k, 0 < k → k < n → (k - 1) / 2 = i → noLess lt (l'.getD j2 default) (l'.getD k default) from fun k h0 hk hp => by
            have hk2 : k = j1 ∨ k = j2 := by have := HJ1.out; have := HJ2.out; omega
            rcases hk2 with rfl | rfl
            · exact noLess_of o hlt
            · exact o.refl _)
          clear hlt
          obtain ⟨rb, hmb, hlb⟩ := H.out.less _ _ HRQ.out
          have hlb := hlb j2 i (by have := HJ.out; have := HLN.out; have := HN.out; omega) (by have := HJ.out; have := HLN.out; have := HN.out; omega)
          have HLB := Lib.hid hlb
          clear hlb
          go_wp2_with fail
          refine (HLB.out).mono ?_
          rintro e w5 ⟨rfl, hR5, hc5⟩
          cases hlt : lt (l'.getD j2 default) (l'.getD i default) with
          | false =>
            have HH := Lib.hid (HD.out.done (fun k h0 hk hp => o.trans hlt (HMIN.out k h0 hk hp))); have HR5 := Lib.hid hR5; have HC5 := Lib.hid (HCQ.out.trans hc5 (fun _ _ h => h))
            clear hR5 hc5 hlt hmb
            go_wp2
            go_returns
            exact ⟨l', _, rfl, HR5.out, HP.out, HT.out, HH.out, fun hb => HS0.out (by simpa using hb), HC5.out⟩
          | true =>
            have hst := HD.out.step o (by have := HLN.out; have := HN.out; omega) (by have := HJ.out; omega) (HJ.out).2.1 (HJ.out).2.2 HMIN.out (noLess_of o hlt)
            obtain ⟨r2, hm2, hsw⟩ := H.out.swap _ _ hR5
            have hsw := hsw i j2 (by have := HJ.out; have := HLN.out; have := HN.out; omega) (by have := HJ.out; have := HLN.out; have := HN.out; omega)
            have hpm := (swp_perm l' i j2 (by have := HJ.out; have := HLN.out; have := HN.out; omega) (by have := HJ.out; have := HLN.out; have := HN.out; omega)).trans HP.out
            have htl : ∀ k, n ≤ k → (swp l' i j2).getD k default = l.getD k default := fun k hk => by
              rw [swp_getD _ _ _ _ (by have := HJ.out; have := HLN.out; have := HN.out; omega) (by have := HJ.out; have := HLN.out; have := HN.out; omega), if_neg (by have := HJ.out; omega), if_neg (by have := HJ.out; omega)]
              exact HT.out k hk
            have HSW := Lib.hid hsw; have HST := Lib.hid hst; have HPM := Lib.hid hpm; have HTL := Lib.hid htl; have HC5 := Lib.hid (HCQ.out.trans hc5 (fun _ _ h => h))
            clear hsw hst hpm htl hc5 hR5 hlt hmb
            go_wp2_with fail
            refine (HSW.out).mono ?_
            rintro e w6 ⟨rfl, hR6, hc6⟩
            have HR6 := Lib.hid hR6; have HC6 := Lib.hid (HC5.out.trans hc6 (fun _ _ h => h))
            clear hR6 hc6 hm2
            go_wp2
            go_roundw
            case rel => exact ⟨j2, swp l' i j2, rfl, HR6.out, HPM.out, HTL.out, HST.out, by have := HJ.out; have := HGE.out; omega, fun hb => by have := HJ.out; have := HGE.out; omega, by have := HJ.out; omega, HC6.out⟩
            case measure => simp [intOf]; have := HJ.out; omega
        | false =>
          have HJ := Lib.hid (show 0 < j1 ∧ j1 < n ∧ (j1 - 1) / 2 = i by have := HJ1.out; have := HJ2.out; have := HL2.out; omega)
          have HMIN := Lib.hid (show ∀ k, 0 < k → k < n → (k - 1) / 2 = i → noLess lt (l'.getD j1 default) (l'.getD k default) from fun k h0 hk hp => by
            have hk2 : k = j1 ∨ k = j2 := by have := HJ1.out; have := HJ2.out; omega
            rcases hk2 with rfl | rfl
            · exact o.refl _
            · exact hlt)
          clear hlt
          obtain ⟨rb, hmb, hlb⟩ := H.out.less _ _ HRQ.out
          have hlb := hlb j1 i (by have := HJ.out; have := HLN.out; have := HN.out; omega) (by have := HJ.out; have := HLN.out; have := HN.out; omega)
          have HLB := Lib.hid hlb
          clear hlb
          go_wp2_with fail
          refine (HLB.out).mono ?_
          rintro e w5 ⟨rfl, hR5, hc5⟩
          cases hlt : lt (l'.getD j1 default) (l'.getD i default) with
          | false =>
            have HH := Lib.hid (HD.out.done (fun k h0 hk hp => o.trans hlt (HMIN.out k h0 hk hp))); have HR5 := Lib.hid hR5; have HC5 := Lib.hid (HCQ.out.trans hc5 (fun _ _ h => h))
            clear hR5 hc5 hlt hmb
            go_wp2
            go_returns
            exact ⟨l', _, rfl, HR5.out, HP.out, HT.out, HH.out, fun hb => HS0.out (by simpa using hb), HC5.out⟩
          | true =>
            have hst := HD.out.step o (by have := HLN.out; have := HN.out; omega) (by have := HJ.out; omega) (HJ.out).2.1 (HJ.out).2.2 HMIN.out (noLess_of o hlt)
            obtain ⟨r2, hm2, hsw⟩ := H.out.swap _ _ hR5
            have hsw := hsw i j1 (by have := HJ.out; have := HLN.out; have := HN.out; omega) (by have := HJ.out; have := HLN.out; have := HN.out; omega)
            have hpm := (swp_perm l' i j1 (by have := HJ.out; have := HLN.out; have := HN.out; omega) (by have := HJ.out; have := HLN.out; have := HN.out; omega)).trans HP.out
            have htl : ∀ k, n ≤ k → (swp l' i j1).getD k default = l.getD k default := fun k hk => by
              rw [swp_getD _ _ _ _ (by have := HJ.out; have := HLN.out; have := HN.out; omega) (by have := HJ.out; have := HLN.out; have := HN.out; omega), if_neg (by have := HJ.out; omega), if_neg (by have := HJ.out; omega)]
              exact HT.out k hk
            have HSW := Lib.hid hsw; have HST := Lib.hid hst; have HPM := Lib.hid hpm; have HTL := Lib.hid htl; have HC5 := Lib.hid (HCQ.out.trans hc5 (fun _ _ h => h))
            clear hsw hst hpm htl hc5 hR5 hlt hmb
            go_wp2_with fail
            refine (HSW.out).mono ?_
            rintro e w6 ⟨rfl, hR6, hc6⟩
            have HR6 := Lib.hid hR6; have HC6 := Lib.hid (HC5.out.trans hc6 (fun _ _ h => h))
            clear hR6 hc6 hm2
            go_wp2
            go_roundw
            case rel => exact ⟨j1, swp l' i j1, rfl, HR6.out, HPM.out, HTL.out, HST.out, by have := HJ.out; have := HGE.out; omega, fun hb => by have := HJ.out; have := HGE.out; omega, by have := HJ.out; omega, HC6.out⟩
            case measure => simp [intOf]; have := HJ.out; omega
      · have d3 : decide ((j2 : Int) < (n : Int)) = false := by simp; omega
        have HL2 := Lib.hid h2
        have HJ := Lib.hid (show 0 < j1 ∧ j1 < n ∧ (j1 - 1) / 2 = i by have := HJ1.out; have := HEND.out; omega)
        have HMIN := Lib.hid (show ∀ k, 0 < k → k < n → (k - 1) / 2 = i → noLess lt (l'.getD j1 default) (l'.getD k default) from fun k h0 hk hp => by
          have hk2 : k = j1 := by have := HJ1.out; have := HJ2.out; have := HL2.out; omega
          rw [hk2]; exact o.refl _)
        clear hj1 hj2
        obtain ⟨rb, hmb, hlb⟩ := H.out.less _ _ HRQ.out
        have hlb := hlb j1 i (by have := HJ.out; have := HLN.out; have := HN.out; omega) (by have := HJ.out; have := HLN.out; have := HN.out; omega)
        have HLB := Lib.hid hlb
        clear hlb
        go_wp2_with fail
        refine (HLB.out).mono ?_
        rintro e w5 ⟨rfl, hR5, hc5⟩
        cases hlt : lt (l'.getD j1 default) (l'.getD i default) with
        | false =>
          have HH := Lib.hid (HD.out.done (fun k h0 hk hp => o.trans hlt (HMIN.out k h0 hk hp))); have HR5 := Lib.hid hR5; have HC5 := Lib.hid (HCQ.out.trans hc5 (fun _ _ h => h))
          clear hR5 hc5 hlt hmb
          go_wp2
          go_returns
          exact ⟨l', _, rfl, HR5.out, HP.out, HT.out, HH.out, fun hb => HS0.out (by simpa using hb), HC5.out⟩
        | true =>
          have hst := HD.out.step o (by have := HLN.out; have := HN.out; omega) (by have := HJ.out; omega) (HJ.out).2.1 (HJ.out).2.2 HMIN.out (noLess_of o hlt)
          obtain ⟨r2, hm2, hsw⟩ := H.out.swap _ _ hR5
          have hsw := hsw i j1 (by have := HJ.out; have := HLN.out; have := HN.out; omega) (by have := HJ.out; have := HLN.out; have := HN.out; omega)
          have hpm := (swp_perm l' i j1 (by have := HJ.out; have := HLN.out; have := HN.out; omega) (by have := HJ.out; have := HLN.out; have := HN.out; omega)).trans HP.out
          have htl : ∀ k, n ≤ k → (swp l' i j1).getD k default = l.getD k default := fun k hk => by
            rw [swp_getD _ _ _ _ (by have := HJ.out; have := HLN.out; have := HN.out; omega) (by have := HJ.out; have := HLN.out; have := HN.out; omega), if_neg (by have := HJ.out; omega), if_neg (by have := HJ.out; omega)]
            exact HT.out k hk
          have HSW := Lib.hid hsw; have HST := Lib.hid hst; have HPM := Lib.hid hpm; have HTL := Lib.hid htl; have HC5 := Lib.hid (HCQ.out.trans hc5 (fun _ _ h => h))
          clear hsw hst hpm htl hc5 hR5 hlt hmb
          go_wp2_with fail
          refine (HSW.out).mono ?_
          rintro e w6 ⟨rfl, hR6, hc6⟩
          have HR6 := Lib.hid hR6; have HC6 := Lib.hid (HC5.out.trans hc6 (fun _ _ h => h))
          clear hR6 hc6 hm2
          go_wp2
          go_roundw
          case rel => exact ⟨j1, swp l' i j1, rfl, HR6.out, HPM.out, HTL.out, HST.out, by have := HJ.out; have := HGE.out; omega, fun hb => by have := HJ.out; have := HGE.out; omega, by have := HJ.out; omega, HC6.out⟩
          case measure => simp [intOf]; have := HJ.out; omega

end

end Go.Proofs.Ytbopamcnlocdbaa

/- What container/heap's Init, Push, Pop and Fix do with one type's heap (hpB), whatever it holds. -/
namespace Go.Proofs.Ytbopamcnlocdbaa
open Go.RowKit

section
variable {α : Type} [Inhabited α] {p : Value} {R : World → List α → Prop} {lt : α → α → Bool} {S : Nat → Prop} {it : α → Value}

/-- what Push is to do -/
def HpBPushes {α : Type} [Inhabited α] (p : Value) (R : World → List α → Prop) (S : Nat → Prop) (it : α → Value) (x : α) : Prop := ∀ w l, R w l → l.length < 100000 →
  ∃ r, (method 211 59 p "Push").run Try.prog w = .ok (72, r) w ∧ Calls Try.prog 72 #[r, it x] w fun e w' => e = .returned (.tuple #[]) ∧ R w' (l ++ [x]) ∧ Chg S w w'
/-- what Pop is to do -/
def HpBPops {α : Type} [Inhabited α] (p : Value) (R : World → List α → Prop) (S : Nat → Prop) (it : α → Value) : Prop := ∀ w l x, R w (l ++ [x]) →
  ∃ r, (method 211 59 p "Pop").run Try.prog w = .ok (71, r) w ∧ Calls Try.prog 71 #[r] w fun e w' => e = .returned (it x) ∧ R w' l ∧ Chg S w w'

set_option maxHeartbeats 1000000 in
theorem hpB_push (o : TotalOrd (noLess lt)) (h : HpB p R lt S) (x : α) (hpu : HpBPushes p R S it x) (w : World) (l : List α) (hR : R w l) (hl : l.length < 100000) (hh : Heap (noLess lt) l l.length) :
    Calls Try.prog 45 #[.iface 59 p, it x] w fun e w' => e = .returned (.tuple #[]) ∧ ∃ l', R w' l' ∧ l'.Perm (x :: l) ∧ Heap (noLess lt) l' l'.length ∧ Chg S w w' := by
  obtain ⟨r, hm, hc⟩ := hpu w l hR hl
  obtain ⟨q, hq⟩ : ∃ q, it x = q := ⟨_, rfl⟩
  rw [hq] at hc ⊢
  have HC := Lib.hid hc; have HH := Lib.hid hh; have HL := Lib.hid hl; have H := Lib.hid h
  clear hc hh hl hpu hq hR h
  go_enter Try.func45, Try.ntmps45
  go_wp2_with fail
  refine (HC.out).mono ?_
  rintro e w2 ⟨rfl, hR2, hc2⟩
  obtain ⟨r2, hm2, hlen⟩ := H.out.len _ _ hR2
  have hn : (l ++ [x]).length = l.length + 1 := by simp
  rw [hn] at hlen
  obtain ⟨n, hnn⟩ : ∃ n, l.length = n := ⟨_, rfl⟩
  obtain ⟨n1, hn1⟩ : ∃ n1, n + 1 = n1 := ⟨_, rfl⟩
  rw [hnn, hn1] at hlen
  have e1 : (n1 : Int) - 1 = (n : Int) := by omega
  have e2 : wrap64 (n : Int) = (n : Int) := by have := HL.out; unfold wrap64; omega
  have HLE := Lib.hid hlen; have HNN := Lib.hid hnn; have HN1 := Lib.hid hn1; have HC2 := Lib.hid hc2
  clear hlen hnn hn1 hc2 hm hR2 hn
  go_wp2_with fail
  refine (HLE.out).mono ?_
  rintro e w3 ⟨rfl, hR3, hc3⟩
  have hu := UpInv.pushed HH.out x
  rw [HNN.out, HN1.out] at hu
  have hup := hpB_up o H.out w3 (l ++ [x]) n1 n hR3 (by simp; have := HNN.out; have := HN1.out; omega) hu
  have HUP := Lib.hid hup; have HC3 := Lib.hid (HC2.out.trans hc3 (fun _ _ h => h))
  clear hup hu hc3 hR3 hm2
  go_wp2_with fail
  refine (HUP.out).mono ?_
  rintro e w4 ⟨rfl, l', hR4, hp4, hh4, hc4⟩
  have hl4 := hp4.length_eq
  rw [List.length_append, List.length_singleton, HNN.out, HN1.out] at hl4
  have HF := Lib.hid (show R w4 l' ∧ l'.Perm (x :: l) ∧ Heap (noLess lt) l' l'.length ∧ Chg S w w4 from ⟨hR4, hp4.trans (List.perm_append_comm (l₁ := l) (l₂ := [x])), by rw [hl4]; exact hh4, HC3.out.trans hc4 (fun _ _ h => h)⟩)
  clear hR4 hp4 hh4 hc4 hl4
  go_wp2
  go_returns
  exact ⟨rfl, l', HF.out⟩

set_option maxHeartbeats 1000000 in
theorem hpB_pop (o : TotalOrd (noLess lt)) (h : HpB p R lt S) (hpo : HpBPops p R S it) (w : World) (l : List α) (hR : R w l) (hl : 0 < l.length) (hh : Heap (noLess lt) l l.length) :
    Calls Try.prog 43 #[.iface 59 p] w fun e w' => ∃ x l', e = .returned (it x) ∧ R w' l' ∧ l.Perm (x :: l') ∧ (∀ y ∈ l', noLess lt x y) ∧ Heap (noLess lt) l' l'.length ∧ Chg S w w' := by
  have hsm := h.small _ _ hR
  obtain ⟨r, hm, hlen⟩ := h.len _ _ hR
  obtain ⟨n, hn⟩ : ∃ n, l.length = n + 1 := ⟨l.length - 1, by omega⟩
  rw [hn] at hlen
  obtain ⟨n1, hn1⟩ : ∃ n1, n + 1 = n1 := ⟨_, rfl⟩
  rw [hn1] at hlen
  have e1 : (n1 : Int) - 1 = (n : Int) := by omega
  have e2 : wrap64 (n : Int) = (n : Int) := by unfold wrap64; omega
  have HLE := Lib.hid hlen; have HH := Lib.hid hh; have H := Lib.hid h; have HN := Lib.hid hn; have HN1 := Lib.hid hn1; have HPO := Lib.hid hpo
  clear hlen hh h hn hn1 hpo hl hsm hR
  go_enter Try.func43, Try.ntmps43
  go_wp2_with fail
  refine (HLE.out).mono ?_
  rintro e w2 ⟨rfl, hR2, hc2⟩
  obtain ⟨r2, hm2, hsw⟩ := H.out.swap _ _ hR2
  have hsw := hsw 0 n (by have := HN.out; omega) (by have := HN.out; omega)
  have HSW := Lib.hid hsw; have HC2 := Lib.hid hc2
  clear hsw hc2 hR2 hm
  go_wp2_with fail
  refine (HSW.out).mono ?_
  rintro e w3 ⟨rfl, hR3, hc3⟩
  have hh := HH.out
  rw [HN.out] at hh
  have hdn := hpB_down o H.out w3 (swp l 0 n) n 0 0 hR3 (by rw [swp_length, HN.out]; omega) (by omega) (DownInv.popped HN.out hh)
  have HDN := Lib.hid hdn; have HC3 := Lib.hid (HC2.out.trans hc3 (fun _ _ h => h))
  clear hdn hc3 hR3 hh hm2
  go_wp2_with fail
  refine (HDN.out).mono ?_
  rintro e w4 ⟨l2, b, rfl, hR4, hp4, ht4, hh4, -, hc4⟩
  have hl2 : l2.length = n + 1 := by rw [hp4.length_eq, swp_length, HN.out]
  have hx : l2.getD n default = l.getD 0 default := by
    rw [ht4 n (Nat.le_refl _), swp_getD _ _ _ _ (by have := HN.out; omega) (by have := HN.out; omega), if_pos rfl]
  have hap := last_apart l2 n hl2
  rw [hx] at hap
  have hpp : l.Perm (l.getD 0 default :: l2.take n) := by
    refine ((swp_perm l 0 n (by have := HN.out; omega) (by have := HN.out; omega)).symm.trans hp4.symm).trans ?_
    rw [hap, List.take_left' (by rw [List.length_take]; omega)]
    exact List.perm_append_comm (l₁ := l2.take n) (l₂ := [l.getD 0 default])
  have hle : ∀ y ∈ l2.take n, noLess lt (l.getD 0 default) y := fun y hy => HH.out.least_mem o (hpp.symm.subset (List.mem_cons_of_mem _ hy))
  have hhp := hh4.heap.take (by omega)
  rw [hap] at hR4
  obtain ⟨r3, hm3, hpop⟩ := HPO.out _ _ _ hR4
  obtain ⟨x, hxx⟩ : ∃ x, l.getD 0 default = x := ⟨_, rfl⟩
  rw [hxx] at hpop hpp hle
  obtain ⟨q, hq⟩ : ∃ q, it x = q := ⟨_, rfl⟩
  rw [hq] at hpop
  have HPOP := Lib.hid hpop; have HQ := Lib.hid hq
  have HF := Lib.hid (show l.Perm (x :: l2.take n) ∧ (∀ y ∈ l2.take n, noLess lt x y) ∧ Heap (noLess lt) (l2.take n) (l2.take n).length ∧ Chg S w w4 from ⟨hpp, hle, hhp, HC3.out.trans hc4 (fun _ _ h => h)⟩)
  clear hpop hq hpp hle hhp hap hx hl2 hR4 hp4 ht4 hh4 hc4 hxx
  go_wp2_with fail
  refine (HPOP.out).mono ?_
  rintro e w5 ⟨rfl, hR5, hc5⟩
  have HR5 := Lib.hid hR5; have HC5 := Lib.hid hc5
  clear hR5 hc5 hm3
  go_wp2
  go_returns
  obtain ⟨f1, f2, f3, f4⟩ := HF.out
  exact ⟨x, l2.take n, by rw [HQ.out]; rfl, HR5.out, f1, f2, f3, f4.trans HC5.out (fun _ _ h => h)⟩

end

end Go.Proofs.Ytbopamcnlocdbaa

/- Plain mathematics of chapter 9: fractions held against each other. -/
namespace Go.Proofs.Ytbopamcnlocdbaa
open Go

/-- a key -/
structure Ky where
  I : Int
  Q : Int
  S : Int
  deriving DecidableEq

def Ky.right (k : Ky) : Prop := 1 ≤ k.Q ∧ k.Q ≤ 4096 ∧ k.Q ≤ k.I ∧ k.I ≤ 2 * k.Q - 1 ∧ 0 ≤ k.S ∧ k.S ≤ 255
instance Ky.right_dec (k : Ky) : Decidable k.right := by unfold Ky.right; infer_instance

/-- how two right keys are to each other -/
def cmpR (a b : Ky) : Int :=
  if a.I * b.Q < b.I * a.Q ∨ (a.I * b.Q = b.I * a.Q ∧ a.S < b.S) then -1
  else if b.I * a.Q < a.I * b.Q ∨ (a.I * b.Q = b.I * a.Q ∧ b.S < a.S) then 1 else 0
def cmpK (a b : Ky) : Int := if a.right ∧ b.right then cmpR a b else 0

theorem cmpR_cases (a b : Ky) : (cmpR a b = -1 ∧ (a.I * b.Q < b.I * a.Q ∨ (a.I * b.Q = b.I * a.Q ∧ a.S < b.S))) ∨ (cmpR a b = 1 ∧ (b.I * a.Q < a.I * b.Q ∨ (a.I * b.Q = b.I * a.Q ∧ b.S < a.S))) ∨ (cmpR a b = 0 ∧ a.I * b.Q = b.I * a.Q ∧ a.S = b.S) := by
  unfold cmpR
  by_cases h1 : a.I * b.Q < b.I * a.Q ∨ (a.I * b.Q = b.I * a.Q ∧ a.S < b.S)
  · rw [if_pos h1]; exact .inl ⟨rfl, h1⟩
  · rw [if_neg h1]
    by_cases h2 : b.I * a.Q < a.I * b.Q ∨ (a.I * b.Q = b.I * a.Q ∧ b.S < a.S)
    · rw [if_pos h2]; exact .inr (.inl ⟨rfl, h2⟩)
    · rw [if_neg h2]
      have e : a.I * b.Q = b.I * a.Q := by omega
      have e2 : a.S = b.S := by omega
      exact .inr (.inr ⟨rfl, e, e2⟩)

theorem cmpR_turn (a b : Ky) : cmpR b a = -cmpR a b := by
  rcases cmpR_cases a b with ⟨h, h'⟩ | ⟨h, h'⟩ | ⟨h, h', h''⟩ <;> rcases cmpR_cases b a with ⟨g, g'⟩ | ⟨g, g'⟩ | ⟨g, g', g''⟩ <;> omega
theorem cmpR_self (a : Ky) : cmpR a a = 0 := by
  rcases cmpR_cases a a with ⟨h, h'⟩ | ⟨h, h'⟩ | ⟨h, _⟩
  · omega
  · omega
  · exact h
theorem cmpR_zero (a b : Ky) : cmpR a b = 0 ↔ (a.I * b.Q = b.I * a.Q ∧ a.S = b.S) := by
  rcases cmpR_cases a b with ⟨h, h'⟩ | ⟨h, h'⟩ | ⟨h, h', h''⟩
  · constructor
    · intro h0; omega
    · intro h0; omega
  · constructor
    · intro h0; omega
    · intro h0; omega
  · exact ⟨fun _ => ⟨h', h''⟩, fun _ => h⟩

/-- a's fraction is no more than b's, nor b's than c's: nor is a's more than c's -/
theorem frac_trans {ai aq bi bq ci cq : Int} (hb : 0 < bq) (ha : 0 < aq) (hc : 0 < cq) (h1 : ai * bq ≤ bi * aq) (h2 : bi * cq ≤ ci * bq) : ai * cq ≤ ci * aq ∧ (ai * bq < bi * aq ∨ bi * cq < ci * bq → ai * cq < ci * aq) := by
  have k1 : ai * bq * cq ≤ bi * aq * cq := Int.mul_le_mul_of_nonneg_right h1 (by omega)
  have k2 : bi * cq * aq ≤ ci * bq * aq := Int.mul_le_mul_of_nonneg_right h2 (by omega)
  have e1 : bi * aq * cq = bi * cq * aq := by rw [Int.mul_assoc, Int.mul_comm aq cq, ← Int.mul_assoc]
  have e2 : ai * bq * cq = ai * cq * bq := by rw [Int.mul_assoc, Int.mul_comm bq cq, ← Int.mul_assoc]
  have e3 : ci * bq * aq = ci * aq * bq := by rw [Int.mul_assoc, Int.mul_comm bq aq, ← Int.mul_assoc]
  refine ⟨Int.le_of_mul_le_mul_right (by omega : ai * cq * bq ≤ ci * aq * bq) hb, fun h => ?_⟩
  refine Int.lt_of_mul_lt_mul_right (a := bq) ?_ (by omega)
  rcases h with h | h
  · have := Int.mul_lt_mul_of_pos_right h hc; omega
  · have := Int.mul_lt_mul_of_pos_right h ha; omega

theorem cmpR_trans {a b c : Ky} (ha : 0 < a.Q) (hb : 0 < b.Q) (hc : 0 < c.Q) (h1 : cmpR a b ≤ 0) (h2 : cmpR b c ≤ 0) : cmpR a c ≤ 0 := by
  have k1 : a.I * b.Q ≤ b.I * a.Q ∧ (a.I * b.Q = b.I * a.Q → a.S ≤ b.S) := by
    rcases cmpR_cases a b with ⟨h, h'⟩ | ⟨h, h'⟩ | ⟨h, h', h''⟩ <;> omega
  have k2 : b.I * c.Q ≤ c.I * b.Q ∧ (b.I * c.Q = c.I * b.Q → b.S ≤ c.S) := by
    rcases cmpR_cases b c with ⟨h, h'⟩ | ⟨h, h'⟩ | ⟨h, h', h''⟩ <;> omega
  obtain ⟨t1, t2⟩ := frac_trans hb ha hc k1.1 k2.1
  have t3 : a.I * c.Q = c.I * a.Q → a.S ≤ c.S := fun e => by
    have n1 : ¬ (a.I * b.Q < b.I * a.Q ∨ b.I * c.Q < c.I * b.Q) := fun hh => by have := t2 hh; omega
    have := k1.2 (by omega)
    have := k2.2 (by omega)
    omega
  rcases cmpR_cases a c with ⟨h, h'⟩ | ⟨h, h'⟩ | ⟨h, h', h''⟩ <;> omega

theorem cmpR_trans2 {a b c : Ky} (ha : 0 < a.Q) (hb : 0 < b.Q) (hc : 0 < c.Q) (h1 : 0 ≤ cmpR a b) (h2 : 0 ≤ cmpR b c) : 0 ≤ cmpR a c := by
  have t1 := cmpR_turn a b
  have t2 := cmpR_turn b c
  have t3 := cmpR_turn a c
  have := cmpR_trans hc hb ha (show cmpR c b ≤ 0 by omega) (show cmpR b a ≤ 0 by omega)
  omega

/-- the middle one -/
theorem cmpR_mid (a b c : Ky) (hI : c.I = a.I + b.I) (hQ : c.Q = a.Q + b.Q) (hS : a.S = b.S) (hS2 : c.S = a.S) : cmpR a c = cmpR a b ∧ cmpR c b = cmpR a b := by
  have e1 : a.I * c.Q = a.I * a.Q + a.I * b.Q := by rw [hQ, Int.mul_add]
  have e2 : c.I * a.Q = a.I * a.Q + b.I * a.Q := by rw [hI, Int.add_mul]
  have e3 : c.I * b.Q = a.I * b.Q + b.I * b.Q := by rw [hI, Int.add_mul]
  have e4 : b.I * c.Q = b.I * a.Q + b.I * b.Q := by rw [hQ, Int.mul_add]
  constructor
  · rcases cmpR_cases a c with ⟨h, h'⟩ | ⟨h, h'⟩ | ⟨h, h', h''⟩ <;> rcases cmpR_cases a b with ⟨g, g'⟩ | ⟨g, g'⟩ | ⟨g, g', g''⟩ <;> omega
  · rcases cmpR_cases c b with ⟨h, h'⟩ | ⟨h, h'⟩ | ⟨h, h', h''⟩ <;> rcases cmpR_cases a b with ⟨g, g'⟩ | ⟨g, g'⟩ | ⟨g, g', g''⟩ <;> omega

/-- so many times, rounded down and up -/
def loK (k : Ky) (l : Int) : Int := l * k.I / k.Q
def hiK (k : Ky) (l : Int) : Int := (l * k.I + k.Q - 1) / k.Q
theorem scaled_spec (k : Ky) (l : Int) (hq : 0 < k.Q) : loK k l * k.Q ≤ l * k.I ∧ l * k.I < loK k l * k.Q + k.Q ∧ l * k.I ≤ hiK k l * k.Q ∧ hiK k l * k.Q < l * k.I + k.Q := by
  unfold loK hiK
  have a1 := Int.mul_ediv_add_emod (l * k.I) k.Q
  have a2 := Int.emod_nonneg (l * k.I) (show k.Q ≠ 0 by omega)
  have a3 := Int.emod_lt_of_pos (l * k.I) hq
  have b1 := Int.mul_ediv_add_emod (l * k.I + k.Q - 1) k.Q
  have b2 := Int.emod_nonneg (l * k.I + k.Q - 1) (show k.Q ≠ 0 by omega)
  have b3 := Int.emod_lt_of_pos (l * k.I + k.Q - 1) hq
  rw [Int.mul_comm k.Q (l * k.I / k.Q)] at a1
  rw [Int.mul_comm k.Q ((l * k.I + k.Q - 1) / k.Q)] at b1
  omega

theorem scaled_unique {q n lo hi : Int} (hq : 0 < q) (h1 : lo * q ≤ n) (h2 : n < lo * q + q) (h3 : n ≤ hi * q) (h4 : hi * q < n + q) : lo = n / q ∧ hi = (n + q - 1) / q := by
  constructor
  · symm
    refine Int.le_antisymm ?_ ?_
    · have : n / q < lo + 1 := Int.ediv_lt_of_lt_mul hq (by rw [Int.add_mul, Int.one_mul]; exact h2)
      omega
    · exact Int.le_ediv_of_mul_le hq h1
  · symm
    refine Int.le_antisymm ?_ ?_
    · have : (n + q - 1) / q < hi + 1 := Int.ediv_lt_of_lt_mul hq (by rw [Int.add_mul, Int.one_mul]; omega)
      omega
    · exact Int.le_ediv_of_mul_le hq (by omega)

theorem scaled_times (k : Ky) (l f : Int) (hq : 0 < k.Q) (hf : 0 < f) : loK ⟨k.I * f, k.Q * f, k.S⟩ l = loK k l ∧ hiK ⟨k.I * f, k.Q * f, k.S⟩ l = hiK k l := by
  have s := scaled_spec k l hq
  have hqf : 0 < k.Q * f := Int.mul_pos hq hf
  have e : l * (k.I * f) = l * k.I * f := by rw [Int.mul_assoc]
  have e1 : loK k l * (k.Q * f) = loK k l * k.Q * f := by rw [Int.mul_assoc]
  have e2 : hiK k l * (k.Q * f) = hiK k l * k.Q * f := by rw [Int.mul_assoc]
  have m1 := Int.mul_le_mul_of_nonneg_right s.1 (show 0 ≤ f by omega)
  have m2 := Int.mul_lt_mul_of_pos_right s.2.1 hf
  have m3 := Int.mul_le_mul_of_nonneg_right s.2.2.1 (show 0 ≤ f by omega)
  have m4 := Int.mul_lt_mul_of_pos_right s.2.2.2 hf
  rw [Int.add_mul] at m2 m4
  have u := scaled_unique (q := k.Q * f) (n := l * (k.I * f)) (lo := loK k l) (hi := hiK k l) hqf (by omega) (by omega) (by omega) (by omega)
  exact ⟨u.1.symm, u.2.symm⟩

theorem scaled_bound (k : Ky) (l : Int) (h : k.right) (h1 : 1 ≤ l) (h2 : l ≤ 4096) : 0 ≤ loK k l ∧ loK k l ≤ 8192 ∧ 0 ≤ hiK k l ∧ hiK k l ≤ 8192 := by
  obtain ⟨q1, q2, i1, i2, _, _⟩ := h
  have s := scaled_spec k l (by omega)
  have hn0 : 0 ≤ l * k.I := Int.mul_nonneg (by omega) (by omega)
  have hn : l * k.I ≤ l * (2 * k.Q - 1) := Int.mul_le_mul_of_nonneg_left i2 (by omega)
  have e : l * (2 * k.Q - 1) = l * 2 * k.Q - l := by rw [Int.mul_sub, Int.mul_one, ← Int.mul_assoc]
  have lo0 : 0 ≤ loK k l := Int.ediv_nonneg hn0 (by omega)
  have hi0 : 0 ≤ hiK k l := Int.ediv_nonneg (by omega) (by omega)
  have hlo : loK k l * k.Q ≤ l * 2 * k.Q := by omega
  have hhi : hiK k l * k.Q < (l * 2 + 1) * k.Q := by rw [Int.add_mul, Int.one_mul]; omega
  have a1 := Int.le_of_mul_le_mul_right hlo (by omega)
  have a2 := Int.lt_of_mul_lt_mul_right hhi (by omega)
  omega

end Go.Proofs.Ytbopamcnlocdbaa

/- Keys as values; what the document's own frac (puncheonref09) tells. -/
namespace Go.Proofs.Ytbopamcnlocdbaa
open Go.RowKit

/-- a key as a value -/
def kv (k : Ky) : Value := .agg #[.int .i64 k.I, .int .i64 k.Q, .int .i64 k.S]
/-- numbers that an int holds -/
def Ky.fits (k : Ky) : Prop := (-9223372036854775808 ≤ k.I ∧ k.I ≤ 9223372036854775807) ∧ (-9223372036854775808 ≤ k.Q ∧ k.Q ≤ 9223372036854775807) ∧ (-9223372036854775808 ≤ k.S ∧ k.S ≤ 9223372036854775807)

/-- the key that is made of small numbers -/
def madeK (i q s : Nat) : Ky := ⟨(((1 + q % 4096) + i % (1 + q % 4096) : Nat) : Int), ((1 + q % 4096 : Nat) : Int), (s : Int)⟩
theorem madeK_right (i q s : Nat) (hs : s < 256) : (madeK i q s).right := by
  have h := Nat.mod_lt i (show 0 < 1 + q % 4096 by omega)
  unfold madeK Ky.right
  simp only []
  omega
theorem Ky.right.fits {k : Ky} (h : k.right) : k.fits := by
  unfold Ky.right at h; unfold Ky.fits; omega

/-- a block that holds a key, of either type -/
def Kb (w : World) (g : Nat) (t : TypeId) (k : Ky) : Prop := w.heap[g]? = some (.cells #[.int .i64 k.I, .int .i64 k.Q, .int .i64 k.S] t (0, 0))
theorem Kb.kept {S : Nat → Prop} {w w' : World} {g : Nat} {t : TypeId} {k : Ky} (h : Kb w g t k) (hc : Chg S w w') (hS : ¬ S g) : Kb w' g t k := (hc.block g (lt_of_block h) hS).trans h
theorem Kb.lt {w : World} {g : Nat} {t : TypeId} {k : Ky} (h : Kb w g t k) : g < w.heap.size := lt_of_block h
theorem Kb.cells {w : World} {g : Nat} {t : TypeId} {k : Ky} (h : Kb w g t k) : w.cell? ⟨g, 0, none⟩ = some (.int .i64 k.I) ∧ w.cell? ⟨g, 1, none⟩ = some (.int .i64 k.Q) ∧ w.cell? ⟨g, 2, none⟩ = some (.int .i64 k.S) :=
  ⟨by rw [cell_of_row w g 0 _ _ _ h]; rfl, by rw [cell_of_row w g 1 _ _ _ h]; rfl, by rw [cell_of_row w g 2 _ _ _ h]; rfl⟩
theorem Kb.loadF {w : World} {g : Nat} {k : Ky} (h : Kb w g 63 k) : (loadVar 63 ⟨g, 0, none⟩).run Try.prog w = .ok (kv k) w := run_loadVar_row w g _ _ _ _ _ h Try.underlying63 rfl (by kernel_rfl)

/-- a key that was boxed, or laid into a variable of its own -/
theorem Kb.of_alloc (w : World) (t : TypeId) (k : Ky) : Kb (w.alloc (.cells #[.int .i64 k.I, .int .i64 k.Q, .int .i64 k.S] t)) w.heap.size t k := heap_alloc_new w _

theorem prod_bound {a b : Int} (h1 : 0 ≤ a) (h2 : a ≤ 8192) (h3 : 0 ≤ b) (h4 : b ≤ 8192) : 0 ≤ a * b ∧ a * b ≤ 67108864 :=
  ⟨Int.mul_nonneg h1 h3, Int.le_trans (Int.mul_le_mul h2 h4 h3 (by omega)) (by decide)⟩

end Go.Proofs.Ytbopamcnlocdbaa

/- What frac's Right, Cmp, Next and Scaled tell: the program's own text. -/
namespace Go.Proofs.Ytbopamcnlocdbaa
open Go.RowKit

/-- the next key, if it is right -/
def nextK (k : Ky) : Ky := if Ky.right ⟨k.I + 1, k.Q, k.S⟩ then ⟨k.I + 1, k.Q, k.S⟩ else ⟨0, 0, 0⟩
/-- l times the fraction, down and up -/
def scK (k : Ky) (l : Int) : Int × Int := if k.right ∧ 1 ≤ l ∧ l ≤ 4096 then (loK k l, hiK k l) else (0, 0)

set_option maxHeartbeats 1000000 in
theorem kright_any (k : Ky) (w : World) (_hf : k.fits) : Calls Try.prog 44 #[kv k] w fun e w' => e = .returned (.bool (decide k.right)) ∧ Chg (fun _ => False) w w' := by
  obtain ⟨I, Q, S⟩ := k
  have hca := Chg.alloc (fun _ => False) w (.cells #[.int .i64 I, .int .i64 Q, .int .i64 S] 63)
  have HCA := Lib.hid hca
  clear hca
  unfold kv
  have hd : Ky.right ⟨I, Q, S⟩ ↔ (1 ≤ Q ∧ Q ≤ 4096 ∧ Q ≤ I ∧ I < 2 * Q ∧ 0 ≤ S ∧ S < 256) := by unfold Ky.right; simp only []; omega
  by_cases h1 : 1 ≤ Q
  · by_cases h2 : Q ≤ 4096
    · by_cases h3 : Q ≤ I
      · by_cases h4 : I < 2 * Q
        · by_cases h5 : 0 ≤ S
          · by_cases h6 : S < 256
            · rw [decide_eq_true (hd.2 ⟨h1, h2, h3, h4, h5, h6⟩)]
              clear hd
              go_enter Try.func44, Try.ntmps44
              go_wp2
              go_ret
              exact ⟨rfl, HCA.out⟩
            · rw [decide_eq_false (fun hh => h6 (hd.1 hh).2.2.2.2.2)]
              clear hd
              go_enter Try.func44, Try.ntmps44
              go_wp2
              go_ret
              exact ⟨rfl, HCA.out⟩
          · rw [decide_eq_false (fun hh => h5 (hd.1 hh).2.2.2.2.1)]
            clear hd
            go_enter Try.func44, Try.ntmps44
            go_wp2
            go_ret
            exact ⟨rfl, HCA.out⟩
        · rw [decide_eq_false (fun hh => h4 (hd.1 hh).2.2.2.1)]
          clear hd
          go_enter Try.func44, Try.ntmps44
          go_wp2
          go_ret
          exact ⟨rfl, HCA.out⟩
      · rw [decide_eq_false (fun hh => h3 (hd.1 hh).2.2.1)]
        clear hd
        go_enter Try.func44, Try.ntmps44
        go_wp2
        go_ret
        exact ⟨rfl, HCA.out⟩
    · rw [decide_eq_false (fun hh => h2 (hd.1 hh).2.1)]
      clear hd
      go_enter Try.func44, Try.ntmps44
      go_wp2
      go_ret
      exact ⟨rfl, HCA.out⟩
  · rw [decide_eq_false (fun hh => h1 (hd.1 hh).1)]
    clear hd
    go_enter Try.func44, Try.ntmps44
    go_wp2
    go_ret
    exact ⟨rfl, HCA.out⟩

/-- which of two numbers is less -/
def sgnI (x y : Int) : Int := if x < y then -1 else if y < x then 1 else 0

set_option maxHeartbeats 1000000 in
theorem ccmp_any (x y : Int) (w : World) : Calls Try.prog 77 #[.int .i64 x, .int .i64 y] w fun e w' => e = .returned (.int .i64 (sgnI x y)) ∧ w' = w := by
  unfold sgnI
  by_cases h1 : x < y
  · rw [if_pos h1]
    go_enter Try.func77, Try.ntmps77
    go_wp2
    go_ret
    exact ⟨rfl, rfl⟩
  · rw [if_neg h1]
    by_cases h2 : y < x
    · rw [if_pos h2]
      go_enter Try.func77, Try.ntmps77
      go_wp2
      go_ret
      exact ⟨rfl, rfl⟩
    · rw [if_neg h2]
      go_enter Try.func77, Try.ntmps77
      go_wp2
      go_ret
      exact ⟨rfl, rfl⟩

set_option maxHeartbeats 1000000 in
theorem kfrac_any (a b : Ky) (w : World) (ha : a.right) (hb : b.right) : Calls Try.prog 75 #[kv a, kv b] w fun e w' => e = .returned (.int .i64 (sgnI (a.I * b.Q) (b.I * a.Q))) ∧ Chg (fun _ => False) w w' := by
  obtain ⟨I, Q, S⟩ := a
  obtain ⟨J, R, T⟩ := b
  unfold Ky.right at ha hb
  simp only [] at ha hb ⊢
  have b1 := prod_bound (a := I) (b := R) (by omega) (by omega) (by omega) (by omega)
  have b2 := prod_bound (a := J) (b := Q) (by omega) (by omega) (by omega) (by omega)
  obtain ⟨X, hX⟩ : ∃ X, I * R = X := ⟨_, rfl⟩
  obtain ⟨Y, hY⟩ : ∃ Y, J * Q = Y := ⟨_, rfl⟩
  rw [hX] at b1 ⊢
  rw [hY] at b2 ⊢
  obtain ⟨b10, b11⟩ := b1
  obtain ⟨b20, b21⟩ := b2
  unfold kv
  have hc0 : Chg (fun _ => False) w ((w.alloc (.cells #[.int .i64 I, .int .i64 Q, .int .i64 S] 63)).alloc (.cells #[.int .i64 J, .int .i64 R, .int .i64 T] 63)) := (Chg.alloc (fun _ => False) w _).trans (Chg.alloc (fun _ => False) _ _) fun _ _ h => h
  have HC := Lib.hid hc0
  clear hc0 ha hb
  go_enter Try.func75, Try.ntmps75
  go_wp2_with fail
  refine (ccmp_any X Y _).mono ?_
  rintro e w1 ⟨rfl, rfl⟩
  go_wp2
  go_ret
  exact ⟨rfl, HC.out⟩

set_option maxHeartbeats 1000000 in
theorem ksym_any (a b : Ky) (w : World) : Calls Try.prog 76 #[kv a, kv b] w fun e w' => e = .returned (.int .i64 (sgnI a.S b.S)) ∧ Chg (fun _ => False) w w' := by
  obtain ⟨I, Q, S⟩ := a
  obtain ⟨J, R, T⟩ := b
  simp only []
  unfold kv
  have hc0 : Chg (fun _ => False) w ((w.alloc (.cells #[.int .i64 I, .int .i64 Q, .int .i64 S] 63)).alloc (.cells #[.int .i64 J, .int .i64 R, .int .i64 T] 63)) := (Chg.alloc (fun _ => False) w _).trans (Chg.alloc (fun _ => False) _ _) fun _ _ h => h
  have HC := Lib.hid hc0
  clear hc0
  go_enter Try.func76, Try.ntmps76
  go_wp2_with fail
  refine (ccmp_any S T _).mono ?_
  rintro e w1 ⟨rfl, rfl⟩
  go_wp2
  go_ret
  exact ⟨rfl, HC.out⟩

theorem cmpR_sgn (a b : Ky) : cmpR a b = if sgnI (a.I * b.Q) (b.I * a.Q) = 0 then sgnI a.S b.S else sgnI (a.I * b.Q) (b.I * a.Q) := by
  unfold cmpR sgnI
  repeat' split
  all_goals first | rfl | omega
theorem sgn_cases (x y : Int) : sgnI x y = -1 ∨ sgnI x y = 1 ∨ sgnI x y = 0 := by 
  unfold sgnI
  repeat' split
  all_goals simp

set_option maxHeartbeats 1000000 in
theorem kcmp_any (a b : Ky) (w : World) (ha : a.fits) (hb : b.fits) : Calls Try.prog 74 #[kv a, kv b] w fun e w' => e = .returned (.int .i64 (cmpK a b)) ∧ Chg (fun _ => False) w w' := by
  have HA := Lib.hid ha; have HB := Lib.hid hb
  obtain ⟨x, hx⟩ : ∃ x, cmpK a b = x := ⟨_, rfl⟩
  rw [hx]
  have HX := Lib.hid hx
  clear ha hb hx
  obtain ⟨I, Q, S⟩ := a
  obtain ⟨J, R, T⟩ := b
  unfold kv
  have hka : Kb ((w.alloc (.cells #[.int .i64 I, .int .i64 Q, .int .i64 S] 63)).alloc (.cells #[.int .i64 J, .int .i64 R, .int .i64 T] 63)) w.heap.size 63 ⟨I, Q, S⟩ := heap_alloc2_old w _ _
  have hkb : Kb ((w.alloc (.cells #[.int .i64 I, .int .i64 Q, .int .i64 S] 63)).alloc (.cells #[.int .i64 J, .int .i64 R, .int .i64 T] 63)) (w.heap.size + 1) 63 ⟨J, R, T⟩ := heap_alloc2_new w _ _
  have hc0 : Chg (fun _ => False) w ((w.alloc (.cells #[.int .i64 I, .int .i64 Q, .int .i64 S] 63)).alloc (.cells #[.int .i64 J, .int .i64 R, .int .i64 T] 63)) := (Chg.alloc (fun _ => False) w _).trans (Chg.alloc (fun _ => False) _ _) fun _ _ h => h
  have HKA := Lib.hid hka; have HKB := Lib.hid hkb; have HC := Lib.hid hc0
  clear hka hkb hc0
  go_enter Try.func74, Try.ntmps74
  go_wp2_with fail
  refine (kright_any ⟨I, Q, S⟩ _ HA.out).mono ?_
  rintro e w1 ⟨rfl, hc1⟩
  replace HKA := Lib.hid (HKA.out.kept hc1 (by simp)); replace HKB := Lib.hid (HKB.out.kept hc1 (by simp)); replace HC := Lib.hid (HC.out.trans hc1 fun _ _ h => h)
  clear hc1
  by_cases h1 : Ky.right ⟨I, Q, S⟩
  · rw [decide_eq_true h1]
    obtain ⟨c0, c1, c2⟩ := HKB.out.cells
    simp only [] at c0 c1 c2
    go_wp2_with fail
    refine (kright_any ⟨J, R, T⟩ _ HB.out).mono ?_
    rintro e w2 ⟨rfl, hc1⟩
    replace HKA := Lib.hid (HKA.out.kept hc1 (by simp)); replace HKB := Lib.hid (HKB.out.kept hc1 (by simp)); replace HC := Lib.hid (HC.out.trans hc1 fun _ _ h => h)
    clear hc1 c0 c1 c2
    by_cases h2 : Ky.right ⟨J, R, T⟩
    · rw [decide_eq_true h2]
      have hcmp := HX.out
      unfold cmpK at hcmp
      rw [if_pos ⟨h1, h2⟩, cmpR_sgn] at hcmp
      have R1 := Lib.hid h1; have R2 := Lib.hid h2
      have HCM := Lib.hid hcmp
      clear hcmp h1 h2 HX
      have i0 : ∀ w : World, (Instr.index 108 (.agg #[.func (.func 75) #[] #[], .func (.func 76) #[] #[]]) (.int .i64 0)).run Try.prog w = .ok (.func (.func 75) #[] #[]) w := fun _ => by kernel_rfl
      have i1 : ∀ w : World, (Instr.index 108 (.agg #[.func (.func 75) #[] #[], .func (.func 76) #[] #[]]) (.int .i64 1)).run Try.prog w = .ok (.func (.func 76) #[] #[]) w := fun _ => by kernel_rfl
      go_wp2_with fail
      refine wp_loop_rounds 3 ?_
      rw [rounds_succ]
      obtain ⟨a0, a1, a2⟩ := HKA.out.cells
      obtain ⟨c0, c1, c2⟩ := HKB.out.cells
      simp only [] at a0 a1 a2 c0 c1 c2
      go_wp2_with fail
      refine (kfrac_any ⟨I, Q, S⟩ ⟨J, R, T⟩ _ R1.out R2.out).mono ?_
      rintro e w3 ⟨rfl, hc1⟩
      replace HKA := Lib.hid (HKA.out.kept hc1 (by simp)); replace HKB := Lib.hid (HKB.out.kept hc1 (by simp)); replace HC := Lib.hid (HC.out.trans hc1 fun _ _ h => h)
      clear hc1 a0 a1 a2 c0 c1 c2
      simp only [] at HCM ⊢
      rcases sgn_cases (I * R) (J * Q) with e1 | e1 | e1
      · have hx1 : x = -1 := by rw [← HCM.out, if_neg (by rw [e1]; decide), e1]
        subst hx1
        rw [e1]
        clear e1 HCM
        go_wp2
        go_ret
        exact ⟨rfl, HC.out⟩
      · have hx1 : x = 1 := by rw [← HCM.out, if_neg (by rw [e1]; decide), e1]
        subst hx1
        rw [e1]
        clear e1 HCM
        go_wp2
        go_ret
        exact ⟨rfl, HC.out⟩
      · have hx1 : x = sgnI S T := by rw [← HCM.out, if_pos e1]
        rw [e1]
        have HX1 := Lib.hid hx1
        clear e1 HCM hx1
        go_wp2_with fail
        rw [rounds_succ]
        obtain ⟨a0, a1, a2⟩ := HKA.out.cells
        obtain ⟨c0, c1, c2⟩ := HKB.out.cells
        simp only [] at a0 a1 a2 c0 c1 c2
        go_wp2_with fail
        refine (ksym_any ⟨I, Q, S⟩ ⟨J, R, T⟩ _).mono ?_
        rintro e w4 ⟨rfl, hc1⟩
        replace HC := Lib.hid (HC.out.trans hc1 fun _ _ h => h)
        clear hc1 a0 a1 a2 c0 c1 c2
        simp only []
        rw [← HX1.out]
        by_cases e2 : x = 0
        · subst e2
          clear HX1
          go_wp2_with fail
          rw [rounds_succ]
          go_wp2
          go_ret
          exact ⟨rfl, HC.out⟩
        · clear HX1
          go_wp2
          go_ret
          exact ⟨rfl, HC.out⟩
    · rw [decide_eq_false h2]
      have hd : x = 0 := by rw [← HX.out]; unfold cmpK; rw [if_neg fun h => h2 h.2]
      subst hd
      clear h1 h2 HX
      go_wp2
      go_ret
      exact ⟨rfl, HC.out⟩
  · rw [decide_eq_false h1]
    have hd : x = 0 := by rw [← HX.out]; unfold cmpK; rw [if_neg fun h => h1 h.1]
    subst hd
    clear h1 HX
    go_wp2
    go_ret
    exact ⟨rfl, HC.out⟩

/-- a key is laid into a block -/
def K3 (w : World) (g : Nat) (k : Ky) : World := ((w.setCell ⟨g, 0, none⟩ (.int .i64 k.I)).setCell ⟨g, 1, none⟩ (.int .i64 k.Q)).setCell ⟨g, 2, none⟩ (.int .i64 k.S)
theorem K3_chg (w : World) (g : Nat) (k : Ky) : Chg (fun q => q = g) w (K3 w g k) :=
  ((Chg.setCell w ⟨g, 0, none⟩ _).trans (Chg.setCell _ ⟨g, 1, none⟩ _) fun _ _ h => h).trans (Chg.setCell _ ⟨g, 2, none⟩ _) fun _ _ h => h
theorem K3_cells {w : World} {g : Nat} {t : TypeId} {k0 : Ky} (h : Kb w g t k0) (I Q S : Int) :
    (w.setCell ⟨g, 0, none⟩ (.int .i64 I)).cell? ⟨g, 0, none⟩ = some (.int .i64 I) ∧ ((w.setCell ⟨g, 0, none⟩ (.int .i64 I)).setCell ⟨g, 1, none⟩ (.int .i64 Q)).cell? ⟨g, 1, none⟩ = some (.int .i64 Q) ∧ (K3 w g ⟨I, Q, S⟩).cell? ⟨g, 2, none⟩ = some (.int .i64 S) ∧ Kb (K3 w g ⟨I, Q, S⟩) g t ⟨I, Q, S⟩ := by
  have h1 := heap_setCell_same w g 0 _ _ (.int .i64 I) h
  have h2 := heap_setCell_same _ g 1 _ _ (.int .i64 Q) h1
  have h3 := heap_setCell_same _ g 2 _ _ (.int .i64 S) h2
  exact ⟨by rw [cell_of_row _ _ 0 _ _ _ h1]; rfl, by rw [cell_of_row _ _ 1 _ _ _ h2]; rfl, by unfold K3; rw [cell_of_row _ _ 2 _ _ _ h3]; rfl, h3⟩
theorem zeroKey (W : World) : (zeroValue 63).run Try.prog W = .ok (.agg #[.int .i64 0, .int .i64 0, .int .i64 0]) W := by kernel_rfl

set_option maxHeartbeats 1000000 in
theorem knext_any (k : Ky) (w : World) (hk : k.right) : Calls Try.prog 33 #[kv k] w fun e w' => e = .returned (.tuple #[kv (nextK k), .bool (decide (Ky.right ⟨k.I + 1, k.Q, k.S⟩))]) ∧ Chg (fun _ => False) w w' := by
  obtain ⟨I, Q, S⟩ := k
  have HK := Lib.hid hk
  have hI : 0 ≤ I ∧ I ≤ 8191 := by unfold Ky.right at hk; simp only [] at hk; omega
  have hF : Ky.fits ⟨I + 1, Q, S⟩ := by unfold Ky.right at hk; unfold Ky.fits; simp only [] at hk ⊢; omega
  have HF := Lib.hid hF
  obtain ⟨hI0, hI1⟩ := hI
  clear hk hF
  simp only []
  obtain ⟨n, hn⟩ : ∃ n, nextK ⟨I, Q, S⟩ = n := ⟨_, rfl⟩
  have HN := Lib.hid hn
  clear hn
  obtain ⟨d, hd⟩ : ∃ d, decide (Ky.right ⟨I + 1, Q, S⟩) = d := ⟨_, rfl⟩
  have HD := Lib.hid hd
  rw [HN.out, hd]
  clear hd
  obtain ⟨W, hW⟩ : ∃ W, ((w.alloc (.cells #[.int .i64 I, .int .i64 Q, .int .i64 S] 63)).alloc (.cells #[.int .i64 0, .int .i64 0, .int .i64 0] 63)).alloc (.cells #[.int .i64 (I + 1), .int .i64 Q, .int .i64 S] 63) = W := ⟨_, rfl⟩
  have hc0 : Chg (fun _ => False) w W := by rw [← hW]; exact ((Chg.alloc (fun _ => False) w _).trans (Chg.alloc (fun _ => False) _ _) fun _ _ h => h).trans (Chg.alloc (fun _ => False) _ _) fun _ _ h => h
  have hr : Kb W (w.heap.size + 1) 63 ⟨0, 0, 0⟩ := by rw [← hW]; exact Kb.kept (S := fun _ => False) (show Kb ((w.alloc _).alloc _) _ _ ⟨0, 0, 0⟩ from heap_alloc2_new w _ _) (Chg.alloc _ _ _) (by simp)
  have hn : Kb W (w.heap.size + 1 + 1) 63 ⟨I + 1, Q, S⟩ := by rw [← hW]; exact (by simpa using Kb.of_alloc ((w.alloc (.cells #[.int .i64 I, .int .i64 Q, .int .i64 S] 63)).alloc (.cells #[.int .i64 0, .int .i64 0, .int .i64 0] 63)) 63 ⟨I + 1, Q, S⟩)
  have HC := Lib.hid hc0; have HR := Lib.hid hr; have HNX := Lib.hid hn; have HW := Lib.hid hW
  clear hc0 hr hn hW
  have hz := zeroKey
  unfold kv
  simp only []
  go_enter Try.func33, Try.ntmps33
  go_wp2_with fail
  rw [HW.out]
  refine (kright_any ⟨I, Q, S⟩ _ HK.out.fits).mono ?_
  rintro e w1 ⟨rfl, hc1⟩
  replace HR := Lib.hid (HR.out.kept hc1 (by simp)); replace HNX := Lib.hid (HNX.out.kept hc1 (by simp)); replace HC := Lib.hid (HC.out.trans hc1 fun _ _ h => h)
  rw [decide_eq_true HK.out]
  clear hc1 HW
  obtain ⟨c0, c1, c2⟩ := HNX.out.cells
  simp only [] at c0 c1 c2
  go_wp2_with fail
  refine (kright_any ⟨I + 1, Q, S⟩ _ HF.out).mono ?_
  rintro e w2 ⟨rfl, hc1⟩
  replace HR := Lib.hid (HR.out.kept hc1 (by simp)); replace HNX := Lib.hid (HNX.out.kept hc1 (by simp)); replace HC := Lib.hid (HC.out.trans hc1 fun _ _ h => h)
  rw [HD.out]
  clear hc1 c0 c1 c2
  obtain ⟨gr, hgr⟩ : ∃ g, w.heap.size + 1 = g := ⟨_, rfl⟩
  obtain ⟨gn, hgn⟩ : ∃ g, w.heap.size + 1 + 1 = g := ⟨_, rfl⟩
  rw [hgr] at HR
  rw [hgn] at HNX
  have HG := Lib.hid hgr
  rw [hgr] at hgn ⊢
  rw [hgn]
  clear hgr hgn W
  cases d
  · have hne : n = ⟨0, 0, 0⟩ := by rw [← HN.out]; unfold nextK; rw [if_neg (of_decide_eq_false HD.out)]
    subst hne
    obtain ⟨y0, y1, y2, hkb⟩ := K3_cells HR.out 0 0 0
    have hcf := HC.out.trans (K3_chg w2 gr ⟨0, 0, 0⟩) fun q hq he => by have := HG.out; omega
    obtain ⟨z0, z1, z2⟩ := HR.out.cells
    obtain ⟨u0, u1, u2⟩ := hkb.cells
    have hl := hkb.loadF
    unfold kv at hl
    unfold K3 at y2 u0 u1 u2 hcf hl
    simp only [] at z0 z1 z2 u0 u1 u2 hcf hl
    have HCF := Lib.hid hcf
    clear hcf hkb
    have f0 := frozen_of_row w2 gr 0 _ _ HR.out
    have f1 := frozen_of_row w2 gr 1 _ _ HR.out
    have f2 := frozen_of_row w2 gr 2 _ _ HR.out
    go_wp2
    refine bodyPost_ret (v := .tuple #[.agg #[.int .i64 0, .int .i64 0, .int .i64 0], .bool false]) (by simp [results, Try.results33, go_sem, y0, y1, y2]; try rfl) rfl ?_
    exact ⟨rfl, HCF.out⟩
  · have hne : n = ⟨I + 1, Q, S⟩ := by rw [← HN.out]; unfold nextK; rw [if_pos (of_decide_eq_true HD.out)]
    subst hne
    obtain ⟨y0, y1, y2, hkb⟩ := K3_cells HR.out (I + 1) Q S
    have hcf := HC.out.trans (K3_chg w2 gr ⟨I + 1, Q, S⟩) fun q hq he => by have := HG.out; omega
    obtain ⟨z0, z1, z2⟩ := HR.out.cells
    obtain ⟨u0, u1, u2⟩ := hkb.cells
    obtain ⟨c0, c1, c2⟩ := HNX.out.cells
    have hl := hkb.loadF
    unfold kv at hl
    unfold K3 at y2 u0 u1 u2 hcf hl
    simp only [] at z0 z1 z2 u0 u1 u2 c0 c1 c2 hcf hl
    have HCF := Lib.hid hcf
    clear hcf hkb
    have f0 := frozen_of_row w2 gr 0 _ _ HR.out
    have f1 := frozen_of_row w2 gr 1 _ _ HR.out
    have f2 := frozen_of_row w2 gr 2 _ _ HR.out
    go_wp2
    refine bodyPost_ret (v := .tuple #[.agg #[.int .i64 (I + 1), .int .i64 Q, .int .i64 S], .bool true]) (by simp [results, Try.results33, go_sem, y0, y1, y2]; try rfl) rfl ?_
    exact ⟨rfl, HCF.out⟩

end Go.Proofs.Ytbopamcnlocdbaa
