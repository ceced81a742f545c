/- Texts that other texts of this claim rest on, one behind the other (FrMath FrRef FrProg KqBase KqHeap KqSwap KqOps KqMath HsHist HpA HpAB NqBase NqMath NqHeap NqSwap NqDiv NqOps NqFill NqThin NmProg BwParts BwMany BfRead ApBytes SpProgA SpProgB SpProg EtProgB LgRef RowCe DtRef DtOf LgLen LgProg). -/
import Derived.Test.YtokeoebhmjefoaaGreatBase2
import Derived.Handy
import Derived.BigQuiet
import Derived.StillTailTactics
import Derived.BigRegion
import Derived.Deep.RegionHeld3
import Derived.WalkSmall
import Derived.OneCell
import Derived.Deep.AppendLies
import Derived.Deep.RegionLaw
import Derived.Laws.MathBits
/- Plain mathematics of chapter 9: fractions held against each other. -/
namespace Go.Proofs.YtokeoebhmjefoaaGreat
open Go

/-- a key -/
structure Ky where
  I : Int
  Q : Int
  S : Int
  deriving DecidableEq

def Ky.right (k : Ky) : Prop := 1 ≤ k.Q ∧ k.Q ≤ 4096 ∧ k.Q ≤ k.I ∧ k.I ≤ 2 * k.Q - 1 ∧ 0 ≤ k.S ∧ k.S ≤ 255
instance Ky.right_dec (k : Ky) : Decidable k.right := by unfold Ky.right; infer_instance

/-- how two right keys are to each other -/
def cmpR (a b : Ky) : Int :=
  if a.I * b.Q < b.I * a.Q ∨ (a.I * b.Q = b.I * a.Q ∧ a.S < b.S) then -1
  else if b.I * a.Q < a.I * b.Q ∨ (a.I * b.Q = b.I * a.Q ∧ b.S < a.S) then 1 else 0
def cmpK (a b : Ky) : Int := if a.right ∧ b.right then cmpR a b else 0

theorem cmpR_cases (a b : Ky) : (cmpR a b = -1 ∧ (a.I * b.Q < b.I * a.Q ∨ (a.I * b.Q = b.I * a.Q ∧ a.S < b.S))) ∨ (cmpR a b = 1 ∧ (b.I * a.Q < a.I * b.Q ∨ (a.I * b.Q = b.I * a.Q ∧ b.S < a.S))) ∨ (cmpR a b = 0 ∧ a.I * b.Q = b.I * a.Q ∧ a.S = b.S) := by
  unfold cmpR
  by_cases h1 : a.I * b.Q < b.I * a.Q ∨ (a.I * b.Q = b.I * a.Q ∧ a.S < b.S)
  · rw [if_pos h1]; exact .inl ⟨rfl, h1⟩
  · rw [if_neg h1]
    by_cases h2 : b.I * a.Q < a.I * b.Q ∨ (a.I * b.Q = b.I * a.Q ∧ b.S < a.S)
    · rw [if_pos h2]; exact .inr (.inl ⟨rfl, h2⟩)
    · rw [if_neg h2]
      have e : a.I * b.Q = b.I * a.Q := by omega
      have e2 : a.S = b.S := by omega
      exact .inr (.inr ⟨rfl, e, e2⟩)

theorem cmpR_turn (a b : Ky) : cmpR b a = -cmpR a b := by
  rcases cmpR_cases a b with ⟨h, h'⟩ | ⟨h, h'⟩ | ⟨h, h', h''⟩ <;> rcases cmpR_cases b a with ⟨g, g'⟩ | ⟨g, g'⟩ | ⟨g, g', g''⟩ <;> omega
theorem cmpR_self (a : Ky) : cmpR a a = 0 := by
  rcases cmpR_cases a a with ⟨h, h'⟩ | ⟨h, h'⟩ | ⟨h, _⟩
  · omega
  · omega
  · exact h
theorem cmpR_zero (a b : Ky) : cmpR a b = 0 ↔ (a.I * b.Q = b.I * a.Q ∧ a.S = b.S) := by
  rcases cmpR_cases a b with ⟨h, h'⟩ | ⟨h, h'⟩ | ⟨h, h', h''⟩
  · constructor
    · intro h0; omega
    · intro h0; omega
  · constructor
    · intro h0; omega
    · intro h0; omega
  · exact ⟨fun _ => ⟨h', h''⟩, fun _ => h⟩

/-- a's fraction is no more than b's, nor b's than c's: nor is a's more than c's -/
theorem frac_trans {ai aq bi bq ci cq : Int} (hb : 0 < bq) (ha : 0 < aq) (hc : 0 < cq) (h1 : ai * bq ≤ bi * aq) (h2 : bi * cq ≤ ci * bq) : ai * cq ≤ ci * aq ∧ (ai * bq < bi * aq ∨ bi * cq < ci * bq → ai * cq < ci * aq) := by
  have k1 : ai * bq * cq ≤ bi * aq * cq := Int.mul_le_mul_of_nonneg_right h1 (by omega)
  have k2 : bi * cq * aq ≤ ci * bq * aq := Int.mul_le_mul_of_nonneg_right h2 (by omega)
  have e1 : bi * aq * cq = bi * cq * aq := by rw [Int.mul_assoc, Int.mul_comm aq cq, ← Int.mul_assoc]
  have e2 : ai * bq * cq = ai * cq * bq := by rw [Int.mul_assoc, Int.mul_comm bq cq, ← Int.mul_assoc]
  have e3 : ci * bq * aq = ci * aq * bq := by rw [Int.mul_assoc, Int.mul_comm bq aq, ← Int.mul_assoc]
  refine ⟨Int.le_of_mul_le_mul_right (by omega : ai * cq * bq ≤ ci * aq * bq) hb, fun h => ?_⟩
  refine Int.lt_of_mul_lt_mul_right (a := bq) ?_ (by omega)
  rcases h with h | h
  · have := Int.mul_lt_mul_of_pos_right h hc; omega
  · have := Int.mul_lt_mul_of_pos_right h ha; omega

theorem cmpR_trans {a b c : Ky} (ha : 0 < a.Q) (hb : 0 < b.Q) (hc : 0 < c.Q) (h1 : cmpR a b ≤ 0) (h2 : cmpR b c ≤ 0) : cmpR a c ≤ 0 := by
  have k1 : a.I * b.Q ≤ b.I * a.Q ∧ (a.I * b.Q = b.I * a.Q → a.S ≤ b.S) := by
    rcases cmpR_cases a b with ⟨h, h'⟩ | ⟨h, h'⟩ | ⟨h, h', h''⟩ <;> omega
  have k2 : b.I * c.Q ≤ c.I * b.Q ∧ (b.I * c.Q = c.I * b.Q → b.S ≤ c.S) := by
    rcases cmpR_cases b c with ⟨h, h'⟩ | ⟨h, h'⟩ | ⟨h, h', h''⟩ <;> omega
  obtain ⟨t1, t2⟩ := frac_trans hb ha hc k1.1 k2.1
  have t3 : a.I * c.Q = c.I * a.Q → a.S ≤ c.S := fun e => by
    have n1 : ¬ (a.I * b.Q < b.I * a.Q ∨ b.I * c.Q < c.I * b.Q) := fun hh => by have := t2 hh; omega
    have := k1.2 (by omega)
    have := k2.2 (by omega)
    omega
  rcases cmpR_cases a c with ⟨h, h'⟩ | ⟨h, h'⟩ | ⟨h, h', h''⟩ <;> omega

theorem cmpR_trans2 {a b c : Ky} (ha : 0 < a.Q) (hb : 0 < b.Q) (hc : 0 < c.Q) (h1 : 0 ≤ cmpR a b) (h2 : 0 ≤ cmpR b c) : 0 ≤ cmpR a c := by
  have t1 := cmpR_turn a b
  have t2 := cmpR_turn b c
  have t3 := cmpR_turn a c
  have := cmpR_trans hc hb ha (show cmpR c b ≤ 0 by omega) (show cmpR b a ≤ 0 by omega)
  omega

/-- the middle one -/
theorem cmpR_mid (a b c : Ky) (hI : c.I = a.I + b.I) (hQ : c.Q = a.Q + b.Q) (hS : a.S = b.S) (hS2 : c.S = a.S) : cmpR a c = cmpR a b ∧ cmpR c b = cmpR a b := by
  have e1 : a.I * c.Q = a.I * a.Q + a.I * b.Q := by rw [hQ, Int.mul_add]
  have e2 : c.I * a.Q = a.I * a.Q + b.I * a.Q := by rw [hI, Int.add_mul]
  have e3 : c.I * b.Q = a.I * b.Q + b.I * b.Q := by rw [hI, Int.add_mul]
  have e4 : b.I * c.Q = b.I * a.Q + b.I * b.Q := by rw [hQ, Int.mul_add]
  constructor
  · rcases cmpR_cases a c with ⟨h, h'⟩ | ⟨h, h'⟩ | ⟨h, h', h''⟩ <;> rcases cmpR_cases a b with ⟨g, g'⟩ | ⟨g, g'⟩ | ⟨g, g', g''⟩ <;> omega
  · rcases cmpR_cases c b with ⟨h, h'⟩ | ⟨h, h'⟩ | ⟨h, h', h''⟩ <;> rcases cmpR_cases a b with ⟨g, g'⟩ | ⟨g, g'⟩ | ⟨g, g', g''⟩ <;> omega

/-- so many times, rounded down and up -/
def loK (k : Ky) (l : Int) : Int := l * k.I / k.Q
def hiK (k : Ky) (l : Int) : Int := (l * k.I + k.Q - 1) / k.Q
theorem scaled_spec (k : Ky) (l : Int) (hq : 0 < k.Q) : loK k l * k.Q ≤ l * k.I ∧ l * k.I < loK k l * k.Q + k.Q ∧ l * k.I ≤ hiK k l * k.Q ∧ hiK k l * k.Q < l * k.I + k.Q := by
  unfold loK hiK
  have a1 := Int.mul_ediv_add_emod (l * k.I) k.Q
  have a2 := Int.emod_nonneg (l * k.I) (show k.Q ≠ 0 by omega)
  have a3 := Int.emod_lt_of_pos (l * k.I) hq
  have b1 := Int.mul_ediv_add_emod (l * k.I + k.Q - 1) k.Q
  have b2 := Int.emod_nonneg (l * k.I + k.Q - 1) (show k.Q ≠ 0 by omega)
  have b3 := Int.emod_lt_of_pos (l * k.I + k.Q - 1) hq
  rw [Int.mul_comm k.Q (l * k.I / k.Q)] at a1
  rw [Int.mul_comm k.Q ((l * k.I + k.Q - 1) / k.Q)] at b1
  omega

theorem scaled_unique {q n lo hi : Int} (hq : 0 < q) (h1 : lo * q ≤ n) (h2 : n < lo * q + q) (h3 : n ≤ hi * q) (h4 : hi * q < n + q) : lo = n / q ∧ hi = (n + q - 1) / q := by
  constructor
  · symm
    refine Int.le_antisymm ?_ ?_
    · have : n / q < lo + 1 := Int.ediv_lt_of_lt_mul hq (by rw [Int.add_mul, Int.one_mul]; exact h2)
      omega
    · exact Int.le_ediv_of_mul_le hq h1
  · symm
    refine Int.le_antisymm ?_ ?_
    · have : (n + q - 1) / q < hi + 1 := Int.ediv_lt_of_lt_mul hq (by rw [Int.add_mul, Int.one_mul]; omega)
      omega
    · exact Int.le_ediv_of_mul_le hq (by omega)

theorem scaled_times (k : Ky) (l f : Int) (hq : 0 < k.Q) (hf : 0 < f) : loK ⟨k.I * f, k.Q * f, k.S⟩ l = loK k l ∧ hiK ⟨k.I * f, k.Q * f, k.S⟩ l = hiK k l := by
  have s := scaled_spec k l hq
  have hqf : 0 < k.Q * f := Int.mul_pos hq hf
  have e : l * (k.I * f) = l * k.I * f := by rw [Int.mul_assoc]
  have e1 : loK k l * (k.Q * f) = loK k l * k.Q * f := by rw [Int.mul_assoc]
  have e2 : hiK k l * (k.Q * f) = hiK k l * k.Q * f := by rw [Int.mul_assoc]
  have m1 := Int.mul_le_mul_of_nonneg_right s.1 (show 0 ≤ f by omega)
  have m2 := Int.mul_lt_mul_of_pos_right s.2.1 hf
  have m3 := Int.mul_le_mul_of_nonneg_right s.2.2.1 (show 0 ≤ f by omega)
  have m4 := Int.mul_lt_mul_of_pos_right s.2.2.2 hf
  rw [Int.add_mul] at m2 m4
  have u := scaled_unique (q := k.Q * f) (n := l * (k.I * f)) (lo := loK k l) (hi := hiK k l) hqf (by omega) (by omega) (by omega) (by omega)
  exact ⟨u.1.symm, u.2.symm⟩

theorem scaled_bound (k : Ky) (l : Int) (h : k.right) (h1 : 1 ≤ l) (h2 : l ≤ 4096) : 0 ≤ loK k l ∧ loK k l ≤ 8192 ∧ 0 ≤ hiK k l ∧ hiK k l ≤ 8192 := by
  obtain ⟨q1, q2, i1, i2, _, _⟩ := h
  have s := scaled_spec k l (by omega)
  have hn0 : 0 ≤ l * k.I := Int.mul_nonneg (by omega) (by omega)
  have hn : l * k.I ≤ l * (2 * k.Q - 1) := Int.mul_le_mul_of_nonneg_left i2 (by omega)
  have e : l * (2 * k.Q - 1) = l * 2 * k.Q - l := by rw [Int.mul_sub, Int.mul_one, ← Int.mul_assoc]
  have lo0 : 0 ≤ loK k l := Int.ediv_nonneg hn0 (by omega)
  have hi0 : 0 ≤ hiK k l := Int.ediv_nonneg (by omega) (by omega)
  have hlo : loK k l * k.Q ≤ l * 2 * k.Q := by omega
  have hhi : hiK k l * k.Q < (l * 2 + 1) * k.Q := by rw [Int.add_mul, Int.one_mul]; omega
  have a1 := Int.le_of_mul_le_mul_right hlo (by omega)
  have a2 := Int.lt_of_mul_lt_mul_right hhi (by omega)
  omega

end Go.Proofs.YtokeoebhmjefoaaGreat

/- Keys as values; what the document's own frac (puncheonref09) tells. -/
namespace Go.Proofs.YtokeoebhmjefoaaGreat
open Go.RowKit

/-- a key as a value -/
def kv (k : Ky) : Value := .agg #[.int .i64 k.I, .int .i64 k.Q, .int .i64 k.S]
/-- numbers that an int holds -/
def Ky.fits (k : Ky) : Prop := (-9223372036854775808 ≤ k.I ∧ k.I ≤ 9223372036854775807) ∧ (-9223372036854775808 ≤ k.Q ∧ k.Q ≤ 9223372036854775807) ∧ (-9223372036854775808 ≤ k.S ∧ k.S ≤ 9223372036854775807)

/-- the key that is made of small numbers -/
def madeK (i q s : Nat) : Ky := ⟨(((1 + q % 4096) + i % (1 + q % 4096) : Nat) : Int), ((1 + q % 4096 : Nat) : Int), (s : Int)⟩
theorem madeK_right (i q s : Nat) (hs : s < 256) : (madeK i q s).right := by
  have h := Nat.mod_lt i (show 0 < 1 + q % 4096 by omega)
  unfold madeK Ky.right
  simp only []
  omega
theorem Ky.right.fits {k : Ky} (h : k.right) : k.fits := by
  unfold Ky.right at h; unfold Ky.fits; omega

/-- a block that holds a key, of either type -/
def Kb (w : World) (g : Nat) (t : TypeId) (k : Ky) : Prop := w.heap[g]? = some (.cells #[.int .i64 k.I, .int .i64 k.Q, .int .i64 k.S] t (0, 0))
theorem Kb.kept {S : Nat → Prop} {w w' : World} {g : Nat} {t : TypeId} {k : Ky} (h : Kb w g t k) (hc : Chg S w w') (hS : ¬ S g) : Kb w' g t k := (hc.block g (lt_of_block h) hS).trans h
theorem Kb.lt {w : World} {g : Nat} {t : TypeId} {k : Ky} (h : Kb w g t k) : g < w.heap.size := lt_of_block h
theorem Kb.cells {w : World} {g : Nat} {t : TypeId} {k : Ky} (h : Kb w g t k) : w.cell? ⟨g, 0, none⟩ = some (.int .i64 k.I) ∧ w.cell? ⟨g, 1, none⟩ = some (.int .i64 k.Q) ∧ w.cell? ⟨g, 2, none⟩ = some (.int .i64 k.S) :=
  ⟨by rw [cell_of_row w g 0 _ _ _ h]; rfl, by rw [cell_of_row w g 1 _ _ _ h]; rfl, by rw [cell_of_row w g 2 _ _ _ h]; rfl⟩
theorem Kb.loadF {w : World} {g : Nat} {k : Ky} (h : Kb w g 125 k) : (loadVar 125 ⟨g, 0, none⟩).run Tryz.prog w = .ok (kv k) w := run_loadVar_row w g _ _ _ _ _ h Tryz.underlying125 rfl (by kernel_rfl)

/-- a key that was boxed, or laid into a variable of its own -/
theorem Kb.of_alloc (w : World) (t : TypeId) (k : Ky) : Kb (w.alloc (.cells #[.int .i64 k.I, .int .i64 k.Q, .int .i64 k.S] t)) w.heap.size t k := heap_alloc_new w _

theorem prod_bound {a b : Int} (h1 : 0 ≤ a) (h2 : a ≤ 8192) (h3 : 0 ≤ b) (h4 : b ≤ 8192) : 0 ≤ a * b ∧ a * b ≤ 67108864 :=
  ⟨Int.mul_nonneg h1 h3, Int.le_trans (Int.mul_le_mul h2 h4 h3 (by omega)) (by decide)⟩

end Go.Proofs.YtokeoebhmjefoaaGreat

/- What frac's Right, Cmp, Next and Scaled tell: the program's own text. -/
namespace Go.Proofs.YtokeoebhmjefoaaGreat
open Go.RowKit

/-- the next key, if it is right -/
def nextK (k : Ky) : Ky := if Ky.right ⟨k.I + 1, k.Q, k.S⟩ then ⟨k.I + 1, k.Q, k.S⟩ else ⟨0, 0, 0⟩
/-- l times the fraction, down and up -/
def scK (k : Ky) (l : Int) : Int × Int := if k.right ∧ 1 ≤ l ∧ l ≤ 4096 then (loK k l, hiK k l) else (0, 0)

set_option maxHeartbeats 1000000 in
theorem kright_any (k : Ky) (w : World) (_hf : k.fits) : Calls Tryz.prog 85 #[kv k] w fun e w' => e = .returned (.bool (decide k.right)) ∧ Chg (fun _ => False) w w' := by
  obtain ⟨I, Q, S⟩ := k
  have hca := Chg.alloc (fun _ => False) w (.cells #[.int .i64 I, .int .i64 Q, .int .i64 S] 125)
  have HCA := Lib.hid hca
  clear hca
  unfold kv
  have hd : Ky.right ⟨I, Q, S⟩ ↔ (1 ≤ Q ∧ Q ≤ 4096 ∧ Q ≤ I ∧ I < 2 * Q ∧ 0 ≤ S ∧ S < 256) := by unfold Ky.right; simp only []; omega
  by_cases h1 : 1 ≤ Q
  · by_cases h2 : Q ≤ 4096
    · by_cases h3 : Q ≤ I
      · by_cases h4 : I < 2 * Q
        · by_cases h5 : 0 ≤ S
          · by_cases h6 : S < 256
            · rw [decide_eq_true (hd.2 ⟨h1, h2, h3, h4, h5, h6⟩)]
              clear hd
              go_enter Tryz.func85, Tryz.ntmps85
              go_wp2
              go_ret
              exact ⟨rfl, HCA.out⟩
            · rw [decide_eq_false (fun hh => h6 (hd.1 hh).2.2.2.2.2)]
              clear hd
              go_enter Tryz.func85, Tryz.ntmps85
              go_wp2
              go_ret
              exact ⟨rfl, HCA.out⟩
          · rw [decide_eq_false (fun hh => h5 (hd.1 hh).2.2.2.2.1)]
            clear hd
            go_enter Tryz.func85, Tryz.ntmps85
            go_wp2
            go_ret
            exact ⟨rfl, HCA.out⟩
        · rw [decide_eq_false (fun hh => h4 (hd.1 hh).2.2.2.1)]
          clear hd
          go_enter Tryz.func85, Tryz.ntmps85
          go_wp2
          go_ret
          exact ⟨rfl, HCA.out⟩
      · rw [decide_eq_false (fun hh => h3 (hd.1 hh).2.2.1)]
        clear hd
        go_enter Tryz.func85, Tryz.ntmps85
        go_wp2
        go_ret
        exact ⟨rfl, HCA.out⟩
    · rw [decide_eq_false (fun hh => h2 (hd.1 hh).2.1)]
      clear hd
      go_enter Tryz.func85, Tryz.ntmps85
      go_wp2
      go_ret
      exact ⟨rfl, HCA.out⟩
  · rw [decide_eq_false (fun hh => h1 (hd.1 hh).1)]
    clear hd
    go_enter Tryz.func85, Tryz.ntmps85
    go_wp2
    go_ret
    exact ⟨rfl, HCA.out⟩

/-- which of two numbers is less -/
def sgnI (x y : Int) : Int := if x < y then -1 else if y < x then 1 else 0

set_option maxHeartbeats 1000000 in
theorem ccmp_any (x y : Int) (w : World) : Calls Tryz.prog 119 #[.int .i64 x, .int .i64 y] w fun e w' => e = .returned (.int .i64 (sgnI x y)) ∧ w' = w := by
  unfold sgnI
  by_cases h1 : x < y
  · rw [if_pos h1]
    go_enter Tryz.func119, Tryz.ntmps119
    go_wp2
    go_ret
    exact ⟨rfl, rfl⟩
  · rw [if_neg h1]
    by_cases h2 : y < x
    · rw [if_pos h2]
      go_enter Tryz.func119, Tryz.ntmps119
      go_wp2
      go_ret
      exact ⟨rfl, rfl⟩
    · rw [if_neg h2]
      go_enter Tryz.func119, Tryz.ntmps119
      go_wp2
      go_ret
      exact ⟨rfl, rfl⟩

set_option maxHeartbeats 1000000 in
theorem kfrac_any (a b : Ky) (w : World) (ha : a.right) (hb : b.right) : Calls Tryz.prog 117 #[kv a, kv b] w fun e w' => e = .returned (.int .i64 (sgnI (a.I * b.Q) (b.I * a.Q))) ∧ Chg (fun _ => False) w w' := by
  obtain ⟨I, Q, S⟩ := a
  obtain ⟨J, R, T⟩ := b
  unfold Ky.right at ha hb
  simp only [] at ha hb ⊢
  have b1 := prod_bound (a := I) (b := R) (by omega) (by omega) (by omega) (by omega)
  have b2 := prod_bound (a := J) (b := Q) (by omega) (by omega) (by omega) (by omega)
  obtain ⟨X, hX⟩ : ∃ X, I * R = X := ⟨_, rfl⟩
  obtain ⟨Y, hY⟩ : ∃ Y, J * Q = Y := ⟨_, rfl⟩
  rw [hX] at b1 ⊢
  rw [hY] at b2 ⊢
  obtain ⟨b10, b11⟩ := b1
  obtain ⟨b20, b21⟩ := b2
  unfold kv
  have hc0 : Chg (fun _ => False) w ((w.alloc (.cells #[.int .i64 I, .int .i64 Q, .int .i64 S] 125)).alloc (.cells #[.int .i64 J, .int .i64 R, .int .i64 T] 125)) := (Chg.alloc (fun _ => False) w _).trans (Chg.alloc (fun _ => False) _ _) fun _ _ h => h
  have HC := Lib.hid hc0
  clear hc0 ha hb
  go_enter Tryz.func117, Tryz.ntmps117
  go_wp2_with fail
  refine (ccmp_any X Y _).mono ?_
  rintro e w1 ⟨rfl, rfl⟩
  go_wp2
  go_ret
  exact ⟨rfl, HC.out⟩

set_option maxHeartbeats 1000000 in
theorem ksym_any (a b : Ky) (w : World) : Calls Tryz.prog 118 #[kv a, kv b] w fun e w' => e = .returned (.int .i64 (sgnI a.S b.S)) ∧ Chg (fun _ => False) w w' := by
  obtain ⟨I, Q, S⟩ := a
  obtain ⟨J, R, T⟩ := b
  simp only []
  unfold kv
  have hc0 : Chg (fun _ => False) w ((w.alloc (.cells #[.int .i64 I, .int .i64 Q, .int .i64 S] 125)).alloc (.cells #[.int .i64 J, .int .i64 R, .int .i64 T] 125)) := (Chg.alloc (fun _ => False) w _).trans (Chg.alloc (fun _ => False) _ _) fun _ _ h => h
  have HC := Lib.hid hc0
  clear hc0
  go_enter Tryz.func118, Tryz.ntmps118
  go_wp2_with fail
  refine (ccmp_any S T _).mono ?_
  rintro e w1 ⟨rfl, rfl⟩
  go_wp2
  go_ret
  exact ⟨rfl, HC.out⟩

theorem cmpR_sgn (a b : Ky) : cmpR a b = if sgnI (a.I * b.Q) (b.I * a.Q) = 0 then sgnI a.S b.S else sgnI (a.I * b.Q) (b.I * a.Q) := by
  unfold cmpR sgnI
  repeat' split
  all_goals first | rfl | omega
theorem sgn_cases (x y : Int) : sgnI x y = -1 ∨ sgnI x y = 1 ∨ sgnI x y = 0 := by 
  unfold sgnI
  repeat' split
  all_goals simp

set_option maxHeartbeats 1000000 in
theorem kcmp_any (a b : Ky) (w : World) (ha : a.fits) (hb : b.fits) : Calls Tryz.prog 116 #[kv a, kv b] w fun e w' => e = .returned (.int .i64 (cmpK a b)) ∧ Chg (fun _ => False) w w' := by
  have HA := Lib.hid ha; have HB := Lib.hid hb
  obtain ⟨x, hx⟩ : ∃ x, cmpK a b = x := ⟨_, rfl⟩
  rw [hx]
  have HX := Lib.hid hx
  clear ha hb hx
  obtain ⟨I, Q, S⟩ := a
  obtain ⟨J, R, T⟩ := b
  unfold kv
  have hka : Kb ((w.alloc (.cells #[.int .i64 I, .int .i64 Q, .int .i64 S] 125)).alloc (.cells #[.int .i64 J, .int .i64 R, .int .i64 T] 125)) w.heap.size 125 ⟨I, Q, S⟩ := heap_alloc2_old w _ _
  have hkb : Kb ((w.alloc (.cells #[.int .i64 I, .int .i64 Q, .int .i64 S] 125)).alloc (.cells #[.int .i64 J, .int .i64 R, .int .i64 T] 125)) (w.heap.size + 1) 125 ⟨J, R, T⟩ := heap_alloc2_new w _ _
  have hc0 : Chg (fun _ => False) w ((w.alloc (.cells #[.int .i64 I, .int .i64 Q, .int .i64 S] 125)).alloc (.cells #[.int .i64 J, .int .i64 R, .int .i64 T] 125)) := (Chg.alloc (fun _ => False) w _).trans (Chg.alloc (fun _ => False) _ _) fun _ _ h => h
  have HKA := Lib.hid hka; have HKB := Lib.hid hkb; have HC := Lib.hid hc0
  clear hka hkb hc0
  go_enter Tryz.func116, Tryz.ntmps116
  go_wp2_with fail
  refine (kright_any ⟨I, Q, S⟩ _ HA.out).mono ?_
  rintro e w1 ⟨rfl, hc1⟩
  replace HKA := Lib.hid (HKA.out.kept hc1 (by simp)); replace HKB := Lib.hid (HKB.out.kept hc1 (by simp)); replace HC := Lib.hid (HC.out.trans hc1 fun _ _ h => h)
  clear hc1
  by_cases h1 : Ky.right ⟨I, Q, S⟩
  · rw [decide_eq_true h1]
    obtain ⟨c0, c1, c2⟩ := HKB.out.cells
    simp only [] at c0 c1 c2
    go_wp2_with fail
    refine (kright_any ⟨J, R, T⟩ _ HB.out).mono ?_
    rintro e w2 ⟨rfl, hc1⟩
    replace HKA := Lib.hid (HKA.out.kept hc1 (by simp)); replace HKB := Lib.hid (HKB.out.kept hc1 (by simp)); replace HC := Lib.hid (HC.out.trans hc1 fun _ _ h => h)
    clear hc1 c0 c1 c2
    by_cases h2 : Ky.right ⟨J, R, T⟩
    · rw [decide_eq_true h2]
      have hcmp := HX.out
      unfold cmpK at hcmp
      rw [if_pos ⟨h1, h2⟩, cmpR_sgn] at hcmp
      have R1 := Lib.hid h1; have R2 := Lib.hid h2
      have HCM := Lib.hid hcmp
      clear hcmp h1 h2 HX
      have i0 : ∀ w : World, (Instr.index 172 (.agg #[.func (.func 117) #[] #[], .func (.func 118) #[] #[]]) (.int .i64 0)).run Tryz.prog w = .ok (.func (.func 117) #[] #[]) w := fun _ => by kernel_rfl
      have i1 : ∀ w : World, (Instr.index 172 (.agg #[.func (.func 117) #[] #[], .func (.func 118) #[] #[]]) (.int .i64 1)).run Tryz.prog w = .ok (.func (.func 118) #[] #[]) w := fun _ => by kernel_rfl
      go_wp2_with fail
      refine wp_loop_rounds 3 ?_
      rw [rounds_succ]
      obtain ⟨a0, a1, a2⟩ := HKA.out.cells
      obtain ⟨c0, c1, c2⟩ := HKB.out.cells
      simp only [] at a0 a1 a2 c0 c1 c2
      go_wp2_with fail
      refine (kfrac_any ⟨I, Q, S⟩ ⟨J, R, T⟩ _ R1.out R2.out).mono ?_
      rintro e w3 ⟨rfl, hc1⟩
      replace HKA := Lib.hid (HKA.out.kept hc1 (by simp)); replace HKB := Lib.hid (HKB.out.kept hc1 (by simp)); replace HC := Lib.hid (HC.out.trans hc1 fun _ _ h => h)
      clear hc1 a0 a1 a2 c0 c1 c2
      simp only [] at HCM ⊢
      rcases sgn_cases (I * R) (J * Q) with e1 | e1 | e1
      · have hx1 : x = -1 := by rw [← HCM.out, if_neg (by rw [e1]; decide), e1]
        subst hx1
        rw [e1]
        clear e1 HCM
        go_wp2
        go_ret
        exact ⟨rfl, HC.out⟩
      · have hx1 : x = 1 := by rw [← HCM.out, if_neg (by rw [e1]; decide), e1]
        subst hx1
        rw [e1]
        clear e1 HCM
        go_wp2
        go_ret
        exact ⟨rfl, HC.out⟩
      · have hx1 : x = sgnI S T := by rw [← HCM.out, if_pos e1]
        rw [e1]
        have HX1 := Lib.hid hx1
        clear e1 HCM hx1
        go_wp2_with fail
        rw [rounds_succ]
        obtain ⟨a0, a1, a2⟩ := HKA.out.cells
        obtain ⟨c0, c1, c2⟩ := HKB.out.cells
        simp only [] at a0 a1 a2 c0 c1 c2
        go_wp2_with fail
        refine (ksym_any ⟨I, Q, S⟩ ⟨J, R, T⟩ _).mono ?_
        rintro e w4 ⟨rfl, hc1⟩
        replace HC := Lib.hid (HC.out.trans hc1 fun _ _ h => h)
        clear hc1 a0 a1 a2 c0 c1 c2
        simp only []
        rw [← HX1.out]
        by_cases e2 : x = 0
        · subst e2
          clear HX1
          go_wp2_with fail
          rw [rounds_succ]
          go_wp2
          go_ret
          exact ⟨rfl, HC.out⟩
        · clear HX1
          go_wp2
          go_ret
          exact ⟨rfl, HC.out⟩
    · rw [decide_eq_false h2]
      have hd : x = 0 := by rw [← HX.out]; unfold cmpK; rw [if_neg fun h => h2 h.2]
      subst hd
      clear h1 h2 HX
      go_wp2
      go_ret
      exact ⟨rfl, HC.out⟩
  · rw [decide_eq_false h1]
    have hd : x = 0 := by rw [← HX.out]; unfold cmpK; rw [if_neg fun h => h1 h.1]
    subst hd
    clear h1 HX
    go_wp2
    go_ret
    exact ⟨rfl, HC.out⟩

/-- a key is laid into a block -/
def K3 (w : World) (g : Nat) (k : Ky) : World := ((w.setCell ⟨g, 0, none⟩ (.int .i64 k.I)).setCell ⟨g, 1, none⟩ (.int .i64 k.Q)).setCell ⟨g, 2, none⟩ (.int .i64 k.S)
theorem K3_chg (w : World) (g : Nat) (k : Ky) : Chg (fun q => q = g) w (K3 w g k) :=
  ((Chg.setCell w ⟨g, 0, none⟩ _).trans (Chg.setCell _ ⟨g, 1, none⟩ _) fun _ _ h => h).trans (Chg.setCell _ ⟨g, 2, none⟩ _) fun _ _ h => h
theorem K3_cells {w : World} {g : Nat} {t : TypeId} {k0 : Ky} (h : Kb w g t k0) (I Q S : Int) :
    (w.setCell ⟨g, 0, none⟩ (.int .i64 I)).cell? ⟨g, 0, none⟩ = some (.int .i64 I) ∧ ((w.setCell ⟨g, 0, none⟩ (.int .i64 I)).setCell ⟨g, 1, none⟩ (.int .i64 Q)).cell? ⟨g, 1, none⟩ = some (.int .i64 Q) ∧ (K3 w g ⟨I, Q, S⟩).cell? ⟨g, 2, none⟩ = some (.int .i64 S) ∧ Kb (K3 w g ⟨I, Q, S⟩) g t ⟨I, Q, S⟩ := by
  have h1 := heap_setCell_same w g 0 _ _ (.int .i64 I) h
  have h2 := heap_setCell_same _ g 1 _ _ (.int .i64 Q) h1
  have h3 := heap_setCell_same _ g 2 _ _ (.int .i64 S) h2
  exact ⟨by rw [cell_of_row _ _ 0 _ _ _ h1]; rfl, by rw [cell_of_row _ _ 1 _ _ _ h2]; rfl, by unfold K3; rw [cell_of_row _ _ 2 _ _ _ h3]; rfl, h3⟩
theorem zeroKey (W : World) : (zeroValue 125).run Tryz.prog W = .ok (.agg #[.int .i64 0, .int .i64 0, .int .i64 0]) W := by kernel_rfl

set_option maxHeartbeats 1000000 in
theorem knext_any (k : Ky) (w : World) (hk : k.right) : Calls Tryz.prog 73 #[kv k] w fun e w' => e = .returned (.tuple #[kv (nextK k), .bool (decide (Ky.right ⟨k.I + 1, k.Q, k.S⟩))]) ∧ Chg (fun _ => False) w w' := by
  obtain ⟨I, Q, S⟩ := k
  have HK := Lib.hid hk
  have hI : 0 ≤ I ∧ I ≤ 8191 := by unfold Ky.right at hk; simp only [] at hk; omega
  have hF : Ky.fits ⟨I + 1, Q, S⟩ := by unfold Ky.right at hk; unfold Ky.fits; simp only [] at hk ⊢; omega
  have HF := Lib.hid hF
  obtain ⟨hI0, hI1⟩ := hI
  clear hk hF
  simp only []
  obtain ⟨n, hn⟩ : ∃ n, nextK ⟨I, Q, S⟩ = n := ⟨_, rfl⟩
  have HN := Lib.hid hn
  clear hn
  obtain ⟨d, hd⟩ : ∃ d, decide (Ky.right ⟨I + 1, Q, S⟩) = d := ⟨_, rfl⟩
  have HD := Lib.hid hd
  rw [HN.out, hd]
  clear hd
  obtain ⟨W, hW⟩ : ∃ W, ((w.alloc (.cells #[.int .i64 I, .int .i64 Q, .int .i64 S] 125)).alloc (.cells #[.int .i64 0, .int .i64 0, .int .i64 0] 125)).alloc (.cells #[.int .i64 (I + 1), .int .i64 Q, .int .i64 S] 125) = W := ⟨_, rfl⟩
  have hc0 : Chg (fun _ => False) w W := by rw [← hW]; exact ((Chg.alloc (fun _ => False) w _).trans (Chg.alloc (fun _ => False) _ _) fun _ _ h => h).trans (Chg.alloc (fun _ => False) _ _) fun _ _ h => h
  have hr : Kb W (w.heap.size + 1) 125 ⟨0, 0, 0⟩ := by rw [← hW]; exact Kb.kept (S := fun _ => False) (show Kb ((w.alloc _).alloc _) _ _ ⟨0, 0, 0⟩ from heap_alloc2_new w _ _) (Chg.alloc _ _ _) (by simp)
  have hn : Kb W (w.heap.size + 1 + 1) 125 ⟨I + 1, Q, S⟩ := by rw [← hW]; exact (by simpa using Kb.of_alloc ((w.alloc (.cells #[.int .i64 I, .int .i64 Q, .int .i64 S] 125)).alloc (.cells #[.int .i64 0, .int .i64 0, .int .i64 0] 125)) 125 ⟨I + 1, Q, S⟩)
  have HC := Lib.hid hc0; have HR := Lib.hid hr; have HNX := Lib.hid hn; have HW := Lib.hid hW
  clear hc0 hr hn hW
  have hz := zeroKey
  unfold kv
  simp only []
  go_enter Tryz.func73, Tryz.ntmps73
  go_wp2_with fail
  rw [HW.out]
  refine (kright_any ⟨I, Q, S⟩ _ HK.out.fits).mono ?_
  rintro e w1 ⟨rfl, hc1⟩
  replace HR := Lib.hid (HR.out.kept hc1 (by simp)); replace HNX := Lib.hid (HNX.out.kept hc1 (by simp)); replace HC := Lib.hid (HC.out.trans hc1 fun _ _ h => h)
  rw [decide_eq_true HK.out]
  clear hc1 HW
  obtain ⟨c0, c1, c2⟩ := HNX.out.cells
  simp only [] at c0 c1 c2
  go_wp2_with fail
  refine (kright_any ⟨I + 1, Q, S⟩ _ HF.out).mono ?_
  rintro e w2 ⟨rfl, hc1⟩
  replace HR := Lib.hid (HR.out.kept hc1 (by simp)); replace HNX := Lib.hid (HNX.out.kept hc1 (by simp)); replace HC := Lib.hid (HC.out.trans hc1 fun _ _ h => h)
  rw [HD.out]
  clear hc1 c0 c1 c2
  obtain ⟨gr, hgr⟩ : ∃ g, w.heap.size + 1 = g := ⟨_, rfl⟩
  obtain ⟨gn, hgn⟩ : ∃ g, w.heap.size + 1 + 1 = g := ⟨_, rfl⟩
  rw [hgr] at HR
  rw [hgn] at HNX
  have HG := Lib.hid hgr
  rw [hgr] at hgn ⊢
  rw [hgn]
  clear hgr hgn W
  cases d
  · have hne : n = ⟨0, 0, 0⟩ := by rw [← HN.out]; unfold nextK; rw [if_neg (of_decide_eq_false HD.out)]
    subst hne
    obtain ⟨y0, y1, y2, hkb⟩ := K3_cells HR.out 0 0 0
    have hcf := HC.out.trans (K3_chg w2 gr ⟨0, 0, 0⟩) fun q hq he => by have := HG.out; omega
    obtain ⟨z0, z1, z2⟩ := HR.out.cells
    obtain ⟨u0, u1, u2⟩ := hkb.cells
    have hl := hkb.loadF
    unfold kv at hl
    unfold K3 at y2 u0 u1 u2 hcf hl
    simp only [] at z0 z1 z2 u0 u1 u2 hcf hl
    have HCF := Lib.hid hcf
    clear hcf hkb
    have f0 := frozen_of_row w2 gr 0 _ _ HR.out
    have f1 := frozen_of_row w2 gr 1 _ _ HR.out
    have f2 := frozen_of_row w2 gr 2 _ _ HR.out
    go_wp2
    refine bodyPost_ret (v := .tuple #[.agg #[.int .i64 0, .int .i64 0, .int .i64 0], .bool false]) (by simp [results, Tryz.results73, go_sem, y0, y1, y2]; try rfl) rfl ?_
    exact ⟨rfl, HCF.out⟩
  · have hne : n = ⟨I + 1, Q, S⟩ := by rw [← HN.out]; unfold nextK; rw [if_pos (of_decide_eq_true HD.out)]
    subst hne
    obtain ⟨y0, y1, y2, hkb⟩ := K3_cells HR.out (I + 1) Q S
    have hcf := HC.out.trans (K3_chg w2 gr ⟨I + 1, Q, S⟩) fun q hq he => by have := HG.out; omega
    obtain ⟨z0, z1, z2⟩ := HR.out.cells
    obtain ⟨u0, u1, u2⟩ := hkb.cells
    obtain ⟨c0, c1, c2⟩ := HNX.out.cells
    have hl := hkb.loadF
    unfold kv at hl
    unfold K3 at y2 u0 u1 u2 hcf hl
    simp only [] at z0 z1 z2 u0 u1 u2 c0 c1 c2 hcf hl
    have HCF := Lib.hid hcf
    clear hcf hkb
    have f0 := frozen_of_row w2 gr 0 _ _ HR.out
    have f1 := frozen_of_row w2 gr 1 _ _ HR.out
    have f2 := frozen_of_row w2 gr 2 _ _ HR.out
    go_wp2
    refine bodyPost_ret (v := .tuple #[.agg #[.int .i64 (I + 1), .int .i64 Q, .int .i64 S], .bool true]) (by simp [results, Tryz.results73, go_sem, y0, y1, y2]; try rfl) rfl ?_
    exact ⟨rfl, HCF.out⟩

end Go.Proofs.YtokeoebhmjefoaaGreat

/- spread's keys in memory, those that are right; spread's queue as container/heap asks for it. THIS SPEAKS OF THE PROGRAM'S OWN TEXT. -/
namespace Go.Proofs.YtokeoebhmjefoaaGreat
open Go.RowKit

/-- a key that is right -/
abbrev Kr := { k : Ky // k.right }
instance : Inhabited Kr := ⟨⟨⟨1, 1, 0⟩, by decide⟩⟩
def kvl (k : Kr) : List Value := [.int .i64 k.1.I, .int .i64 k.1.Q, .int .i64 k.1.S]
def kvs (l : List Kr) : List Value := l.flatMap kvl
theorem kvs_cons (a : Kr) (l : List Kr) : kvs (a :: l) = kvl a ++ kvs l := by simp [kvs]
theorem kvs_append (a b : List Kr) : kvs (a ++ b) = kvs a ++ kvs b := by simp [kvs]
theorem kvs_length (l : List Kr) : (kvs l).length = l.length * 3 := by
  induction l with
  | nil => rfl
  | cons c r ih => rw [kvs_cons, List.length_append, ih]; simp [kvl]; omega
theorem kvs_get (l : List Kr) (j : Nat) (h : j < l.length) : (kvs l)[j * 3]? = some (.int .i64 (l.getD j default).1.I) ∧ (kvs l)[j * 3 + 1]? = some (.int .i64 (l.getD j default).1.Q) ∧ (kvs l)[j * 3 + 2]? = some (.int .i64 (l.getD j default).1.S) := by
  induction l generalizing j with
  | nil => simp at h
  | cons c r ih =>
    rw [kvs_cons]
    cases j with
    | zero => exact ⟨rfl, rfl, rfl⟩
    | succ j =>
      have ih := ih j (by simpa using h)
      have hl : (kvl c).length = 3 := rfl
      rw [List.getElem?_append_right (by omega), List.getElem?_append_right (by omega), List.getElem?_append_right (by omega), hl,
        show (j + 1) * 3 - 3 = j * 3 by omega, show (j + 1) * 3 + 1 - 3 = j * 3 + 1 by omega, show (j + 1) * 3 + 2 - 3 = j * 3 + 2 by omega]
      exact ih
/-- three cells, one behind the other -/
def set3 (l : List Value) (k : Nat) (s : Kr) : List Value := ((l.set k (.int .i64 s.1.I)).set (k + 1) (.int .i64 s.1.Q)).set (k + 2) (.int .i64 s.1.S)
theorem kvs_set (l : List Kr) (j : Nat) (c : Kr) (h : j < l.length) : set3 (kvs l) (j * 3) c = kvs (l.set j c) := by
  unfold set3
  induction l generalizing j with
  | nil => simp at h
  | cons d r ih =>
    cases j with
    | zero => rw [List.set_cons_zero, kvs_cons, kvs_cons]; rfl
    | succ j =>
      have ih := ih j (by simpa using h)
      have hl : (kvl d).length = 3 := rfl
      rw [List.set_cons_succ, kvs_cons, kvs_cons, ← ih, List.set_append_right _ _ (by omega), List.set_append_right _ _ (by omega), List.set_append_right _ _ (by omega), hl,
        show (j + 1) * 3 - 3 = j * 3 by omega, show (j + 1) * 3 + 1 - 3 = j * 3 + 1 by omega, show (j + 1) * 3 + 2 - 3 = j * 3 + 2 by omega]
theorem kvs_one (xs : List Kr) : ∀ u ∈ kvs xs, u.oneCell' = true := by
  intro u hu
  simp only [kvs, List.mem_flatMap, kvl] at hu
  obtain ⟨x, _, hx⟩ := hu
  simp at hx
  rcases hx with rfl | rfl | rfl <;> rfl

theorem Tryz.infoKey : (Tryz.prog.info? 125).map (fun i => (i.zero, i.size, i.bytes)) = some (some (.agg #[.int .i64 0, .int .i64 0, .int .i64 0]), 3, 24) := by kernel_rfl

/-- which of two right keys is less -/
def lessB (a b : Kr) : Bool := decide (cmpR a.1 b.1 < 0)
theorem lessB_ord : TotalOrd (noLess lessB) := by
  constructor
  · intro a b
    unfold noLess lessB
    have := cmpR_turn a.1 b.1
    rw [decide_eq_false_iff_not, decide_eq_false_iff_not]; omega
  · intro a b c h1 h2
    unfold noLess lessB at *
    rw [decide_eq_false_iff_not] at *
    have ha := a.2.1; have hb := b.2.1; have hc := c.2.1
    have := cmpR_trans2 (show 0 < c.1.Q by omega) (show 0 < b.1.Q by omega) (show 0 < a.1.Q by omega) (show 0 ≤ cmpR c.1 b.1 by omega) (show 0 ≤ cmpR b.1 a.1 by omega)
    omega

/-- the queue at block b, whose keys v stand in memory from block B on: the block X is neither of them -/
def FarK (b B X : Nat) (v : Value) (w : World) : Prop := B ≤ b ∧ b ≠ X ∧ v.ownBlock ≠ some X ∧ X < w.heap.size
/-- the queue at block b, whose keys stand in memory from block B on; X is a block that it leaves alone -/
def Kq (b B X : Nat) (w : World) (l : List Kr) : Prop := ∃ v, w.heap[b]? = some (.cells #[v] 139 (0, 0)) ∧ w.ownsRow B 125 3 v l.length (kvs l) ∧ l.length ≤ 100000 ∧ FarK b B X v w
/-- the blocks that it may turn -/
def Sk (B X k : Nat) : Prop := B ≤ k ∧ k ≠ X

end Go.Proofs.YtokeoebhmjefoaaGreat

/- What the methods of spread's queue do: Len, Less. THIS SPEAKS OF THE PROGRAM'S OWN TEXT. -/
namespace Go.Proofs.YtokeoebhmjefoaaGreat
open Go.RowKit

section
variable {b B X : Nat} {w : World} {l : List Kr}

theorem kown_form {v : Value} {n : Nat} {xs : List Value} (h : w.ownsRow B 125 3 v n xs) : ∃ ao cap, v = .slice ao n cap := by
  rcases h.2 with ⟨rfl, rfl⟩ | ⟨g, cap, cur, rfl, _⟩
  · exact ⟨_, _, rfl⟩
  · exact ⟨_, _, rfl⟩
theorem kown_ne {v : Value} {n : Nat} {xs : List Value} {cs : Array Value} {fr : Nat × Nat} (h : w.ownsRow B 125 3 v n xs) (hb : w.heap[b]? = some (.cells cs 139 fr)) : v.ownBlock ≠ some b := by
  intro he
  rcases h.2 with ⟨rfl, rfl⟩ | ⟨g, cap, cur, rfl, _, hg, _⟩
  · cases he
  · simp only [Value.ownBlock, Option.some.injEq] at he
    subst he
    rw [hb] at hg
    simp at hg
theorem Kq.cells (h : Kq b B X w l) : ∃ ao cap, w.cell? ⟨b, 0, none⟩ = some (.slice ao l.length cap) ∧ w.frozen? ⟨b, 0, none⟩ = false ∧ w.ownsRow B 125 3 (.slice ao l.length cap) l.length (kvs l) ∧ l.length ≤ 100000 := by
  obtain ⟨v, h1, h2, h3, h4⟩ := h
  obtain ⟨ao, cap, rfl⟩ := kown_form h2
  exact ⟨ao, cap, by rw [cell_of_row w b 0 _ _ _ h1]; rfl, frozen_of_row w b _ _ _ h1, h2, h3⟩
theorem Kq.kept {S : Nat → Prop} {w' : World} (h : Kq b B X w l) (hc : Chg S w w') (hS : ∀ k, Sk B X k → ¬ S k) : Kq b B X w' l := by
  obtain ⟨v, h1, h2, h3, h4, h5, h6, h7⟩ := h
  refine ⟨v, (hc.block b (lt_of_block h1) (hS b ⟨h4, h5⟩)).trans h1, hc.own h2 ?_, h3, h4, h5, h6, Nat.lt_of_lt_of_le h7 hc.size⟩
  intro k hk
  exact hS k ⟨(h2.lt k hk).1, fun he => h6 (by rw [hk, he])⟩
theorem Kq.small (h : Kq b B X w l) : l.length < 1000000000 := by obtain ⟨v, h1, h2, h3, h4⟩ := h; omega

set_option maxHeartbeats 1000000 in
set_option maxRecDepth 100000 in
theorem kqlen_any (h : Kq b B X w l) : Calls Tryz.prog 71 #[.pointer (some ⟨b, 0, none⟩)] w fun e w' => e = .returned (.int .i64 ((l.length : Nat) : Int)) ∧ Kq b B X w' l ∧ Chg (Sk B X) w w' := by
  obtain ⟨ao, cap, h1, -, -⟩ := h.cells
  have H := Lib.hid h
  clear h
  go_enter Tryz.func71, Tryz.ntmps71
  go_wp2
  go_ret
  exact ⟨rfl, H.out, Chg.refl _ _⟩

theorem kown_slice {w : World} {ao : Option Addr} {n cap : Nat} {xs : List Value} (h : w.ownsRow B 125 3 (.slice ao n cap) n xs) (hn : 0 < n) : ∃ g, ao = some ⟨g, 0, none⟩ ∧ B ≤ g := by
  rcases h.2 with ⟨h1, h2⟩ | ⟨g, cap', cur, he, hb, hg, _⟩
  · omega
  · simp only [Value.slice.injEq] at he
    exact ⟨g, he.1, hb⟩
theorem kown_at {w : World} {g n cap : Nat} (h : w.ownsRow B 125 3 (.slice (some ⟨g, 0, none⟩) n cap) n (kvs l)) (hl : l.length = n) (i : Nat) (hi : i < n) :
    w.cell? ⟨g, i * 3, none⟩ = some (.int .i64 (l.getD i default).1.I) ∧ w.cell? ⟨g, i * 3 + 1, none⟩ = some (.int .i64 (l.getD i default).1.Q) ∧ w.cell? ⟨g, i * 3 + 2, none⟩ = some (.int .i64 (l.getD i default).1.S) := by
  have hg := kvs_get l i (by omega)
  rw [h.cellAt (i * 3) (by omega), h.cellAt (i * 3 + 1) (by omega), h.cellAt (i * 3 + 2) (by omega)]
  exact hg

set_option maxHeartbeats 1000000 in
set_option maxRecDepth 100000 in
theorem kqless_any (h : Kq b B X w l) (i j : Nat) (hi : i < l.length) (hj : j < l.length) :
    Calls Tryz.prog 112 #[.pointer (some ⟨b, 0, none⟩), .int .i64 (i : Int), .int .i64 (j : Int)] w fun e w' => e = .returned (.bool (lessB (l.getD i default) (l.getD j default))) ∧ Kq b B X w' l ∧ Chg (Sk B X) w w' := by
  obtain ⟨ao, cap, h1, -, h3, h4⟩ := h.cells
  obtain ⟨g, rfl, hg⟩ := kown_slice h3 (by omega)
  obtain ⟨n, hn⟩ : ∃ n, l.length = n := ⟨_, rfl⟩
  rw [hn] at h1 h3 hi hj
  obtain ⟨a0, a1, a2⟩ := kown_at h3 hn i hi
  obtain ⟨c0, c1, c2⟩ := kown_at h3 hn j hj
  have H := Lib.hid h
  obtain ⟨x, hx⟩ : ∃ x, l.getD i default = x := ⟨_, rfl⟩
  obtain ⟨y, hy⟩ : ∃ y, l.getD j default = y := ⟨_, rfl⟩
  rw [hx] at a0 a1 a2 ⊢
  rw [hy] at c0 c1 c2 ⊢
  have hfx := kcmp_any x.1 y.1 w.drew x.2.fits y.2.fits
  have hc0 : cmpK x.1 y.1 = cmpR x.1 y.1 := by unfold cmpK; rw [if_pos ⟨x.2, y.2⟩]
  rw [hc0] at hfx
  unfold lessB
  obtain ⟨c, hcc⟩ : ∃ c, cmpR x.1 y.1 = c := ⟨_, rfl⟩
  rw [hcc] at hfx ⊢
  have hin : (i : Int) < (n : Int) := by omega
  have hjn : (j : Int) < (n : Int) := by omega
  obtain ⟨⟨s1, k1, p1⟩, hx2⟩ := x
  obtain ⟨⟨s2, k2, p2⟩, hy2⟩ := y
  unfold kv at hfx
  simp only [] at hfx a0 a1 a2 c0 c1 c2
  have HF := Lib.hid hfx
  clear h h3 hfx hn hx hy hc0 hcc hx2 hy2
  go_enter Tryz.func112, Tryz.ntmps112
  go_wp2
  go_still_tail 14, (by kernel_rfl)
  change wpList _ _ _ _ _ w.drew
  go_wp2_with fail
  refine HF.out.mono ?_
  rintro e w2 ⟨rfl, hc⟩
  have HC := Lib.hid hc
  clear hc
  go_wp2
  go_ret
  have hcw : Chg (fun _ => False) w w2 := (Chg.refl (fun _ => False) w).drew.trans HC.out (fun _ _ h => h)
  exact ⟨rfl, H.out.kept hcw (by simp), hcw.mono fun _ _ h => h.elim⟩

end

end Go.Proofs.YtokeoebhmjefoaaGreat

/- What Swap, Pop and Push of spread's queue do. THIS SPEAKS OF THE PROGRAM'S OWN TEXT. -/
namespace Go.Proofs.YtokeoebhmjefoaaGreat
open Go.RowKit

section
variable {b B X : Nat} {w : World} {l : List Kr}

/-- three cells of the block g, one behind the other -/
def W3k (w : World) (g k : Nat) (s : Kr) : World := ((w.setCell ⟨g, k, none⟩ (.int .i64 s.1.I)).setCell ⟨g, k + 1, none⟩ (.int .i64 s.1.Q)).setCell ⟨g, k + 2, none⟩ (.int .i64 s.1.S)
theorem W3k_chg (w : World) (g k : Nat) (s : Kr) : Chg (fun q => q = g) w (W3k w g k s) :=
  ((Chg.setCell w ⟨g, k, none⟩ _).trans (Chg.setCell _ ⟨g, k + 1, none⟩ _) fun _ _ h => h).trans (Chg.setCell _ ⟨g, k + 2, none⟩ _) fun _ _ h => h
theorem kown_W3 {g n cap : Nat} (h : w.ownsRow B 125 3 (.slice (some ⟨g, 0, none⟩) n cap) n (kvs l)) (hl : l.length = n) (i : Nat) (hi : i < n) (s : Kr) :
    (W3k w g (i * 3) s).ownsRow B 125 3 (.slice (some ⟨g, 0, none⟩) n cap) n (kvs (l.set i s)) := by
  rw [← kvs_set l i s (by omega)]
  exact ((((h.stored (i * 3) _).1.stored (i * 3 + 1) _).1.stored (i * 3 + 2) _).1)

set_option maxHeartbeats 4000000 in
theorem kqswap_any (h : Kq b B X w l) (i j : Nat) (hi : i < l.length) (hj : j < l.length) :
    Calls Tryz.prog 115 #[.pointer (some ⟨b, 0, none⟩), .int .i64 (i : Int), .int .i64 (j : Int)] w fun e w' => e = .returned (.tuple #[]) ∧ Kq b B X w' (swp l i j) ∧ Chg (Sk B X) w w' := by
  obtain ⟨ao, cap, h1, -, h3, h4⟩ := h.cells
  obtain ⟨g, rfl, hg⟩ := kown_slice h3 (by omega)
  have hgX : g ≠ X := by
    obtain ⟨v, q1, q2, q3, q4, q5, q6, q7⟩ := h
    have e1 : w.cell? ⟨b, 0, none⟩ = some v := by rw [cell_of_row w b 0 _ _ _ q1]; rfl
    rw [e1] at h1
    obtain rfl := Option.some.inj h1
    exact fun he => q6 (by rw [he]; rfl)
  obtain ⟨n, hn⟩ : ∃ n, l.length = n := ⟨_, rfl⟩
  rw [hn] at h1 h3 hi hj
  obtain ⟨a0, a1, a2⟩ := kown_at h3 hn i hi
  obtain ⟨c0, c1, c2⟩ := kown_at h3 hn j hj
  have f0 := h3.frozenAt (i * 3)
  have f1 := h3.frozenAt (i * 3 + 1)
  have f2 := h3.frozenAt (i * 3 + 2)
  have g0 := h3.frozenAt (j * 3)
  have g1 := h3.frozenAt (j * 3 + 1)
  have g2 := h3.frozenAt (j * 3 + 2)
  have H := Lib.hid h
  have hsw : swp l i j = (l.set i (l.getD j default)).set j (l.getD i default) := rfl
  rw [hsw]
  obtain ⟨x, hx⟩ : ∃ x, l.getD i default = x := ⟨_, rfl⟩
  obtain ⟨y, hy⟩ : ∃ y, l.getD j default = y := ⟨_, rfl⟩
  rw [hx] at a0 a1 a2 ⊢
  rw [hy] at c0 c1 c2 ⊢
  have hin : (i : Int) < (n : Int) := by omega
  have hjn : (j : Int) < (n : Int) := by omega
  have h5 := kown_W3 h3 hn i hi y
  have h6 := kown_W3 h5 (by simpa using hn) j hj x
  obtain ⟨d0, d1, d2⟩ := kown_at h5 (by simpa using hn) j hj
  obtain ⟨z, hz⟩ : ∃ z, (l.set i y).getD j default = z := ⟨_, rfl⟩
  rw [hz] at d0 d1 d2
  have hc6 : Chg (Sk B X) w (W3k (W3k w g (i * 3) y) g (j * 3) x) := ((W3k_chg w g (i * 3) y).trans (W3k_chg _ g (j * 3) x) fun _ _ h => h).mono fun k _ hk => by rw [hk]; exact ⟨hg, hgX⟩
  have hq6 : Kq b B X (W3k (W3k w g (i * 3) y) g (j * 3) x) ((l.set i y).set j x) := by
    obtain ⟨v, q1, q2, q3, q4⟩ := h
    have e1 : w.cell? ⟨b, 0, none⟩ = some v := by rw [cell_of_row w b 0 _ _ _ q1]; rfl
    rw [e1] at h1
    obtain rfl := Option.some.inj h1
    have hne := kown_ne q2 q1
    have hbg : b ≠ g := fun he => hne (by rw [he]; rfl)
    refine ⟨_, (((W3k_chg w g (i * 3) y).trans (W3k_chg _ g (j * 3) x) fun _ _ h => h).block b (lt_of_block q1) hbg).trans q1, ?_, by simpa using q3, q4.1, q4.2.1, q4.2.2.1, Nat.lt_of_lt_of_le q4.2.2.2 hc6.size⟩
    have : ((l.set i y).set j x).length = n := by simpa using hn
    rw [this]
    exact h6
  have HC6 := Lib.hid hc6; have HQ6 := Lib.hid hq6
  clear h h3 hn hsw h5 h6 hz hc6 hq6 hgX
  unfold W3k at d0 d1 d2 HC6 HQ6
  clear hx hy
  obtain ⟨⟨t1, t2, t3⟩, hz2⟩ := z
  obtain ⟨⟨s1, k1, p1⟩, hx2⟩ := x
  obtain ⟨⟨s2, k2, p2⟩, hy2⟩ := y
  simp only [] at a0 a1 a2 c0 c1 c2 d0 d1 d2 HC6 HQ6
  have HXYZ := Lib.hid (And.intro hz2 (And.intro hx2 hy2))
  go_enter Tryz.func115, Tryz.ntmps115
  go_wp2
  go_region
  go_wp2
  go_returns
  exact ⟨rfl, HQ6.out.kept ((Chg.refl (fun _ => False) _).drew) (by simp), HC6.out.drew⟩

/-- a queue whose keys lie elsewhere now -/
theorem Kq.turn {w' : World} {v v' : Value} {l' : List Kr} (h1 : w.heap[b]? = some (.cells #[v] 139 (0, 0))) (hown : w'.ownsRow B 125 3 v' l'.length (kvs l')) (hn : l'.length ≤ 100000) (hb : FarK b B X v' w') (hk : w'.heap[b]? = w.heap[b]?) :
    Kq b B X (w'.setCell ⟨b, 0, none⟩ v') l' := by
  have h2 := hk.trans h1
  refine ⟨v', ?_, ownsRow_setCell_other hown (kown_ne hown h2) v', hn, hb.1, hb.2.1, hb.2.2.1, by simpa [World.setCell] using hb.2.2.2⟩
  rw [heap_setCell_same w' b 0 _ _ v' h2]
  rfl

set_option maxHeartbeats 1000000 in
theorem kqpop_any (x : Kr) (h : Kq b B X w (l ++ [x])) :
    Calls Tryz.prog 113 #[.pointer (some ⟨b, 0, none⟩)] w fun e w' => e = .returned (.iface 125 (kv x.1)) ∧ Kq b B X w' l ∧ Chg (Sk B X) w w' := by
  obtain ⟨v, q1, q2, q3, q4⟩ := h
  have h1 : w.cell? ⟨b, 0, none⟩ = some v := by rw [cell_of_row w b 0 _ _ _ q1]; rfl
  have hf := frozen_of_row w b 0 _ _ q1
  obtain ⟨n, hn⟩ : ∃ n, l.length = n := ⟨_, rfl⟩
  have hlx : (l ++ [x]).length = n + 1 := by simp [hn]
  rw [hlx] at q2 q3
  have hx : (l ++ [x]).getD n default = x := by rw [List.getD_eq_getElem?_getD, List.getElem?_append_right (by omega)]; simp [hn]
  rcases q2.2 with ⟨_, h0⟩ | ⟨g, cap, cur, rfl, hg, hh, hnc, hcm, hsz, htk⟩
  · omega
  obtain ⟨a0, a1, a2⟩ := kown_at q2 hlx n (by omega)
  rw [hx] at a0 a1 a2
  have hpop : w.ownsRow B 125 3 (.slice (some ⟨g, 0, none⟩) n cap) l.length (kvs l) := by
    rw [hn]
    rw [kvs_append] at q2
    exact ownsRow_pop (by rw [kvs_length, hn]) q2
  obtain ⟨⟨s1, kk1, p1⟩, hxr⟩ := x
  have hca := Chg.alloc (fun _ => False) w (.cells #[.int .i64 s1, .int .i64 kk1, .int .i64 p1] 125)
  have hnew := heap_alloc_new w (.cells #[.int .i64 s1, .int .i64 kk1, .int .i64 p1] 125)
  have hown2 := hpop.alloc (.cells #[.int .i64 s1, .int .i64 kk1, .int .i64 p1] 125)
  obtain ⟨W1, hW1⟩ : ∃ W1, w.alloc (.cells #[.int .i64 s1, .int .i64 kk1, .int .i64 p1] 125) = W1 := ⟨_, rfl⟩
  rw [hW1] at hca hnew hown2
  have hc1 : Chg (Sk B X) w (W1.setCell ⟨b, 0, none⟩ (.slice (some ⟨g, 0, none⟩) n cap)) := (hca.mono (T := Sk B X) fun _ _ h => h.elim).trans (Chg.setCell W1 ⟨b, 0, none⟩ _) fun k _ hk => by rw [hk]; exact ⟨q4.1, q4.2.1⟩
  have hq1 : Kq b B X (W1.setCell ⟨b, 0, none⟩ (.slice (some ⟨g, 0, none⟩) n cap)) l := Kq.turn q1 hown2 (by omega) ⟨q4.1, q4.2.1, q4.2.2.1, Nat.lt_of_lt_of_le q4.2.2.2 hca.size⟩ (hca.block b (lt_of_block q1) (by simp))
  have hnew2 : (W1.setCell ⟨b, 0, none⟩ (.slice (some ⟨g, 0, none⟩) n cap)).heap[w.heap.size]? = _ := (heap_setCell_other W1 ⟨b, 0, none⟩ w.heap.size _ (fun e => by have := lt_of_block q1; simp at e; omega)).trans hnew
  have z0 : (W1.setCell ⟨b, 0, none⟩ (.slice (some ⟨g, 0, none⟩) n cap)).cell? ⟨w.heap.size, 0, none⟩ = some (.int .i64 s1) := by rw [cell_of_row _ _ 0 _ _ _ hnew2]; rfl
  have z1 : (W1.setCell ⟨b, 0, none⟩ (.slice (some ⟨g, 0, none⟩) n cap)).cell? ⟨w.heap.size, 1, none⟩ = some (.int .i64 kk1) := by rw [cell_of_row _ _ 1 _ _ _ hnew2]; rfl
  have z2 : (W1.setCell ⟨b, 0, none⟩ (.slice (some ⟨g, 0, none⟩) n cap)).cell? ⟨w.heap.size, 2, none⟩ = some (.int .i64 p1) := by rw [cell_of_row _ _ 2 _ _ _ hnew2]; rfl
  have HC := Lib.hid hc1; have HQ := Lib.hid hq1
  have k1 : W1.cell? ⟨b, 0, none⟩ = some (.slice (some ⟨g, 0, none⟩) (n + 1) cap) := by
    rw [World.cell?_of_block (w := w) (hca.block b (lt_of_block q1) (by simp))]; exact h1
  have k2 : W1.frozen? ⟨b, 0, none⟩ = false := by
    rw [World.frozen?_of_block (w := w) (hca.block b (lt_of_block q1) (by simp))]; exact hf
  have hb : ((n + 1 : Nat) : Int) ≤ 100000 := by omega
  obtain ⟨n1, hn1⟩ : ∃ n1, n + 1 = n1 := ⟨_, rfl⟩
  have e1 : (n1 : Int) - 1 = (n : Int) := by omega
  have e2 : wrap64 (n : Int) = (n : Int) := by unfold wrap64; omega
  have e3 : (n : Int) < (n1 : Int) := by omega
  have e4 : n ≤ cap := Nat.le_of_lt hnc
  rw [hn1] at h1 hb k1
  clear hc1 hq1 hpop hnew hnew2 hown2 hca q1 q2 q3 q4 hx hlx hn htk hsz hcm hnc hh hg
  unfold kv
  simp only [] at a0 a1 a2 ⊢
  clear hxr
  have e5 : n < n1 := by omega
  clear hn1
  go_enter Tryz.func113, Tryz.ntmps113
  go_wp2
  go_returns
  exact ⟨rfl, HQ.out, HC.out⟩

theorem Tryz.asKey (v : Value) (w : World) : (Instr.typeAssert (.iface 125 v) 20 125 false).run Tryz.prog w = .ok v w := by kernel_rfl

/-- append of one key, in a region that draws -/
theorem step_append_key {ops : Array Oper} {o : Oper} {a : Act} {W : World} {K : Act → World → Prop} {Q : Exit → Act → World → Prop} {E : Prop} (hgd : o.guard = none) (s x : Operand)
    (ho : o.op = .call { callee := .builtin .append, args := #[s, x], argTypes := #[137, 137] })
    (B : Nat) (v : Value) (l : List Kr) (y : Kr) (hs : a.eval s = v) (hown : W.ownsRow B 125 3 v l.length (kvs l)) (G : Nat) (hx : a.eval x = .slice (some ⟨G, 0, none⟩) 1 1)
    (hblk : W.heap[G]? = some (.cells (kvl y).toArray 125 (0, 0))) (hl : l.length ≤ 100000) (hB : B ≤ W.heap.size)
    (n1 : Nat) (hn1 : n1 = l.length + 1) (h : ∀ g cap w', w'.ownsRow B 125 3 (.slice (some ⟨g, 0, none⟩) n1 cap) (l ++ [y]).length (kvs (l ++ [y])) → Chg (fun k => some k = v.ownBlock) W w' → (v.ownBlock = some g ∨ g = W.heap.size) → K (a.put o.dst (.slice (some ⟨g, 0, none⟩) n1 cap)) w') :
    if Region.wanted o (yielded ops a.tmps) = true then Oper.wp Tryz.prog o a W K Q else E := by
  subst hn1
  obtain ⟨i, hi, hz0, hz1, hz2⟩ := info_parts Tryz.infoKey
  refine step_append_lies W hgd s x 137 ho B 125 i (.agg #[.int .i64 0, .int .i64 0, .int .i64 0]) 3 24 Tryz.underlying137 hi hz0 hz1 hz2 rfl (by decide) v l.length (kvs l) hs hown ⟨G, 0, none⟩ 1 1 (kvl y) hx rfl (World.news_of_block hblk)
    (fun u hu => kvs_one [y] u (by simpa [kvs] using hu)) (by decide) (by unfold maxLen; omega) (by omega) hB _ rfl fun g cap w' h2 h3 h4 _ => ?_
  exact h g cap w' (by rw [List.length_append, kvs_append, List.length_singleton]; simpa [kvs] using h2) (Chg.of_grown h3) h4

set_option maxHeartbeats 2000000 in
theorem kqpush_any (x : Kr) (h : Kq b B X w l) (hl : l.length < 100000) :
    Calls Tryz.prog 114 #[.pointer (some ⟨b, 0, none⟩), .iface 125 (kv x.1)] w fun e w' => e = .returned (.tuple #[]) ∧ Kq b B X w' (l ++ [x]) ∧ Chg (Sk B X) w w' := by
  obtain ⟨v, q1, q2, q3, q4⟩ := h
  have h1 : w.cell? ⟨b, 0, none⟩ = some v := by rw [cell_of_row w b 0 _ _ _ q1]; rfl
  have hf := frozen_of_row w b 0 _ _ q1
  have hlt := lt_of_block q1
  have hne := kown_ne q2 q1
  have HY := Lib.hid (show ∀ r, x = r → r = x from fun r h => h.symm)
  obtain ⟨y, hy⟩ : ∃ y, x = y := ⟨_, rfl⟩
  obtain ⟨⟨s1, k1, p1⟩, hxr⟩ := x
  have hyl : kvl y = [.int .i64 s1, .int .i64 k1, .int .i64 p1] := by rw [← hy]; rfl
  have ho1 := q2.alloc (.cells #[.int .i64 s1, .int .i64 k1, .int .i64 p1] 125)
  have hblk := heap_alloc_new w (.cells (kvl y).toArray 125)
  rw [hyl] at hblk
  obtain ⟨n1, hn1⟩ : ∃ n1, n1 = l.length + 1 := ⟨_, rfl⟩
  have HN1 := Lib.hid hn1
  clear hn1
  have hstep : ∀ g cap w', w'.ownsRow B 125 3 (.slice (some ⟨g, 0, none⟩) n1 cap) (l ++ [y]).length (kvs (l ++ [y])) → Chg (fun k => some k = v.ownBlock) (w.alloc (.cells #[.int .i64 s1, .int .i64 k1, .int .i64 p1] 125)).drew w' → (v.ownBlock = some g ∨ g = (w.alloc (.cells #[.int .i64 s1, .int .i64 k1, .int .i64 p1] 125)).drew.heap.size) →
      w'.cell? ⟨b, 0, none⟩ = some v ∧ w'.frozen? ⟨b, 0, none⟩ = false ∧ Hid (Kq b B X (w'.setCell ⟨b, 0, none⟩ (.slice (some ⟨g, 0, none⟩) n1 cap)) (l ++ [y]) ∧ Chg (Sk B X) w (w'.setCell ⟨b, 0, none⟩ (.slice (some ⟨g, 0, none⟩) n1 cap))) := by
    intro g cap w' ho hc hlies
    have hca : Chg (fun k => some k = v.ownBlock) w w' := ((Chg.alloc _ w _).drew).trans hc fun _ _ h => h
    have hb2 := hca.block b hlt (fun he => hne he.symm)
    have hfar : FarK b B X (.slice (some ⟨g, 0, none⟩) n1 cap) w' := by
      refine ⟨q4.1, q4.2.1, ?_, Nat.lt_of_lt_of_le q4.2.2.2 hca.size⟩
      have hX := q4.2.2.2
      rcases hlies with h | h
      · intro he
        exact q4.2.2.1 (by rw [h]; exact he)
      · intro he
        simp only [Value.ownBlock, Option.some.injEq] at he
        rw [h] at he
        simp [World.drew] at he
        omega
    refine ⟨?_, ?_, Lib.hid ⟨Kq.turn q1 ho (by simp; omega) hfar hb2, ?_⟩⟩
    · rw [World.cell?_of_block (w := w) hb2]; exact h1
    · rw [World.frozen?_of_block (w := w) hb2]; exact hf
    · refine (hca.mono (T := Sk B X) fun k _ hk => ⟨(q2.lt k hk.symm).1, fun he => q4.2.2.1 (by rw [← hk, he])⟩).trans (Chg.setCell w' ⟨b, 0, none⟩ _) fun k _ hk => by rw [hk]; exact ⟨q4.1, q4.2.1⟩
  have hBw : B ≤ w.heap.size := by have := q4.1; omega
  have hkeep : ∀ o, (w.alloc o).cell? ⟨b, 0, none⟩ = some v := fun o => by
    have : (w.alloc o).heap[b]? = w.heap[b]? := Below.heap_alloc w o b hlt
    rw [World.cell?_of_block (w := w) this]; exact h1
  have hblk2 : (w.alloc (.cells #[.int .i64 s1, .int .i64 k1, .int .i64 p1] 125)).drew.heap[w.heap.size]? = some (.cells (kvl y).toArray 125 (0, 0)) := by rw [hyl]; exact hblk
  have HST := Lib.hid hstep; have HO := Lib.hid ho1; have HB := Lib.hid hblk2; have HBW := Lib.hid (show B ≤ (w.alloc (.cells #[.int .i64 s1, .int .i64 k1, .int .i64 p1] 125)).drew.heap.size by simp [World.drew]; omega); have HL := Lib.hid (Nat.le_of_lt hl); have HYE := Lib.hid hy
  clear hstep ho1 hblk hblk2 hBw q1 q2 q3 q4 hlt hne hl hyl hy HY
  unfold kv
  simp only []
  have has := Tryz.asKey
  go_enter Tryz.func114, Tryz.ntmps114
  go_wp2
  go_region_law ((refine step_append_key rfl (.tmp 8) (.tmp 11) rfl B v l y rfl HO.out.drew w.heap.size rfl HB.out HL.out HBW.out n1 HN1.out ?_; intro g cap w2 ho2 hc2 hl2; obtain ⟨e1, e2, HQQ⟩ := HST.out _ _ w2 ho2 hc2 hl2; clear ho2 hc2 hl2))
  all_goals
    go_wp2
    go_returns
    refine ⟨rfl, ?_, HQQ.out.2⟩
    rw [HYE.out]
    exact HQQ.out.1

end

end Go.Proofs.YtokeoebhmjefoaaGreat

/- spread's queue is a heap; what its add and least do. THIS SPEAKS OF THE PROGRAM'S OWN TEXT. -/
namespace Go.Proofs.YtokeoebhmjefoaaGreat
open Go.RowKit

section
variable {b B X : Nat} {w : World} {l : List Kr}

theorem kmethLen (a : Addr) (w : World) : (method 275 122 (.pointer (some a)) "Len").run Tryz.prog w = .ok (71, .pointer (some a)) w := by kernel_rfl
theorem kmethLess (a : Addr) (w : World) : (method 275 122 (.pointer (some a)) "Less").run Tryz.prog w = .ok (112, .pointer (some a)) w := by kernel_rfl
theorem kmethSwap (a : Addr) (w : World) : (method 275 122 (.pointer (some a)) "Swap").run Tryz.prog w = .ok (115, .pointer (some a)) w := by kernel_rfl
theorem kmethPush (a : Addr) (w : World) : (method 275 122 (.pointer (some a)) "Push").run Tryz.prog w = .ok (114, .pointer (some a)) w := by kernel_rfl
theorem kmethPop (a : Addr) (w : World) : (method 275 122 (.pointer (some a)) "Pop").run Tryz.prog w = .ok (113, .pointer (some a)) w := by kernel_rfl

theorem kqueue_hp : HpB (.pointer (some ⟨b, 0, none⟩)) (Kq b B X) lessB (Sk B X) where
  len := fun w _ h => ⟨_, kmethLen _ w, kqlen_any h⟩
  less := fun w _ h => ⟨_, kmethLess _ w, fun i j hi hj => kqless_any h i j hi hj⟩
  swap := fun w _ h => ⟨_, kmethSwap _ w, fun i j hi hj => kqswap_any h i j hi hj⟩
  small := fun _ _ h => h.small
theorem kqueue_pushes (x : Kr) : HpBPushes (.pointer (some ⟨b, 0, none⟩)) (Kq b B X) (Sk B X) (fun s => .iface 125 (kv s.1)) x := fun w _ h hl => ⟨_, kmethPush _ w, kqpush_any x h hl⟩
theorem kqueue_pops : HpBPops (.pointer (some ⟨b, 0, none⟩)) (Kq b B X) (Sk B X) (fun s => .iface 125 (kv s.1)) := fun w _ x h => ⟨_, kmethPop _ w, kqpop_any x h⟩

/-- the queue that holds the keys l, in a heap's order -/
def Kh (b B : Nat) (w : World) (l : List Kr) : Prop := (∃ v, w.heap[b]? = some (.cells #[v] 139 (0, 0)) ∧ w.ownsRow B 125 3 v l.length (kvs l) ∧ l.length ≤ 100000 ∧ B ≤ b) ∧ Heap (noLess lessB) l l.length
theorem Kh.of (h : Kq b B X w l) (hh : Heap (noLess lessB) l l.length) : Kh b B w l := by
  obtain ⟨v, h1, h2, h3, h4⟩ := h
  exact ⟨⟨v, h1, h2, h3, h4.1⟩, hh⟩
theorem Kh.far (h : Kh b B w l) (o : Obj) : Kq b B w.heap.size (w.alloc o) l := by
  obtain ⟨⟨v, h1, h2, h3, h4⟩, _⟩ := h
  refine ⟨v, (Below.heap_alloc w o b (lt_of_block h1)).trans h1, h2.alloc o, h3, h4, ?_, ?_, by simp⟩
  · have := lt_of_block h1; omega
  · intro he; have := (h2.lt _ he).2; omega
theorem Kh.kept {S : Nat → Prop} {w' : World} (h : Kh b B w l) (hc : Chg S w w') (hS : ∀ k, B ≤ k → k < w.heap.size → ¬ S k) : Kh b B w' l := by
  obtain ⟨⟨v, h1, h2, h3, h4⟩, hh⟩ := h
  refine ⟨⟨v, (hc.block b (lt_of_block h1) (hS b h4 (lt_of_block h1))).trans h1, hc.own h2 ?_, h3, h4⟩, hh⟩
  intro k hk
  exact hS k (h2.lt k hk).1 (h2.lt k hk).2
theorem Kh.le (h : Kh b B w l) : B ≤ b ∧ b < w.heap.size := by obtain ⟨⟨v, h1, h2, h3, h4⟩, hh⟩ := h; exact ⟨h4, lt_of_block h1⟩

set_option maxHeartbeats 1000000 in
/-- Len, of a queue, which leaves all as it is -/
theorem kh_len (h : Kh b B w l) : Calls Tryz.prog 71 #[.pointer (some ⟨b, 0, none⟩)] w fun e w' => e = .returned (.int .i64 ((l.length : Nat) : Int)) ∧ w' = w := by
  obtain ⟨⟨v, h1, h2, h3, h4⟩, _⟩ := h
  obtain ⟨ao, cap, rfl⟩ := kown_form h2
  have hc : w.cell? ⟨b, 0, none⟩ = some (.slice ao l.length cap) := by rw [cell_of_row w b 0 _ _ _ h1]; rfl
  clear h1 h2 h3 h4
  go_enter Tryz.func71, Tryz.ntmps71
  go_wp2
  go_ret
  exact ⟨rfl, rfl⟩

set_option maxHeartbeats 1000000 in
theorem kqadd_any (x : Kr) (h : Kh b B w l) (hl : l.length < 100000) :
    Calls Tryz.prog 74 #[.pointer (some ⟨b, 0, none⟩), kv x.1] w fun e w' => e = .returned (.tuple #[]) ∧ ∃ l', Kh b B w' l' ∧ l'.Perm (x :: l) ∧ Chg (fun k => B ≤ k) w w' := by
  have hp : ∀ o, Calls Tryz.prog 86 #[.iface 122 (.pointer (some ⟨b, 0, none⟩)), .iface 125 (kv x.1)] (w.alloc o) fun e w' => e = .returned (.tuple #[]) ∧ ∃ l', Kh b B w' l' ∧ l'.Perm (x :: l) ∧ Chg (fun k => B ≤ k) w w' := by
    intro o
    refine (hpB_push lessB_ord kqueue_hp x (kqueue_pushes x) (w.alloc o) l (h.far o) hl h.2).mono ?_
    rintro e w' ⟨rfl, l', h1, h2, h3, h4⟩
    exact ⟨rfl, l', Kh.of h1 h3, h2, (Chg.alloc (fun k => B ≤ k) w o).trans h4 fun _ _ hk => hk.1⟩
  obtain ⟨y, hy⟩ : ∃ y : Kr → List Kr, (fun a => a :: l) = y := ⟨_, rfl⟩
  have hp2 : ∀ o, Calls Tryz.prog 86 #[.iface 122 (.pointer (some ⟨b, 0, none⟩)), .iface 125 (kv x.1)] (w.alloc o) fun e w' => e = .returned (.tuple #[]) ∧ ∃ l', Kh b B w' l' ∧ l'.Perm (y x) ∧ Chg (fun k => B ≤ k) w w' := by rw [← hy]; exact hp
  have hgoal : (x :: l) = y x := by rw [← hy]
  rw [hgoal]
  obtain ⟨r, hr⟩ : ∃ r, y x = r := ⟨_, rfl⟩
  rw [hr] at hp2 ⊢
  have HP := Lib.hid hp2
  clear hp hp2 h hl hy hgoal hr
  obtain ⟨⟨s1, k1, p1⟩, hxr⟩ := x
  unfold kv at HP ⊢
  simp only [] at HP ⊢
  clear hxr
  go_enter Tryz.func74, Tryz.ntmps74
  go_wp2_with fail
  refine (HP.out _).mono ?_
  rintro e w2 ⟨rfl, hh⟩
  have HH := Lib.hid hh
  clear hh HP
  go_wp2
  go_returns
  exact ⟨rfl, HH.out⟩

set_option maxHeartbeats 1000000 in
theorem kqleast_any (h : Kh b B w l) (hl : 0 < l.length) :
    Calls Tryz.prog 72 #[.pointer (some ⟨b, 0, none⟩)] w fun e w' => ∃ (x : Kr) (l' : List Kr), e = .returned (kv x.1) ∧ Kh b B w' l' ∧ l.Perm (x :: l') ∧ (∀ y ∈ l', noLess lessB x y) ∧ Chg (fun k => B ≤ k) w w' := by
  have hp : Calls Tryz.prog 84 #[.iface 122 (.pointer (some ⟨b, 0, none⟩))] (w.alloc (.cells #[.int .i64 0, .int .i64 0, .int .i64 0] 125)) fun e w' => ∃ (x : Kr) (l' : List Kr), e = .returned (.iface 125 (kv x.1)) ∧ (Kq b B w.heap.size w' l' ∧ Heap (noLess lessB) l' l'.length) ∧ l.Perm (x :: l') ∧ (∀ y ∈ l', noLess lessB x y) ∧ Chg (fun k => B ≤ k) w w' ∧
      w'.heap[w.heap.size]? = some (.cells #[.int .i64 0, .int .i64 0, .int .i64 0] 125 (0, 0)) ∧ B ≤ w.heap.size := by
    refine (hpB_pop lessB_ord kqueue_hp kqueue_pops _ l (h.far _) hl h.2).mono ?_
    rintro e w' ⟨x, l', rfl, h1, h2, h3, h4, h5⟩
    refine ⟨x, l', rfl, ⟨h1, h4⟩, h2, h3, (Chg.alloc (fun k => B ≤ k) w _).trans h5 fun _ _ hk => hk.1, ?_, ?_⟩
    · exact (h5.block w.heap.size (by simp) (fun hk => hk.2 rfl)).trans (heap_alloc_new w _)
    · have := h.le; omega
  have HP := Lib.hid hp
  have has := Tryz.asKey
  have hz := zeroKey
  clear hp h hl
  go_enter Tryz.func72, Tryz.ntmps72
  go_wp2_with fail
  refine (HP.out).mono ?_
  rintro e w2 ⟨x, l', rfl, h1, h2, h3, h4, h5, h6⟩
  obtain ⟨N, hN⟩ : ∃ N, w.heap.size = N := ⟨_, rfl⟩
  rw [hN] at h1 h5 h6 ⊢
  have hc3 := W3k_chg w2 N 0 x
  have hq3 := h1.1.kept hc3 (fun k hk he => hk.2 he)
  have HF := Lib.hid (show ∃ y, y = x.1 ∧ Kh b B (W3k w2 N 0 x) l' ∧ l.Perm (x :: l') ∧ (∀ y ∈ l', noLess lessB x y) ∧ Chg (fun k => B ≤ k) w (W3k w2 N 0 x) from
    ⟨_, rfl, Kh.of hq3 h1.2, h2, h3, h4.trans hc3 fun k _ hk => by rw [hk]; exact h6⟩)
  have z0 : w2.cell? ⟨N, 0, none⟩ = some (.int .i64 0) := by rw [cell_of_row _ _ 0 _ _ _ h5]; rfl
  have z1 : w2.cell? ⟨N, 1, none⟩ = some (.int .i64 0) := by rw [cell_of_row _ _ 1 _ _ _ h5]; rfl
  have z2 : w2.cell? ⟨N, 2, none⟩ = some (.int .i64 0) := by rw [cell_of_row _ _ 2 _ _ _ h5]; rfl
  have f0 := frozen_of_row w2 N 0 _ _ h5
  have f1 := frozen_of_row w2 N 1 _ _ h5
  have f2 := frozen_of_row w2 N 2 _ _ h5
  clear h1 h2 h3 h4 hc3 hq3 hN HP
  obtain ⟨⟨s1, k1, p1⟩, hxr⟩ := x
  have y0 : (w2.setCell ⟨N, 0, none⟩ (.int .i64 s1)).cell? ⟨N, 0, none⟩ = some (.int .i64 s1) := by rw [cell_of_row _ _ 0 _ _ _ (heap_setCell_same w2 N 0 _ _ _ h5)]; rfl
  have y1 : ((w2.setCell ⟨N, 0, none⟩ (.int .i64 s1)).setCell ⟨N, 1, none⟩ (.int .i64 k1)).cell? ⟨N, 1, none⟩ = some (.int .i64 k1) := by rw [cell_of_row _ _ 1 _ _ _ (heap_setCell_same _ N 1 _ _ _ (heap_setCell_same w2 N 0 _ _ _ h5))]; rfl
  have y2 : (((w2.setCell ⟨N, 0, none⟩ (.int .i64 s1)).setCell ⟨N, 1, none⟩ (.int .i64 k1)).setCell ⟨N, 2, none⟩ (.int .i64 p1)).cell? ⟨N, 2, none⟩ = some (.int .i64 p1) := by rw [cell_of_row _ _ 2 _ _ _ (heap_setCell_same _ N 2 _ _ _ (heap_setCell_same _ N 1 _ _ _ (heap_setCell_same w2 N 0 _ _ _ h5)))]; rfl
  clear h5 h6
  unfold W3k at HF
  simp only [Nat.zero_add] at HF
  unfold kv
  simp only []
  go_wp2
  refine bodyPost_ret (v := kv ⟨s1, k1, p1⟩) (by simp [results, Tryz.results72, go_sem, y0, y1, y2]; try rfl) rfl ?_
  obtain ⟨y, hy, g1, g2, g3, g4⟩ := HF.out
  exact ⟨⟨⟨s1, k1, p1⟩, hxr⟩, l', rfl, g1, g2, g3, g4⟩

end

end Go.Proofs.YtokeoebhmjefoaaGreat

/- Plain mathematics of spread's queue: what waits in it, and what comes off it next. -/
namespace Go.Proofs.YtokeoebhmjefoaaGreat
open Go

/-- the key of a symbol and a number, above its count -/
def keyK (f : Nat → Nat) (s d : Nat) : Ky := ⟨((f s + d : Nat) : Int), ((f s : Nat) : Int), (s : Int)⟩
theorem keyK_right {f : Nat → Nat} (hf : ∀ s, f s ≤ 4096) {s d : Nat} (hs : s < 256) (hd : d < f s) : (keyK f s d).right := by
  have := hf s
  unfold Ky.right keyK; simp only []; omega
theorem keyK_inj {f : Nat → Nat} {s d t e : Nat} (h : keyK f s d = keyK f t e) : s = t ∧ d = e := by
  unfold keyK at h
  simp only [Ky.mk.injEq] at h
  have h1 : s = t := by omega
  subst h1
  exact ⟨rfl, by omega⟩
theorem keyK_less {f : Nat → Nat} {s d t e : Nat} : cmpR (keyK f s d) (keyK f t e) < 0 ↔ kless f s (f s + d) t (f t + e) := by
  have e1 : (keyK f s d).I * (keyK f t e).Q = (((f s + d) * f t : Nat) : Int) := by unfold keyK; simp only []; rw [Int.natCast_mul]
  have e2 : (keyK f t e).I * (keyK f s d).Q = (((f t + e) * f s : Nat) : Int) := by unfold keyK; simp only []; rw [Int.natCast_mul]
  have e3 : (keyK f s d).S = (s : Int) := rfl
  have e4 : (keyK f t e).S = (t : Int) := rfl
  unfold kless
  rcases cmpR_cases (keyK f s d) (keyK f t e) with ⟨h, h'⟩ | ⟨h, h'⟩ | ⟨h, h', h''⟩ <;> omega

/-- what waits once p keys have come off: of each symbol the first one that stands at p or behind it -/
def WaitF (f : Nat → Nat) (p : Nat) (l : List Kr) : Prop :=
  l.Nodup ∧ ∀ k : Kr, k ∈ l ↔ ∃ s d, s < 256 ∧ d < f s ∧ k.1 = keyK f s d ∧ p ≤ placeF f 256 s (f s + d) ∧ ∀ d', d' < d → placeF f 256 s (f s + d') < p

theorem WaitF.some {f : Nat → Nat} (hf : ∀ s, f s ≤ 4096) {p : Nat} {l : List Kr} (h : WaitF f p l) (hp : p < sumTo f 256) : ∃ s d, s < 256 ∧ d < f s ∧ placeF f 256 s (f s + d) = p ∧ ∃ k : Kr, k ∈ l ∧ k.1 = keyK f s d := by
  obtain ⟨s, d, hs, hd, he⟩ := place_onto hp
  refine ⟨s, d, hs, hd, he, ⟨keyK f s d, keyK_right hf hs hd⟩, (h.2 _).2 ⟨s, d, hs, hd, rfl, by omega, fun d' hd' => ?_⟩, rfl⟩
  rw [← he]
  exact place_rise hs hd hd'
theorem WaitF.none {f : Nat → Nat} {p : Nat} {l : List Kr} (h : WaitF f p l) (hp : sumTo f 256 ≤ p) : l = [] := by
  cases l with
  | nil => rfl
  | cons a r =>
    obtain ⟨s, d, hs, hd, _, hle, _⟩ := (h.2 a).1 (by simp)
    have := place_room (f := f) (N := 256) hs hd
    omega
theorem WaitF.next {f : Nat → Nat} (hf : ∀ s, f s ≤ 4096) {p : Nat} {l l' : List Kr} {x : Kr} (h : WaitF f p l) (hp : p < sumTo f 256) (hpp : l.Perm (x :: l')) (hle : ∀ y ∈ l', noLess lessB x y) :
    ∃ s d, s < 256 ∧ d < f s ∧ x.1 = keyK f s d ∧ placeF f 256 s (f s + d) = p := by
  obtain ⟨s0, d0, hs0, hd0, he0, k, hk, hk0⟩ := h.some hf hp
  obtain ⟨s, d, hs, hd, he, hxp, hxd⟩ := (h.2 x).1 (hpp.symm.subset (by simp))
  by_cases hx : k = x
  · rw [hx, he] at hk0
    obtain ⟨rfl, rfl⟩ := keyK_inj hk0
    exact ⟨s, d, hs, hd, he, he0⟩
  · have hkl : k ∈ l' := by
      have := hpp.subset hk
      rcases List.mem_cons.1 this with h1 | h1
      · exact absurd h1 hx
      · exact h1
    have hn := hle k hkl
    unfold noLess lessB at hn
    rw [decide_eq_false_iff_not, hk0, he, keyK_less] at hn
    have hne : ¬ (s0 = s ∧ f s0 + d0 = f s + d) := fun hh => by
      obtain ⟨rfl, h2⟩ := hh
      have : d0 = d := by omega
      subst this
      exact hx (Subtype.ext (by rw [hk0, he]))
    rcases kless_total (f := f) (by omega) hne with h1 | h1
    · exact absurd h1 hn
    · have := place_lt (f := f) (N := 256) hs hd hd0 h1
      omega

theorem WaitF.step {f : Nat → Nat} {p : Nat} {l l' m : List Kr} {x : Kr} {s d : Nat} (h : WaitF f p l) (hpp : l.Perm (x :: l')) (hs : s < 256) (hd : d < f s) (hx : x.1 = keyK f s d) (he : placeF f 256 s (f s + d) = p)
    (hm : m.Nodup) (hmem : ∀ k : Kr, k ∈ m ↔ k ∈ l' ∨ (d + 1 < f s ∧ k.1 = keyK f s (d + 1))) : WaitF f (p + 1) m := by
  have hxl : ∀ k, k ∈ l' ↔ k ∈ l ∧ k ≠ x := fun k => by
    have hnd := hpp.nodup_iff.1 h.1
    rw [List.nodup_cons] at hnd
    constructor
    · exact fun hk => ⟨hpp.symm.subset (List.mem_cons_of_mem _ hk), fun e => hnd.1 (e ▸ hk)⟩
    · rintro ⟨hk, hne⟩
      rcases List.mem_cons.1 (hpp.subset hk) with h1 | h1
      · exact absurd h1 hne
      · exact h1
  refine ⟨hm, fun k => ?_⟩
  rw [hmem, hxl, h.2]
  constructor
  · rintro (⟨⟨t, e, ht, he', hk, hle, hlt⟩, hne⟩ | ⟨hd1, hk⟩)
    · refine ⟨t, e, ht, he', hk, ?_, fun d' hd' => by have := hlt d' hd'; omega⟩
      by_cases heq : placeF f 256 t (f t + e) = p
      · obtain ⟨rfl, rfl⟩ := place_inj (f := f) (N := 256) ht hs he' hd (by rw [heq, he])
        exact absurd (Subtype.ext (by rw [hk, hx])) hne
      · omega
    · refine ⟨s, d + 1, hs, hd1, hk, ?_, fun d' hd' => ?_⟩
      · have := place_rise (f := f) (N := 256) (d := d) hs hd1 (by omega)
        omega
      · by_cases hdd : d' = d
        · subst hdd; omega
        · have := place_rise (f := f) (N := 256) (s := s) (d := d') (e := d) hs hd (by omega)
          omega
  · rintro ⟨t, e, ht, he', hk, hle, hlt⟩
    by_cases hts : t = s
    · subst hts
      right
      have : e = d + 1 := by
        have h1 : d < e := by
          rcases Nat.lt_trichotomy d e with h1 | h1 | h1
          · exact h1
          · subst h1; omega
          · have := place_rise (f := f) (N := 256) (d := e) hs hd h1; omega
        rcases Nat.lt_or_ge (d + 1) e with h2 | h2
        · have h3 := hlt (d + 1) h2
          have := place_rise (f := f) (N := 256) (d := d) hs (show d + 1 < f t by omega) (by omega)
          omega
        · omega
      subst this
      exact ⟨he', hk⟩
    · left
      refine ⟨⟨t, e, ht, he', hk, by omega, fun d' hd' => ?_⟩, fun hh => ?_⟩
      · have h1 := hlt d' hd'
        rcases Nat.lt_or_ge (placeF f 256 t (f t + d')) p with h2 | h2
        · exact h2
        · have : placeF f 256 t (f t + d') = p := by omega
          have := (place_inj (f := f) (N := 256) ht hs (show d' < f t by omega) hd (by rw [this, he])).1
          exact absurd this hts
      · rw [hh] at hk
        exact hts (keyK_inj (hk.symm.trans hx)).1
theorem WaitF.last {f : Nat → Nat} {p : Nat} {l l' : List Kr} {x : Kr} {s d : Nat} (h : WaitF f p l) (hpp : l.Perm (x :: l')) (hs : s < 256) (hd : d < f s) (hx : x.1 = keyK f s d) (he : placeF f 256 s (f s + d) = p)
    (hd1 : ¬ d + 1 < f s) : WaitF f (p + 1) l' :=
  h.step hpp hs hd hx he (List.nodup_cons.1 (hpp.nodup_iff.1 h.1)).2 fun _ => ⟨.inl, fun hh => hh.elim id fun hk => absurd hk.1 hd1⟩
theorem WaitF.more {f : Nat → Nat} {p : Nat} {l l' m : List Kr} {x y : Kr} {s d : Nat} (h : WaitF f p l) (hpp : l.Perm (x :: l')) (hs : s < 256) (hd : d < f s) (hx : x.1 = keyK f s d) (he : placeF f 256 s (f s + d) = p)
    (hd1 : d + 1 < f s) (hy : y.1 = keyK f s (d + 1)) (hm : m.Perm (y :: l')) : WaitF f (p + 1) m := by
  have hnd := List.nodup_cons.1 (hpp.nodup_iff.1 h.1)
  refine h.step hpp hs hd hx he (hm.nodup_iff.2 (List.nodup_cons.2 ⟨fun hyl => ?_, hnd.2⟩)) fun k => ?_
  · obtain ⟨t, e, ht, he', hk, hle, hlt⟩ := (h.2 y).1 (hpp.symm.subset (List.mem_cons_of_mem _ hyl))
    rw [hy] at hk
    obtain ⟨rfl, rfl⟩ := keyK_inj hk
    have := hlt d (by omega)
    omega
  · rw [hm.mem_iff, List.mem_cons]
    constructor
    · rintro (rfl | h1)
      · exact .inr ⟨hd1, hy⟩
      · exact .inl h1
    · rintro (h1 | ⟨_, h1⟩)
      · exact .inr h1
      · exact .inl (Subtype.ext (by rw [h1, hy]))

/-- the first keys of the symbols below n -/
def FirstK (f : Nat → Nat) (n : Nat) (l : List Kr) : Prop := l.Nodup ∧ l.length ≤ n ∧ ∀ k : Kr, k ∈ l ↔ ∃ s, s < n ∧ 0 < f s ∧ k.1 = keyK f s 0
theorem FirstK.zero (f : Nat → Nat) : FirstK f 0 [] := ⟨by simp, by simp, fun k => by simp⟩
theorem FirstK.skip {f : Nat → Nat} {n : Nat} {l : List Kr} (h : FirstK f n l) (h0 : f n = 0) : FirstK f (n + 1) l := by
  refine ⟨h.1, by have := h.2.1; omega, fun k => ?_⟩
  rw [h.2.2]
  constructor
  · rintro ⟨s, hs, h1, h2⟩; exact ⟨s, by omega, h1, h2⟩
  · rintro ⟨s, hs, h1, h2⟩
    refine ⟨s, ?_, h1, h2⟩
    by_cases e : s = n
    · subst e; omega
    · omega
theorem FirstK.more {f : Nat → Nat} {n : Nat} {l m : List Kr} {y : Kr} (h : FirstK f n l) (h0 : 0 < f n) (hy : y.1 = keyK f n 0) (hm : m.Perm (y :: l)) : FirstK f (n + 1) m := by
  refine ⟨hm.nodup_iff.2 (List.nodup_cons.2 ⟨fun hyl => ?_, h.1⟩), ?_, fun k => ?_⟩
  · obtain ⟨s, hs, h1, h2⟩ := (h.2.2 y).1 hyl
    rw [hy] at h2
    have := (keyK_inj h2).1
    omega
  · rw [hm.length_eq, List.length_cons]; have := h.2.1; omega
  · rw [hm.mem_iff, List.mem_cons, h.2.2]
    constructor
    · rintro (rfl | ⟨s, hs, h1, h2⟩)
      · exact ⟨n, by omega, h0, hy⟩
      · exact ⟨s, by omega, h1, h2⟩
    · rintro ⟨s, hs, h1, h2⟩
      by_cases e : s = n
      · subst e; exact .inl (Subtype.ext (by rw [h2, hy]))
      · exact .inr ⟨s, by omega, h1, h2⟩
theorem FirstK.wait {f : Nat → Nat} {l : List Kr} (h : FirstK f 256 l) : WaitF f 0 l := by
  refine ⟨h.1, fun k => ?_⟩
  rw [h.2.2]
  constructor
  · rintro ⟨s, hs, h1, h2⟩; exact ⟨s, 0, hs, h1, h2, by omega, fun d' hd' => by omega⟩
  · rintro ⟨s, d, hs, hd, h2, _, h3⟩
    by_cases e : d = 0
    · subst e; exact ⟨s, hs, hd, h2⟩
    · exact absurd (h3 0 (by omega)) (by omega)

/-- the first p symbols -/
def OutF (f : Nat → Nat) (p : Nat) (out : List Nat) : Prop := out.length = p ∧ ∀ s d, s < 256 → d < f s → placeF f 256 s (f s + d) < p → out.getD (placeF f 256 s (f s + d)) 0 = s
theorem OutF.zero (f : Nat → Nat) : OutF f 0 [] := ⟨rfl, fun s d _ _ h => by omega⟩
theorem OutF.step {f : Nat → Nat} {p s d : Nat} {out : List Nat} (h : OutF f p out) (hs : s < 256) (hd : d < f s) (he : placeF f 256 s (f s + d) = p) : OutF f (p + 1) (out ++ [s]) := by
  refine ⟨by simp [h.1], fun t e ht he' hlt => ?_⟩
  rw [List.getD_eq_getElem?_getD]
  by_cases hp : placeF f 256 t (f t + e) = p
  · rw [hp, List.getElem?_append_right (by rw [h.1]; exact Nat.le_refl _), h.1, Nat.sub_self]
    exact (place_inj (f := f) (N := 256) hs ht hd he' (by rw [he, hp])).1
  · rw [List.getElem?_append_left (by rw [h.1]; omega), ← List.getD_eq_getElem?_getD]
    exact h.2 t e ht he' (by omega)
theorem OutF.all {f : Nat → Nat} {out : List Nat} (h : OutF f (sumTo f 256) out) : IsSpread f 256 out := ⟨h.1, fun s d hs hd => h.2 s d hs hd (place_room hs hd)⟩

/-- how many keys of a symbol stand ahead of another one's key, by its fraction -/
def aheadN (f : Nat → Nat) (t s i : Nat) : Int := if t < s then loK ⟨(i : Int), ((f s : Nat) : Int), (s : Int)⟩ (f t) + 1 - f t else hiK ⟨(i : Int), ((f s : Nat) : Int), (s : Int)⟩ (f t) - f t
theorem aheadN_eq {f : Nat → Nat} {t s i : Nat} (h1 : f s ≤ i) (h2 : i < 2 * f s) (_h0 : 0 < f t) : aheadN f t s i = ((lessF f t s i : Nat) : Int) := by
  have hq : 0 < f s := by omega
  obtain ⟨s1, s2, s3, s4⟩ := scaled_spec ⟨(i : Int), ((f s : Nat) : Int), (s : Int)⟩ (f t) (by simp only []; omega)
  simp only [] at s1 s2 s3 s4
  have m1 : (f t : Int) * (f s : Int) ≤ (f t : Int) * (i : Int) := Int.mul_le_mul_of_nonneg_left (by omega) (by omega)
  have m2 : (f t : Int) * (i : Int) ≤ (f t : Int) * (2 * (f s : Int) - 1) := Int.mul_le_mul_of_nonneg_left (by omega) (by omega)
  have m2' : (f t : Int) * (2 * (f s : Int) - 1) = 2 * ((f t : Int) * (f s : Int)) - (f t : Int) := by rw [Int.mul_sub, Int.mul_one, ← Int.mul_assoc, Int.mul_comm (f t : Int) 2, Int.mul_assoc]
  have hqI : (0 : Int) < (f s : Int) := by omega
  unfold aheadN lessF
  by_cases hts : t < s
  · rw [if_pos hts]
    obtain ⟨x, hx⟩ : ∃ x, loK ⟨(i : Int), ((f s : Nat) : Int), (s : Int)⟩ (f t) = x := ⟨_, rfl⟩
    rw [hx] at s1 s2 ⊢
    have b1 : (f t : Int) ≤ x := by
      have : (f t : Int) * (f s : Int) < (x + 1) * (f s : Int) := by rw [Int.add_mul, Int.one_mul]; omega
      have := Int.lt_of_mul_lt_mul_right this (by omega)
      omega
    have b2 : x < 2 * (f t : Int) := by
      have : x * (f s : Int) < 2 * (f t : Int) * (f s : Int) := by rw [Int.mul_assoc]; omega
      exact Int.lt_of_mul_lt_mul_right this (by omega)
    obtain ⟨c, hc⟩ : ∃ c : Nat, x + 1 - (f t : Int) = (c : Int) := ⟨(x + 1 - (f t : Int)).toNat, by omega⟩
    rw [hc]
    congr 1
    symm
    refine countTo_first (by omega) fun d hd => ?_
    rw [decide_eq_true_eq]
    unfold kless
    have k1 : ((f t + d) * f s < i * f t ∨ (f t + d) * f s = i * f t ∧ t < s) ↔ (((f t + d : Nat) : Int)) * (f s : Int) ≤ (f t : Int) * (i : Int) := by
      rw [Int.mul_comm (f t : Int) (i : Int), ← Int.natCast_mul, ← Int.natCast_mul]
      omega
    rw [k1]
    constructor
    · intro hle
      have : ((f t + d : Nat) : Int) * (f s : Int) < (x + 1) * (f s : Int) := by rw [Int.add_mul, Int.one_mul]; omega
      have := Int.lt_of_mul_lt_mul_right this (by omega)
      omega
    · intro hlt
      have : ((f t + d : Nat) : Int) * (f s : Int) ≤ x * (f s : Int) := Int.mul_le_mul_of_nonneg_right (by omega) (by omega)
      omega
  · rw [if_neg hts]
    obtain ⟨x, hx⟩ : ∃ x, hiK ⟨(i : Int), ((f s : Nat) : Int), (s : Int)⟩ (f t) = x := ⟨_, rfl⟩
    rw [hx] at s3 s4 ⊢
    have b1 : (f t : Int) ≤ x := by
      have : (f t : Int) * (f s : Int) < (x + 1) * (f s : Int) := by rw [Int.add_mul, Int.one_mul]; omega
      have := Int.lt_of_mul_lt_mul_right this (by omega)
      omega
    have b2 : x ≤ 2 * (f t : Int) := by
      have : x * (f s : Int) < (2 * (f t : Int) + 1) * (f s : Int) := by rw [Int.add_mul, Int.one_mul, Int.mul_assoc]; omega
      have := Int.lt_of_mul_lt_mul_right this (by omega)
      omega
    obtain ⟨c, hc⟩ : ∃ c : Nat, x - (f t : Int) = (c : Int) := ⟨(x - (f t : Int)).toNat, by omega⟩
    rw [hc]
    congr 1
    symm
    refine countTo_first (by omega) fun d hd => ?_
    rw [decide_eq_true_eq]
    unfold kless
    have k1 : ((f t + d) * f s < i * f t ∨ (f t + d) * f s = i * f t ∧ t < s) ↔ (((f t + d : Nat) : Int)) * (f s : Int) < (f t : Int) * (i : Int) := by
      rw [Int.mul_comm (f t : Int) (i : Int), ← Int.natCast_mul, ← Int.natCast_mul]
      omega
    rw [k1]
    constructor
    · intro hle
      have : ((f t + d : Nat) : Int) * (f s : Int) < x * (f s : Int) := by omega
      have := Int.lt_of_mul_lt_mul_right this (by omega)
      omega
    · intro hlt
      have : ((f t + d + 1 : Nat) : Int) * (f s : Int) ≤ x * (f s : Int) := Int.mul_le_mul_of_nonneg_right (by omega) (by omega)
      have e : ((f t + d + 1 : Nat) : Int) * (f s : Int) = ((f t + d : Nat) : Int) * (f s : Int) + (f s : Int) := by rw [Int.natCast_add, Int.add_mul]; simp
      omega

end Go.Proofs.YtokeoebhmjefoaaGreat

/- What hist's Right, Many, Total, Of and Add tell. THIS ALONE SPEAKS OF THE PROGRAM'S OWN TEXT. -/
namespace Go.Proofs.YtokeoebhmjefoaaGreat
open Go.RowKit

set_option maxHeartbeats 1000000 in
set_option maxRecDepth 100000 in
theorem hright_any (v : Value) (cs : List Int) (w : World) (h : RdI w v cs) (hb : ∀ z ∈ cs, -9223372036854775808 ≤ z ∧ z ≤ 9223372036854775807) (hl : cs.length < 100000000000) :
    Calls Tryz.prog 88 #[v] w fun e w' => e = .returned (.bool (decide (isRight cs))) ∧ ∃ m, w' = w.drewN m := by
  obtain ⟨ao, cap, rfl⟩ := h.form
  have H := Lib.hid h; have HB := Lib.hid hb
  clear h hb
  by_cases hlen : cs.length = 256
  · have hq : ((cs.length : Int) != 256) = false := by rw [hlen]; rfl
    have HLEN := Lib.hid hlen
    have hle256 : cs.length ≤ 256 := by omega
    clear hlen
    go_enter Tryz.func88, Tryz.ntmps88
    go_wp2
    go_loopw [3, 11] (fun o3 o11 wr => ∃ k : Nat, k ≤ cs.length ∧ o11 = .int .i64 (k : Int) ∧ o3 = .int .i64 (1073741824 - tot (cs.take k)) ∧ upTo cs k ∧ tot (cs.take k) ≤ 1073741824 ∧ wr = w) (fun _ o11 _ => cs.length - (intOf o11).toNat)
    case atStart => exact ⟨0, Nat.zero_le _, rfl, by simp [tot], upTo_zero _, by simp [tot], rfl⟩
    case round =>
      obtain ⟨k, hk, rfl, rfl, hup, hle, rfl⟩ := hrel
      have h0 := upTo_take hup
      have HUP := Lib.hid hup
      clear hup
      by_cases hlt : k < cs.length
      · obtain ⟨g, off, rfl, hc⟩ := H.out.at k hlt
        have hsu := tot_take_succ cs k hlt
        have hat : isRight cs → _ := fun h => h.at k hlt
        have hbk := HB.out _ (getD_mem hlt)
        obtain ⟨x, hx⟩ : ∃ x, cs.getD k 0 = x := ⟨_, rfl⟩
        obtain ⟨t, ht⟩ : ∃ t, tot (cs.take k) = t := ⟨_, rfl⟩
        rw [hx] at hc hsu hat hbk
        rw [ht] at hsu hle h0 hat ⊢
        have HXX := Lib.hid hx; have HSU := Lib.hid hsu; have HAT := Lib.hid hat
        clear hx ht hsu hat
        by_cases hneg : x < 0
        · have d1 : decide (x < 0) = true := decide_eq_true hneg
          go_wp2
          go_ret
          have hd : decide (isRight cs) = false := decide_eq_false fun h => by have := HAT.out h; omega
          rw [hd]
          exact ⟨rfl, 0, rfl⟩
        · have d1 : decide (x < 0) = false := decide_eq_false hneg
          by_cases hbig : 1073741824 - t < x
          · have d2 : decide (1073741824 - t < x) = true := decide_eq_true hbig
            go_wp2
            go_ret
            have hd : decide (isRight cs) = false := decide_eq_false fun h => by have := HAT.out h; omega
            rw [hd]
            exact ⟨rfl, 0, rfl⟩
          · have d2 : decide (1073741824 - t < x) = false := decide_eq_false hbig
            go_wp2
            go_roundw
            case rel => exact ⟨k + 1, by omega, by go_num, by rw [HSU.out]; go_num, upTo_succ HUP.out (by rw [HXX.out]; omega), by rw [HSU.out]; omega, trivial⟩
            case measure => simp [intOf]; omega
      · obtain rfl : k = cs.length := by omega
        rw [List.take_length] at h0 hle ⊢
        have hd : decide (isRight cs) = true := decide_eq_true ⟨HLEN.out, upTo_all rfl HUP.out, hle⟩
        have HD := Lib.hid hd
        clear hd
        go_wp2
        go_ret
        rw [HD.out]
        exact ⟨rfl, 0, rfl⟩
  · have hq : ((cs.length : Int) != 256) = true := by simp; omega
    go_enter Tryz.func88, Tryz.ntmps88
    go_wp2
    go_ret
    have hd : decide (isRight cs) = false := decide_eq_false fun h => hlen h.1
    rw [hd]
    exact ⟨rfl, 0, rfl⟩

set_option maxHeartbeats 1000000 in
theorem htotal_any (v : Value) (cs : List Int) (w : World) (h : RdI w v cs) (hb : ∀ z ∈ cs, -9223372036854775808 ≤ z ∧ z ≤ 9223372036854775807) (hl : cs.length < 100000000000) :
    Calls Tryz.prog 83 #[v] w fun e w' => e = .returned (.int .i64 (totalI cs)) ∧ ∃ m, w' = w.drewN m := by
  have HR := Lib.hid (hright_any v cs w h hb hl)
  obtain ⟨ao, cap, rfl⟩ := h.form
  have H := Lib.hid h; have HB := Lib.hid hb
  clear h hb
  go_enter Tryz.func83, Tryz.ntmps83
  go_wp2_with fail
  refine HR.out.mono ?_
  rintro e w' ⟨rfl, m0, rfl⟩
  clear HR
  by_cases hr : isRight cs
  · rw [decide_eq_true hr]
    have hlen : cs.length ≤ 256 := by rw [hr.1]; exact Nat.le_refl _
    have HRR := Lib.hid hr
    clear hr
    go_wp2
    go_loopw [3, 11] (fun o3 o11 wr => ∃ k : Nat, k ≤ cs.length ∧ o11 = .int .i64 (k : Int) ∧ o3 = .int .i64 (tot (cs.take k)) ∧ wr = w.drewN m0) (fun _ o11 _ => cs.length - (intOf o11).toNat)
    case atStart => exact ⟨0, Nat.zero_le _, rfl, rfl, rfl⟩
    case round =>
      obtain ⟨k, hk, rfl, rfl, rfl⟩ := hrel
      by_cases hlt : k < cs.length
      · obtain ⟨g, off, rfl, hc⟩ := H.out.at k hlt
        have hsu := tot_take_succ cs k hlt
        have hat := HRR.out.at k hlt
        have h0 : 0 ≤ tot (cs.take k) := tot_nonneg _ fun c hc => HRR.out.2.1 c (List.mem_of_mem_take hc)
        obtain ⟨x, hx⟩ : ∃ x, cs.getD k 0 = x := ⟨_, rfl⟩
        obtain ⟨t, ht⟩ : ∃ t, tot (cs.take k) = t := ⟨_, rfl⟩
        rw [hx] at hc hsu hat
        rw [ht] at hsu hat h0 ⊢
        have HSU := Lib.hid hsu
        clear hx ht hsu
        go_wp2
        go_roundw
        case rel => exact ⟨k + 1, by omega, by go_num, by rw [HSU.out], trivial⟩
        case measure => simp [intOf]; omega
      · obtain rfl : k = cs.length := by omega
        rw [List.take_length]
        have hm : totalI cs = tot cs := by unfold totalI; rw [if_pos HRR.out]
        have HM := Lib.hid hm
        clear hm
        go_wp2
        go_ret
        rw [HM.out]
        exact ⟨rfl, m0, rfl⟩
  · rw [decide_eq_false hr]
    have hm : totalI cs = 0 := by unfold totalI; rw [if_neg hr]
    have HM := Lib.hid hm
    clear hm hr
    go_wp2
    go_ret
    rw [HM.out]
    exact ⟨rfl, m0, rfl⟩

theorem zeroCounts : ∃ Z : List Value, Z = iw (List.replicate 256 0) ∧ ∀ W : World, (zeroValue 92).run Tryz.prog W = .ok (.agg Z.toArray) W := ⟨_, rfl, fun W => by kernel_rfl⟩

theorem cnt_take_succ (xs : List Nat) (k : Nat) (hk : k < xs.length) (hx : xs.getD k 0 < 256) : cnt (xs.take (k + 1)) = (cnt (xs.take k)).set (xs.getD k 0) ((cnt (xs.take k)).getD (xs.getD k 0) 0 + 1) := by
  rw [← cnt_snoc _ _ hx]
  congr 1
  rw [List.take_succ_eq_append_getElem hk, List.getD_eq_getElem?_getD, List.getElem?_eq_getElem hk]; rfl

theorem cnt_bound (xs : List Nat) (u : Nat) (hu : u < 256) : 0 ≤ (cnt xs).getD u 0 ∧ (cnt xs).getD u 0 ≤ xs.length := by
  rw [cnt_getD _ _ hu]
  have h1 := List.count_le_length (l := xs) (a := u)
  omega

end Go.Proofs.YtokeoebhmjefoaaGreat

/- What container/heap's up, down, Init, Push, Pop and Fix do with one type's heap (hpA), whatever it holds. -/
namespace Go.Proofs.YtokeoebhmjefoaaGreat
open Go.RowKit

section
variable {α : Type} [Inhabited α] {p : Value} {R : World → List α → Prop} {lt : α → α → Bool} {S : Nat → Prop}

end

end Go.Proofs.YtokeoebhmjefoaaGreat

/- What container/heap's Init, Push, Pop and Fix do with one type's heap (hpA), whatever it holds. -/
namespace Go.Proofs.YtokeoebhmjefoaaGreat
open Go.RowKit

section
variable {α : Type} [Inhabited α] {p : Value} {R : World → List α → Prop} {lt : α → α → Bool} {S : Nat → Prop} {it : α → Value}

end

end Go.Proofs.YtokeoebhmjefoaaGreat

/- norm's shares in memory; who is ahead of whom; norm's queue as container/heap asks for it. THIS SPEAKS OF THE PROGRAM'S OWN TEXT. -/
namespace Go.Proofs.YtokeoebhmjefoaaGreat
open Go.RowKit

/-- a share -/
structure Sh where
  sym : Int
  cnt : Int
  plc : Int
  lft : Int
  rai : Bool
instance : Inhabited Sh := ⟨⟨0, 0, 0, 0, false⟩⟩
def sv (s : Sh) : Value := .agg #[.int .i64 s.sym, .int .i64 s.cnt, .int .i64 s.plc, .int .i64 s.lft, .bool s.rai]
def svl (s : Sh) : List Value := [.int .i64 s.sym, .int .i64 s.cnt, .int .i64 s.plc, .int .i64 s.lft, .bool s.rai]
def svs (l : List Sh) : List Value := l.flatMap svl
theorem svs_cons (a : Sh) (l : List Sh) : svs (a :: l) = svl a ++ svs l := by simp [svs]
theorem svs_append (a b : List Sh) : svs (a ++ b) = svs a ++ svs b := by simp [svs]
theorem svs_length (l : List Sh) : (svs l).length = l.length * 5 := by
  induction l with
  | nil => rfl
  | cons c r ih => rw [svs_cons, List.length_append, ih]; simp [svl]; omega
theorem svs_get (l : List Sh) (j : Nat) (h : j < l.length) : (svs l)[j * 5]? = some (.int .i64 (l.getD j default).sym) ∧ (svs l)[j * 5 + 1]? = some (.int .i64 (l.getD j default).cnt) ∧ (svs l)[j * 5 + 2]? = some (.int .i64 (l.getD j default).plc) ∧
    (svs l)[j * 5 + 3]? = some (.int .i64 (l.getD j default).lft) ∧ (svs l)[j * 5 + 4]? = some (.bool (l.getD j default).rai) := by
  induction l generalizing j with
  | nil => simp at h
  | cons c r ih =>
    rw [svs_cons]
    cases j with
    | zero => exact ⟨rfl, rfl, rfl, rfl, rfl⟩
    | succ j =>
      have ih := ih j (by simpa using h)
      have hl : (svl c).length = 5 := rfl
      rw [List.getElem?_append_right (by omega), List.getElem?_append_right (by omega), List.getElem?_append_right (by omega), List.getElem?_append_right (by omega), List.getElem?_append_right (by omega), hl,
        show (j + 1) * 5 - 5 = j * 5 by omega, show (j + 1) * 5 + 1 - 5 = j * 5 + 1 by omega, show (j + 1) * 5 + 2 - 5 = j * 5 + 2 by omega, show (j + 1) * 5 + 3 - 5 = j * 5 + 3 by omega, show (j + 1) * 5 + 4 - 5 = j * 5 + 4 by omega]
      exact ih
/-- five cells, one behind the other -/
def set5 (l : List Value) (k : Nat) (s : Sh) : List Value := ((((l.set k (.int .i64 s.sym)).set (k + 1) (.int .i64 s.cnt)).set (k + 2) (.int .i64 s.plc)).set (k + 3) (.int .i64 s.lft)).set (k + 4) (.bool s.rai)
theorem svs_set (l : List Sh) (j : Nat) (c : Sh) (h : j < l.length) : set5 (svs l) (j * 5) c = svs (l.set j c) := by
  unfold set5
  induction l generalizing j with
  | nil => simp at h
  | cons d r ih =>
    cases j with
    | zero => rw [List.set_cons_zero, svs_cons, svs_cons]; rfl
    | succ j =>
      have ih := ih j (by simpa using h)
      have hl : (svl d).length = 5 := rfl
      rw [List.set_cons_succ, svs_cons, svs_cons, ← ih, List.set_append_right _ _ (by omega), List.set_append_right _ _ (by omega), List.set_append_right _ _ (by omega), List.set_append_right _ _ (by omega), List.set_append_right _ _ (by omega), hl,
        show (j + 1) * 5 - 5 = j * 5 by omega, show (j + 1) * 5 + 1 - 5 = j * 5 + 1 by omega, show (j + 1) * 5 + 2 - 5 = j * 5 + 2 by omega, show (j + 1) * 5 + 3 - 5 = j * 5 + 3 by omega, show (j + 1) * 5 + 4 - 5 = j * 5 + 4 by omega]
theorem svs_one (xs : List Sh) : ∀ u ∈ svs xs, u.oneCell' = true := by
  intro u hu
  simp only [svs, List.mem_flatMap, svl] at hu
  obtain ⟨x, _, hx⟩ := hu
  simp at hx
  rcases hx with rfl | rfl | rfl | rfl | rfl <;> rfl

/-- of whom more is left, or whose value is less -/
def moreB (a b : Sh) : Bool := if a.lft = b.lft then decide (a.sym < b.sym) else decide (b.lft < a.lft)
/-- who has more, or whose count is less, or whose value is greater -/
def greatB (a b : Sh) : Bool := if a.plc = b.plc then (if a.cnt = b.cnt then decide (b.sym < a.sym) else decide (a.cnt < b.cnt)) else decide (b.plc < a.plc)
theorem moreB_ord : TotalOrd (noLess moreB) := by
  constructor
  · intro a b
    unfold noLess moreB
    by_cases h1 : a.lft = b.lft
    · rw [if_pos h1.symm, if_pos h1, decide_eq_false_iff_not, decide_eq_false_iff_not]; omega
    · rw [if_neg (Ne.symm h1), if_neg h1, decide_eq_false_iff_not, decide_eq_false_iff_not]; omega
  · intro a b c h1 h2
    unfold noLess moreB at *
    split at h1 <;> split at h2 <;> split <;> rw [decide_eq_false_iff_not] at * <;> omega
theorem greatB_ord : TotalOrd (noLess greatB) := by
  constructor
  · intro a b
    unfold noLess greatB
    by_cases h1 : a.plc = b.plc
    · rw [if_pos h1.symm, if_pos h1]
      by_cases h2 : a.cnt = b.cnt
      · rw [if_pos h2.symm, if_pos h2, decide_eq_false_iff_not, decide_eq_false_iff_not]; omega
      · rw [if_neg (Ne.symm h2), if_neg h2, decide_eq_false_iff_not, decide_eq_false_iff_not]; omega
    · rw [if_neg (Ne.symm h1), if_neg h1, decide_eq_false_iff_not, decide_eq_false_iff_not]; omega
  · intro a b c h1 h2
    unfold noLess greatB at *
    split at h1 <;> split at h2 <;> split <;> (try split at h1) <;> (try split at h2) <;> (try split) <;> rw [decide_eq_false_iff_not] at * <;> omega

/-- the queue at block b, whose shares v stand in memory from block B on: the block X is neither of them -/
def Far (b B X : Nat) (v : Value) (w : World) : Prop := B ≤ b ∧ b ≠ X ∧ v.ownBlock ≠ some X ∧ X < w.heap.size
/-- the blocks that it may turn -/
def Sq (B X k : Nat) : Prop := B ≤ k ∧ k ≠ X

end Go.Proofs.YtokeoebhmjefoaaGreat

/- Plain: shares of counts, and what a heap of them gives out. -/
namespace Go.Proofs.YtokeoebhmjefoaaGreat
open Go

/-- the share of the value i, whose count is x -/
def mkSh (size n : Int) (i : Nat) (x : Int) : Sh := if x * size / n = 0 then ⟨(i : Int), x, 1, x * size % n, true⟩ else ⟨(i : Int), x, x * size / n, x * size % n, false⟩
/-- the shares of the values below k -/
def shTo (c : List Int) (size n : Int) : Nat → List Sh
  | 0 => []
  | k + 1 => if c.getD k 0 = 0 then shTo c size n k else shTo c size n k ++ [mkSh size n k (c.getD k 0)]
theorem shTo_skip {c : List Int} {size n : Int} {k : Nat} (h : c.getD k 0 = 0) : shTo c size n (k + 1) = shTo c size n k := by simp only [shTo, if_pos h]
theorem shTo_more {c : List Int} {size n : Int} {k : Nat} (h : ¬ c.getD k 0 = 0) : shTo c size n (k + 1) = shTo c size n k ++ [mkSh size n k (c.getD k 0)] := by simp only [shTo, if_neg h]
theorem mkSh_sym (size n : Int) (i : Nat) (x : Int) : (mkSh size n i x).sym = (i : Int) := by unfold mkSh; split <;> rfl
theorem mkSh_cnt (size n : Int) (i : Nat) (x : Int) : (mkSh size n i x).cnt = x := by unfold mkSh; split <;> rfl
theorem mkSh_lft (size n : Int) (i : Nat) (x : Int) : (mkSh size n i x).lft = x * size % n := by unfold mkSh; split <;> rfl
theorem mkSh_rai (size n : Int) (i : Nat) (x : Int) : (mkSh size n i x).rai = decide (x * size / n = 0) := by
  unfold mkSh; split
  · next h => simp [h]
  · next h => simp [h]
theorem mkSh_plc (size n : Int) (i : Nat) (x : Int) : (mkSh size n i x).plc = if x * size / n = 0 then 1 else x * size / n := by unfold mkSh; split <;> rfl

theorem shTo_length (c : List Int) (size n : Int) (k : Nat) : (shTo c size n k).length ≤ k := by
  induction k with
  | zero => simp [shTo]
  | succ k ih =>
    by_cases h : c.getD k 0 = 0
    · rw [shTo_skip h]; omega
    · rw [shTo_more h]; simp; omega
theorem mem_shTo (c : List Int) (size n : Int) (k : Nat) (y : Sh) : y ∈ shTo c size n k ↔ ∃ i, i < k ∧ c.getD i 0 ≠ 0 ∧ y = mkSh size n i (c.getD i 0) := by
  induction k with
  | zero => simp [shTo]
  | succ k ih =>
    by_cases h : c.getD k 0 = 0
    · rw [shTo_skip h, ih]
      constructor
      · rintro ⟨i, h1, h2, h3⟩; exact ⟨i, by omega, h2, h3⟩
      · rintro ⟨i, h1, h2, h3⟩
        by_cases hik : i = k
        · subst hik; exact absurd h h2
        · exact ⟨i, by omega, h2, h3⟩
    · rw [shTo_more h, List.mem_append, ih, List.mem_singleton]
      constructor
      · rintro (⟨i, h1, h2, h3⟩ | rfl)
        · exact ⟨i, by omega, h2, h3⟩
        · exact ⟨k, by omega, h, rfl⟩
      · rintro ⟨i, h1, h2, h3⟩
        by_cases hik : i = k
        · subst hik; exact .inr h3
        · exact .inl ⟨i, by omega, h2, h3⟩
theorem shTo_nodup (c : List Int) (size n : Int) (k : Nat) : (shTo c size n k).Nodup := by
  induction k with
  | zero => simp [shTo]
  | succ k ih =>
    by_cases h : c.getD k 0 = 0
    · rw [shTo_skip h]; exact ih
    · rw [shTo_more h, List.nodup_append]
      refine ⟨ih, by simp, ?_⟩
      intro a ha b hb he
      rw [List.mem_singleton] at hb
      obtain ⟨i, h1, h2, h3⟩ := (mem_shTo c size n k a).1 ha
      have := congrArg Sh.sym (h3.symm.trans (he.trans hb))
      rw [mkSh_sym, mkSh_sym] at this
      omega

/-- the places of shares, laid into counts -/
def layL (q : List Int) : List Sh → List Int
  | [] => q
  | s :: r => layL (q.set s.sym.toNat s.plc) r
theorem layL_append (q : List Int) (a b : List Sh) : layL q (a ++ b) = layL (layL q a) b := by
  induction a generalizing q with
  | nil => rfl
  | cons x r ih => exact ih _
theorem lay_to (c : List Int) (size n : Int) (hl : c.length = 256) (h0 : ∀ x ∈ c, 0 ≤ x) (Z : List Int) (hZ : Z.length = 256) (hz : ∀ j, Z.getD j 0 = 0) (k : Nat) (hk : k ≤ 256) :
    (layL Z (shTo c size n k)).length = 256 ∧ ∀ j, j < 256 → (layL Z (shTo c size n k)).getD j 0 = if j < k then (qBase c size n).getD j 0 else 0 := by
  induction k with
  | zero => exact ⟨hZ, fun j _ => by rw [if_neg (by omega)]; exact hz j⟩
  | succ k ih =>
    obtain ⟨i1, i2⟩ := ih (by omega)
    have hbase := base_at (c := c) (size := size) (n := n) k (by omega)
    have hx := h0 _ (getD_mem (cs := c) (k := k) (by omega))
    by_cases h : c.getD k 0 = 0
    · rw [shTo_skip h]
      refine ⟨i1, fun j hj => ?_⟩
      rw [i2 j hj]
      by_cases hjk : j = k
      · subst hjk
        rw [if_neg (by omega), if_pos (by omega), hbase, h]
        simp
        try rfl
      · by_cases h1 : j < k
        · rw [if_pos h1, if_pos (by omega)]
        · rw [if_neg h1, if_neg (by omega)]
    · rw [shTo_more h, layL_append]
      simp only [layL, mkSh_sym, mkSh_plc, Int.toNat_natCast]
      refine ⟨by rw [List.length_set]; exact i1, fun j hj => ?_⟩
      rw [iset_getD _ _ _ _ (by omega)]
      by_cases hjk : k = j
      · subst hjk
        rw [if_pos rfl, if_pos (show k < k + 1 by omega), hbase]
        by_cases hz0 : c.getD k 0 * size / n = 0
        · rw [if_pos hz0, if_pos hz0]; omega
        · rw [if_neg hz0, if_neg hz0]
      · rw [if_neg hjk, i2 j hj]
        by_cases h1 : j < k
        · rw [if_pos h1, if_pos (by omega)]
        · rw [if_neg h1, if_neg (by omega)]
theorem lay_all (c : List Int) (size n : Int) (hl : c.length = 256) (h0 : ∀ x ∈ c, 0 ≤ x) (Z : List Int) (hZ : Z.length = 256) (hz : ∀ j, Z.getD j 0 = 0) : layL Z (shTo c size n 256) = qBase c size n := by
  obtain ⟨h1, h2⟩ := lay_to c size n hl h0 Z hZ hz 256 (Nat.le_refl _)
  apply ext_getD (by rw [h1]; simp [qBase, hl])
  intro j hj
  rw [h1] at hj
  rw [h2 j hj, if_pos hj]

/-- who wait: those that have had none -/
structure Waits (c : List Int) (size n : Int) (had : List Bool) (l : List Sh) : Prop where
  nd : l.Nodup
  mem : ∀ y, y ∈ l ↔ ∃ i, i < 256 ∧ c.getD i 0 ≠ 0 ∧ had.getD i false = false ∧ y = mkSh size n i (c.getD i 0)
theorem Waits.perm {c : List Int} {size n : Int} {had : List Bool} {l l' : List Sh} (h : Waits c size n had l) (hp : l'.Perm l) : Waits c size n had l' :=
  ⟨hp.nodup_iff.2 h.nd, fun y => by rw [hp.mem_iff]; exact h.mem y⟩
/-- what comes off is who is neediest -/
theorem Waits.next {c : List Int} {size n : Int} {had : List Bool} {l l' : List Sh} {x : Sh} (hlc : c.length = 256) (hlh : had.length = 256) (h : Waits c size n had l) (hp : l.Perm (x :: l')) (hle : ∀ y ∈ l', noLess moreB x y)
    {s : Nat} (hs : s < 256) (hc : c.getD s 0 ≠ 0) (hd : had.getD s false = false) (hn : needyTo (rest0 c size n) had 256 = some s) : x.sym = (s : Int) ∧ Waits c size n (had.set s true) l' := by
  obtain ⟨_, _, hspec⟩ := needy_some _ _ _ _ hn
  have hxm : x ∈ l := hp.symm.subset (List.mem_cons_self ..)
  obtain ⟨i, hi1, hi2, hi3, hi4⟩ := (h.mem x).1 hxm
  have hsm : mkSh size n s (c.getD s 0) ∈ x :: l' := hp.subset ((h.mem _).2 ⟨s, hs, hc, hd, rfl⟩)
  have hnl : moreB (mkSh size n s (c.getD s 0)) x = false := by
    rcases List.mem_cons.1 hsm with he | he
    · rw [he]; unfold moreB; simp
    · exact hle _ he
  have hsp := hspec i hi1 hi3
  rw [rest_at i (by omega), rest_at s (by omega)] at hsp
  have his : i = s := by
    unfold moreB at hnl
    rw [hi4, mkSh_lft, mkSh_lft, mkSh_sym, mkSh_sym] at hnl
    split at hnl
    · rw [decide_eq_false_iff_not] at hnl; omega
    · rw [decide_eq_false_iff_not] at hnl; omega
  subst his
  refine ⟨by rw [hi4, mkSh_sym], ?_, ?_⟩
  · exact (List.nodup_cons.1 (hp.nodup_iff.1 h.nd)).2
  · intro y
    have hnx : x ∉ l' := (List.nodup_cons.1 (hp.nodup_iff.1 h.nd)).1
    constructor
    · intro hy
      obtain ⟨j, hj1, hj2, hj3, hj4⟩ := (h.mem y).1 (hp.symm.subset (List.mem_cons_of_mem _ hy))
      refine ⟨j, hj1, hj2, ?_, hj4⟩
      rw [bset_getD _ _ _ _ (by omega), if_neg]
      · exact hj3
      · intro he
        subst he
        exact hnx (by rw [hi4, ← hj4]; exact hy)
    · rintro ⟨j, hj1, hj2, hj3, hj4⟩
      rw [bset_getD _ _ _ _ (by omega)] at hj3
      by_cases he : i = j
      · subst he; rw [if_pos rfl] at hj3; cases hj3
      · rw [if_neg he] at hj3
        have hyl := hp.subset ((h.mem y).2 ⟨j, hj1, hj2, hj3, hj4⟩)
        rcases List.mem_cons.1 hyl with h1 | h1
        · exfalso
          have := congrArg Sh.sym (hj4.symm.trans (h1.trans hi4))
          rw [mkSh_sym, mkSh_sym] at this
          omega
        · exact h1

/-- a share that has so many places now -/
def upSh (size n : Int) (q c : List Int) (i : Nat) : Sh := { mkSh size n i (c.getD i 0) with plc := q.getD i 0 }
/-- all shares, with their places -/
structure Gives (c : List Int) (size n : Int) (q : List Int) (l : List Sh) : Prop where
  nd : l.Nodup
  mem : ∀ y, y ∈ l ↔ ∃ i, i < 256 ∧ c.getD i 0 ≠ 0 ∧ y = upSh size n q c i
theorem upSh_sym (size n : Int) (q c : List Int) (i : Nat) : (upSh size n q c i).sym = (i : Int) := by unfold upSh; simp only []; exact mkSh_sym ..
theorem upSh_cnt (size n : Int) (q c : List Int) (i : Nat) : (upSh size n q c i).cnt = c.getD i 0 := by unfold upSh; simp only []; exact mkSh_cnt ..
theorem upSh_plc (size n : Int) (q c : List Int) (i : Nat) : (upSh size n q c i).plc = q.getD i 0 := rfl
theorem upSh_inj {size n : Int} {q q' c c' : List Int} {i j : Nat} (h : upSh size n q c i = upSh size n q' c' j) : i = j := by
  have := congrArg Sh.sym h
  rw [upSh_sym, upSh_sym] at this
  omega
theorem gives_base {c : List Int} {size n : Int} (hl : c.length = 256) (h0 : ∀ x ∈ c, 0 ≤ x) (i : Nat) (hi : i < 256) (hc : c.getD i 0 ≠ 0) : upSh size n (qBase c size n) c i = mkSh size n i (c.getD i 0) := by
  have hx := h0 _ (getD_mem (cs := c) (k := i) (by omega))
  unfold upSh
  rw [base_at i (by omega)]
  unfold mkSh
  have hm : min (c.getD i 0) 1 = 1 := by omega
  by_cases hz0 : c.getD i 0 * size / n = 0
  · rw [if_pos hz0, if_pos hz0, hm]
  · rw [if_neg hz0, if_neg hz0]
/-- what comes off is who is richest; what is laid back has one less -/
theorem Gives.next {c q : List Int} {size n : Int} {l l' : List Sh} {x : Sh} (hlq : q.length = 256) (h : Gives c size n q l) (hp : l.Perm (x :: l')) (hle : ∀ y ∈ l', noLess greatB x y)
    (hc : c.getD (richTo q c 255) 0 ≠ 0) : x = upSh size n q c (richTo q c 255) ∧ Gives c size n (takeStep c q) ({ x with plc := x.plc - 1 } :: l') := by
  obtain ⟨hR, hspec⟩ := rich_spec q c 255
  obtain ⟨R, hRR⟩ : ∃ R, richTo q c 255 = R := ⟨_, rfl⟩
  have hts : takeStep c q = q.set R (q.getD R 0 - 1) := by unfold takeStep; rw [hRR]
  rw [hRR] at hR hspec hc ⊢
  have hxm : x ∈ l := hp.symm.subset (List.mem_cons_self ..)
  obtain ⟨i, hi1, hi2, hi4⟩ := (h.mem x).1 hxm
  have hsm : upSh size n q c R ∈ x :: l' := hp.subset ((h.mem _).2 ⟨R, by omega, hc, rfl⟩)
  have hnl : greatB (upSh size n q c R) x = false := by
    rcases List.mem_cons.1 hsm with he | he
    · rw [he]; unfold greatB; simp
    · exact hle _ he
  have hsp := hspec i (by omega)
  have his : i = R := by
    unfold greatB at hnl
    rw [hi4, upSh_plc, upSh_plc, upSh_sym, upSh_sym, upSh_cnt, upSh_cnt] at hnl
    split at hnl
    · split at hnl <;> rw [decide_eq_false_iff_not] at hnl <;> omega
    · rw [decide_eq_false_iff_not] at hnl; omega
  subst his
  have hnx : x ∉ l' := (List.nodup_cons.1 (hp.nodup_iff.1 h.nd)).1
  have hup : ({ x with plc := x.plc - 1 } : Sh) = upSh size n (takeStep c q) c i := by
    rw [hts, hi4]
    unfold upSh
    simp only [Sh.mk.injEq, true_and, and_true]
    rw [iset_getD _ _ _ _ (by omega), if_pos rfl]
  have hoth : ∀ j, i ≠ j → upSh size n (takeStep c q) c j = upSh size n q c j := fun j hj => by
    rw [hts]
    unfold upSh
    rw [iset_getD _ _ _ _ (by omega), if_neg hj]
  refine ⟨hi4, ?_, ?_⟩
  · rw [hup, List.nodup_cons]
    refine ⟨fun hm => ?_, (List.nodup_cons.1 (hp.nodup_iff.1 h.nd)).2⟩
    obtain ⟨j, hj1, hj2, hj4⟩ := (h.mem _).1 (hp.symm.subset (List.mem_cons_of_mem _ hm))
    have hij := upSh_inj hj4
    subst hij
    exact hnx (by rw [hi4, ← hj4]; exact hm)
  · intro y
    rw [hup, List.mem_cons]
    constructor
    · rintro (rfl | hy)
      · exact ⟨i, hi1, hi2, rfl⟩
      · obtain ⟨j, hj1, hj2, hj4⟩ := (h.mem y).1 (hp.symm.subset (List.mem_cons_of_mem _ hy))
        refine ⟨j, hj1, hj2, ?_⟩
        rw [hoth j (fun he => by subst he; exact hnx (by rw [hi4, ← hj4]; exact hy))]
        exact hj4
    · rintro ⟨j, hj1, hj2, hj4⟩
      by_cases he : i = j
      · subst he; exact .inl hj4
      · right
        rw [hoth j he] at hj4
        have hyl := hp.subset ((h.mem y).2 ⟨j, hj1, hj2, hj4⟩)
        rcases List.mem_cons.1 hyl with h1 | h1
        · exfalso
          exact he (upSh_inj (hi4.symm.trans (h1.symm.trans hj4)))
        · exact h1

end Go.Proofs.YtokeoebhmjefoaaGreat

/- What the methods of norm's queue do. THIS SPEAKS OF THE PROGRAM'S OWN TEXT. -/
namespace Go.Proofs.YtokeoebhmjefoaaGreat
open Go.RowKit

section
variable {b B f X : Nat} {w : World} {l : List Sh}

end

end Go.Proofs.YtokeoebhmjefoaaGreat

/- What Swap of norm's queue does. THIS SPEAKS OF THE PROGRAM'S OWN TEXT. -/
namespace Go.Proofs.YtokeoebhmjefoaaGreat
open Go.RowKit

section
variable {b B f X : Nat} {w : World} {l : List Sh}

/-- five cells of the block g, one behind the other -/
def W5 (w : World) (g k : Nat) (s : Sh) : World := ((((w.setCell ⟨g, k, none⟩ (.int .i64 s.sym)).setCell ⟨g, k + 1, none⟩ (.int .i64 s.cnt)).setCell ⟨g, k + 2, none⟩ (.int .i64 s.plc)).setCell ⟨g, k + 3, none⟩ (.int .i64 s.lft)).setCell ⟨g, k + 4, none⟩ (.bool s.rai)
theorem W5_chg (w : World) (g k : Nat) (s : Sh) : Chg (fun q => q = g) w (W5 w g k s) :=
  ((((Chg.setCell w ⟨g, k, none⟩ _).trans (Chg.setCell _ ⟨g, k + 1, none⟩ _) fun _ _ h => h).trans (Chg.setCell _ ⟨g, k + 2, none⟩ _) fun _ _ h => h).trans (Chg.setCell _ ⟨g, k + 3, none⟩ _) fun _ _ h => h).trans (Chg.setCell _ ⟨g, k + 4, none⟩ _) fun _ _ h => h
end

end Go.Proofs.YtokeoebhmjefoaaGreat

/- What norm's divide and told do. THIS SPEAKS OF THE PROGRAM'S OWN TEXT. -/
namespace Go.Proofs.YtokeoebhmjefoaaGreat
open Go.RowKit

theorem layL_length (q : List Int) (l : List Sh) : (layL q l).length = q.length := by
  induction l generalizing q with
  | nil => rfl
  | cons x r ih => rw [layL, ih, List.length_set]
theorem layL_take (q : List Int) (l : List Sh) (k : Nat) (hk : k < l.length) : layL q (l.take (k + 1)) = (layL q (l.take k)).set (l.getD k default).sym.toNat (l.getD k default).plc := by
  rw [List.take_succ_eq_append_getElem hk, layL_append, List.getD_eq_getElem?_getD, List.getElem?_eq_getElem hk]; rfl

end Go.Proofs.YtokeoebhmjefoaaGreat

/- norm's queue is a heap; what its add and next do. THIS SPEAKS OF THE PROGRAM'S OWN TEXT. -/
namespace Go.Proofs.YtokeoebhmjefoaaGreat
open Go.RowKit

section
variable {b B f X : Nat} {w : World} {l : List Sh}

end

end Go.Proofs.YtokeoebhmjefoaaGreat

/- What norm's fill and thin do. THIS SPEAKS OF THE PROGRAM'S OWN TEXT. -/
namespace Go.Proofs.YtokeoebhmjefoaaGreat
open Go.RowKit

/-- the first ones that were not raised -/
def calm (l : List Sh) : List Sh := l.filter fun s => !s.rai
theorem calm_take (l : List Sh) (k : Nat) (hk : k < l.length) : calm (l.take (k + 1)) = calm (l.take k) ++ (if (l.getD k default).rai = true then [] else [l.getD k default]) := by
  unfold calm
  rw [List.take_succ_eq_append_getElem hk, List.filter_append, List.getD_eq_getElem?_getD, List.getElem?_eq_getElem hk]
  simp only [Option.getD_some]
  congr 1
  cases h : l[k].rai <;> simp [h]
theorem calm_length (l : List Sh) : (calm l).length ≤ l.length := List.length_filter_le ..
theorem calm_waits (c : List Int) (size n : Int) (hl : c.length = 256) : Waits c size n (had0 c size n) (calm (shTo c size n 256)) := by
  refine ⟨(shTo_nodup c size n 256).filter _, fun y => ?_⟩
  unfold calm
  rw [List.mem_filter, mem_shTo]
  constructor
  · rintro ⟨⟨i, h1, h2, h3⟩, h4⟩
    refine ⟨i, h1, h2, ?_, h3⟩
    rw [had_at i (by omega)]
    rw [h3, mkSh_rai] at h4
    simpa using h4
  · rintro ⟨i, h1, h2, h3, h4⟩
    refine ⟨⟨i, h1, h2, h4⟩, ?_⟩
    rw [had_at i (by omega)] at h3
    rw [h4, mkSh_rai, h3]; rfl
/-- a gift: who is neediest has a count, and comes next -/
theorem gave_needy {c : List Int} {size n : Int} (hl : c.length = 256) (k : Nat) (hk : k < cntN (rest0 c size n) (had0 c size n)) {p : List Int × List Bool} (hp : p = giveN (rest0 c size n) k (qBase c size n) (had0 c size n)) :
    ∃ s, s < 256 ∧ c.getD s 0 ≠ 0 ∧ p.2.getD s false = false ∧ needyTo (rest0 c size n) p.2 256 = some s ∧ p.1.length = 256 ∧ p.2.length = 256 := by
  have g := gave (rest := rest0 c size n) (q := qBase c size n) (had := had0 c size n) (by simp [rest0, hl]) (by simp [qBase, hl]) (by simp [had0, hl]) k (by omega)
  rw [← hp] at g
  obtain ⟨s, h1, h2, h3, g2⟩ := gave_step (by simp [rest0, hl]) g hk
  refine ⟨s, h2, fun h0 => ?_, h3, h1, g.len1, g.len2⟩
  have hso := g2.some s h2 ?_ ?_
  · rw [rest_at s (by omega), h0] at hso; simp at hso
  · cases hh : (had0 c size n).getD s false with
    | false => rfl
    | true => have := g.keep s hh; rw [this] at h3; cases h3
  · simp only; rw [bset_getD _ _ _ _ (by rw [g.len2]; exact h2), if_pos rfl]

end Go.Proofs.YtokeoebhmjefoaaGreat

/- What norm's thin does. THIS SPEAKS OF THE PROGRAM'S OWN TEXT. -/
namespace Go.Proofs.YtokeoebhmjefoaaGreat
open Go.RowKit

theorem all_gives (c : List Int) (size n : Int) (hl : c.length = 256) (h0 : ∀ x ∈ c, 0 ≤ x) : Gives c size n (qBase c size n) (shTo c size n 256) := by
  refine ⟨shTo_nodup c size n 256, fun y => ?_⟩
  rw [mem_shTo]
  constructor
  · rintro ⟨i, h1, h2, h3⟩; exact ⟨i, h1, h2, by rw [gives_base hl h0 i h1 h2]; exact h3⟩
  · rintro ⟨i, h1, h2, h3⟩; exact ⟨i, h1, h2, by rw [← gives_base hl h0 i h1 h2]; exact h3⟩
theorem Gives.perm {c : List Int} {size n : Int} {q : List Int} {l l' : List Sh} (h : Gives c size n q l) (hp : l'.Perm l) : Gives c size n q l' :=
  ⟨hp.nodup_iff.2 h.nd, fun y => by rw [hp.mem_iff]; exact h.mem y⟩

end Go.Proofs.YtokeoebhmjefoaaGreat

/- What norm's Counts, Right and Log tell. THIS SPEAKS OF THE PROGRAM'S OWN TEXT. -/
namespace Go.Proofs.YtokeoebhmjefoaaGreat
open Go.RowKit

set_option maxHeartbeats 1000000 in
set_option maxRecDepth 100000 in
theorem nmaybe_any (r : Int) (w : World) : Calls Tryz.prog 82 #[.int .i64 r] w fun e w' => e = .returned (.bool (decide (1 ≤ r ∧ r ≤ 12))) ∧ w' = w := by
  by_cases h1 : 1 ≤ r
  · by_cases h2 : r ≤ 12
    · rw [decide_eq_true ⟨h1, h2⟩]
      go_enter Tryz.func82, Tryz.ntmps82
      go_wp2
      go_ret
      exact ⟨rfl, rfl⟩
    · rw [decide_eq_false (fun h => h2 h.2)]
      go_enter Tryz.func82, Tryz.ntmps82
      go_wp2
      go_ret
      exact ⟨rfl, rfl⟩
  · rw [decide_eq_false (fun h => h1 h.1)]
    go_enter Tryz.func82, Tryz.ntmps82
    go_wp2
    go_ret
    exact ⟨rfl, rfl⟩

set_option maxHeartbeats 1000000 in
set_option maxRecDepth 100000 in
theorem nlog_any (v : Value) (q : List Int) (w : World) (h : RdI w v q) (hb : ∀ z ∈ q, -9223372036854775808 ≤ z ∧ z ≤ 9223372036854775807) (hl : q.length < 100000000000) :
    Calls Tryz.prog 69 #[v] w fun e w' => e = .returned (.tuple #[.int .i64 ((logI (totalI q) : Nat) : Int), .bool (decide (0 < logI (totalI q)))]) ∧ Chg (fun _ => False) w w' := by
  have HT := Lib.hid (htotal_any v q w h hb hl)
  obtain ⟨ao, cap, rfl⟩ := h.form
  clear h hb
  have htl := totalI_le q
  obtain ⟨t, ht⟩ : ∃ t, totalI q = t := ⟨_, rfl⟩
  rw [ht] at HT htl ⊢
  obtain ⟨ht0, ht1⟩ := htl
  obtain ⟨L, hL⟩ : ∃ L, logI t = L := ⟨_, rfl⟩
  rw [hL]
  obtain ⟨D, hD⟩ : ∃ D, decide (0 < L) = D := ⟨_, rfl⟩
  rw [hD]
  have HL := Lib.hid hL; have HD := Lib.hid hD
  clear ht hL hD
  go_enter Tryz.func69, Tryz.ntmps69
  go_wp2_with fail
  refine HT.out.mono ?_
  rintro e w1 ⟨rfl, m0, rfl⟩
  have hc0 : Chg (fun _ => False) w (w.drewN m0) := (Chg.refl _ _).drewN m0
  obtain ⟨w0, hw0⟩ : ∃ w0, w.drewN m0 = w0 := ⟨_, rfl⟩
  rw [hw0] at hc0 ⊢
  have HC0 := Lib.hid hc0
  clear HT hw0 hc0
  go_wp2
  go_loopw [5] (fun o5 wr => ∃ r : Nat, 1 ≤ r ∧ r ≤ 13 ∧ o5 = .int .i64 (r : Int) ∧ (∀ j, 1 ≤ j → j < r → ¬ t = ((2 ^ j : Nat) : Int)) ∧ wr = w0) (fun o5 _ => 13 - (intOf o5).toNat)
  case atStart => exact ⟨1, Nat.le_refl _, by omega, rfl, fun j h1 h2 => by omega, rfl⟩
  case round =>
    obtain ⟨r, hr1, hr2, rfl, hno, rfl⟩ := hrel
    have HNO := Lib.hid hno
    clear hno
    by_cases hlt : r ≤ 12
    · have d1 : decide ((r : Int) ≤ 12) = true := by simp; omega
      have hlI : (r : Int) ≤ 12 := by omega
      have hpw := pow12 hlt
      obtain ⟨P, hP⟩ : ∃ P, 2 ^ r = P := ⟨_, rfl⟩
      have hPI : (2 : Int) ^ r = (P : Int) := by rw [← hP]; simp
      rw [hP] at hpw
      have hpI : (P : Int) ≤ 4096 := by omega
      have HPP := Lib.hid hP
      clear hP
      by_cases heq : t = (P : Int)
      · have hLr : L = r := by
          rw [← HL.out, heq, ← HPP.out]
          exact logI_pow hr1 hlt
        subst hLr
        subst heq
        have hD1 : D = true := by rw [← HD.out]; exact decide_eq_true (by omega)
        subst hD1
        go_wp2
        go_ret2
        exact ⟨rfl, HC0.out⟩
      · have hne : (t == (P : Int)) = false := by simp [heq]
        go_wp2
        go_roundw
        case rel =>
          refine ⟨r + 1, by omega, by omega, by go_num, fun j h1 h2 => ?_, trivial⟩
          by_cases hjr : j = r
          · subst hjr; rw [HPP.out]; exact heq
          · exact HNO.out j h1 (by omega)
        case measure => simp [intOf]; omega
    · have hr13 : r = 13 := by omega
      have hrI : (r : Int) = 13 := by omega
      rw [hrI]
      have hL0 : L = 0 := by
        rw [← HL.out]
        exact logI_none fun j h1 h2 => HNO.out j h1 (by omega)
      subst hL0
      have hD1 : D = false := by rw [← HD.out]; rfl
      subst hD1
      clear hr13 hrI hlt hr1 hr2
      go_wp2
      go_ret2
      exact ⟨rfl, HC0.out⟩

theorem log_of_total {t r : Int} (h1 : 1 ≤ r) (h2 : r ≤ 12) : (t = ((2 ^ r.toNat : Nat) : Int)) ↔ (0 < logI t ∧ ((logI t : Nat) : Int) = r) := by
  constructor
  · intro h
    rw [h, logI_pow (by omega) (by omega)]; omega
  · rintro ⟨h3, h4⟩
    rcases logI_spec t with h5 | ⟨_, h5⟩
    · omega
    · have : r.toNat = logI t := by omega
      rw [this]; exact h5

set_option maxHeartbeats 1000000 in
set_option maxRecDepth 100000 in
theorem nright_any (v : Value) (q : List Int) (r : Int) (w : World) (h : RdI w v q) (hb : ∀ z ∈ q, -9223372036854775808 ≤ z ∧ z ≤ 9223372036854775807) (hl : q.length < 100000000000) (hr : -9223372036854775808 ≤ r ∧ r ≤ 9223372036854775807) :
    Calls Tryz.prog 66 #[v, .int .i64 r] w fun e w' => e = .returned (.bool (decide (0 < logI (totalI q) ∧ ((logI (totalI q) : Nat) : Int) = r))) ∧ Chg (fun _ => False) w w' := by
  have hq : ∀ m, RdI (w.drewN m) v q := fun m => h.kept ((Chg.refl (fun _ => False) w).drewN m) (by simp)
  have HT := Lib.hid (show ∀ m, Calls Tryz.prog 83 #[v] (w.drewN m) fun e w' => e = .returned (.int .i64 (totalI q)) ∧ ∃ k, w' = (w.drewN m).drewN k from fun m => htotal_any v q (w.drewN m) (hq m) hb hl)
  have HMB := Lib.hid (nmaybe_any r)
  obtain ⟨ao, cap, rfl⟩ := h.form
  clear h hb hq
  have hle := logI_le (totalI q)
  have hsp := @log_of_total (totalI q) r
  have htl := totalI_le q
  obtain ⟨t, ht⟩ : ∃ t, totalI q = t := ⟨_, rfl⟩
  rw [ht] at HT htl hle hsp ⊢
  obtain ⟨ht0, ht1⟩ := htl
  obtain ⟨hr0, hr1⟩ := hr
  by_cases h1 : 1 ≤ r ∧ r ≤ 12
  · have hpw := pow12 (k := r.toNat) (by omega)
    have hsp := hsp h1.1 h1.2
    obtain ⟨k, rfl⟩ : ∃ k : Nat, r = (k : Int) := ⟨r.toNat, by omega⟩
    rw [Int.toNat_natCast] at hpw hsp
    obtain ⟨P, hP⟩ : ∃ P, 2 ^ k = P := ⟨_, rfl⟩
    have hPI : (2 : Int) ^ k = (P : Int) := by rw [← hP]; simp
    rw [hP] at hpw hsp
    have hpI : (P : Int) ≤ 4096 := by omega
    have hkI : (k : Int) ≤ 12 := h1.2
    have hD : decide (0 < logI t ∧ ((logI t : Nat) : Int) = (k : Int)) = (t == (P : Int)) := by
      rw [Bool.eq_iff_iff]; simp only [decide_eq_true_eq, beq_iff_eq]; exact hsp.symm
    rw [hD]
    rw [decide_eq_true h1] at HMB
    clear hsp hle ht h1 hD hP
    go_enter Tryz.func66, Tryz.ntmps66
    go_wp2
    go_quiet (first | (go_at_call 82; with_reducible exact Calls.quiet_of_same (HMB.out _)) | (go_at_call 83; with_reducible exact Calls.quiet_of (HT.out _)))
    go_wp2
    go_ret
    exact ⟨rfl, (Chg.refl _ _).drewN _⟩
  · rw [decide_eq_false h1] at HMB
    have hD : decide (0 < logI t ∧ ((logI t : Nat) : Int) = r) = false := decide_eq_false fun hh => h1 (by omega)
    rw [hD]
    clear hsp hle ht
    go_enter Tryz.func66, Tryz.ntmps66
    go_wp2
    go_quiet (first | (go_at_call 82; with_reducible exact Calls.quiet_of_same (HMB.out _)))
    go_wp2
    go_ret
    exact ⟨rfl, (Chg.refl _ _).drewN _⟩

theorem zc_le (size n : Int) (c : List Int) : zc size n c ≤ c.length := by
  induction c with
  | nil => simp [zc]
  | cons x r ih => simp only [zc, List.length_cons]; split <;> omega
theorem mem_le_tot (l : List Int) (h0 : ∀ x ∈ l, 0 ≤ x) : ∀ x ∈ l, x ≤ tot l := by
  induction l with
  | nil => simp
  | cons y r ih =>
    intro x hx
    have hn := tot_nonneg r fun z hz => h0 z (by simp [hz])
    have hy := h0 y (by simp)
    rcases List.mem_cons.1 hx with rfl | hx
    · simp only [tot]; omega
    · have := ih (fun z hz => h0 z (by simp [hz])) x hx
      simp only [tot]; omega
theorem base_right {c : List Int} {size : Int} (h : Fit c size) (hs : size ≤ 4096) : isRight (qBase c size (tot c)) ∧ tot (qBase c size (tot c)) ≤ 4352 ∧ ∀ x ∈ qBase c size (tot c), 0 ≤ x ∧ x ≤ 1000000 := by
  have hn := h.some
  have hb := base_sum size (tot c) c h.low
  have hp := sum_parts size (tot c) c
  have hr := tot_rest_nonneg size (tot c) hn c
  have hz := zc_le size (tot c) c
  rw [h.len] at hz
  have h1 : tot c * tot (q0L c size (tot c)) ≤ tot c * size := by omega
  have h2 := Int.le_of_mul_le_mul_left h1 hn
  have h0 : ∀ x ∈ qBase c size (tot c), 0 ≤ x := by
    intro x hx
    simp only [qBase, List.mem_map] at hx
    obtain ⟨y, hy, rfl⟩ := hx
    have hy0 := h.low y hy
    have := (div_parts y size (tot c) hn hy0 h.sz).1
    split <;> omega
  have ht : tot (qBase c size (tot c)) ≤ 4352 := by omega
  exact ⟨⟨by simp [qBase, h.len], h0, by omega⟩, ht, fun x hx => ⟨h0 x hx, by have := mem_le_tot _ h0 x hx; omega⟩⟩
theorem OwnI.rebase {w : World} {B B' : Nat} {v : Value} {l : List Int} (h : OwnI w B v l) (hb : ∀ k, v.ownBlock = some k → B' ≤ k) : OwnI w B' v l := by
  obtain ⟨g, off, cap, rfl, _, h2⟩ := h
  exact ⟨g, off, cap, rfl, hb g rfl, h2⟩
theorem OwnI.block {w : World} {B : Nat} {v : Value} {l : List Int} (h : OwnI w B v l) : ∀ k, v.ownBlock = some k → B ≤ k := by
  obtain ⟨g, off, cap, rfl, h1, _⟩ := h
  intro k hk
  simp only [Value.ownBlock, Option.some.injEq] at hk
  omega
theorem tot_pos_iff (c : List Int) (h0 : ∀ x ∈ c, 0 ≤ x) : 0 < tot c ↔ 0 < pos c := by
  induction c with
  | nil => simp [tot, pos]
  | cons x r ih =>
    have ih := ih fun z hz => h0 z (by simp [hz])
    have hx := h0 x (by simp)
    have hn := tot_nonneg r fun z hz => h0 z (by simp [hz])
    simp only [tot, pos]
    split <;> omega
theorem many_norm {c : List Int} {r : Int} (h1 : 1 ≤ r) (h2 : r ≤ 12) : normOk c r ↔ manyI c ≠ 0 ∧ (manyI c : Int) ≤ ((2 ^ r.toNat : Nat) : Int) := by
  unfold normOk manyI
  by_cases h : isRight c
  · rw [if_pos h]
    have hp := tot_pos_iff c h.2.1
    constructor
    · rintro ⟨_, h3, _, _, h4⟩; exact ⟨by omega, h4⟩
    · rintro ⟨h3, h4⟩; exact ⟨h, by omega, h1, h2, h4⟩
  · rw [if_neg h]
    exact ⟨fun hh => absurd hh.1 h, fun hh => absurd rfl hh.1⟩

end Go.Proofs.YtokeoebhmjefoaaGreat

/- A slice of parts that is read; all parts put; a Writer of the call's own. -/
namespace Go.Proofs.YtokeoebhmjefoaaGreat
open Go.RowKit

/-- The value is a slice of the parts ps (a number and how many bits), none of them beyond its kind. -/
structure RdP (w : World) (v : Value) (ps : List (Nat × Int)) : Prop where
  form : ∃ ao cap, v = .slice ao ps.length cap ∧ (0 < ps.length → ∃ g off, ao = some ⟨g, off, none⟩)
  cells : ∀ g off n cap, v = .slice (some ⟨g, off, none⟩) n cap → ∀ i (h : i < ps.length), w.cell? ⟨g, off + i * 2, none⟩ = some (.int .u32 (ps[i].1 : Int)) ∧ w.cell? ⟨g, off + i * 2 + 1, none⟩ = some (.int .i64 ps[i].2)
  wf : ∀ p ∈ ps, p.1 < 4294967296

theorem RdP.kept {S : Nat → Prop} {w w' : World} {v : Value} {ps : List (Nat × Int)} (h : RdP w v ps) (hc : Chg S w w') (hS : ∀ k, v.ownBlock = some k → ¬ S k) : RdP w' v ps := by
  refine ⟨h.form, fun g off n cap hv i hi => ?_, h.wf⟩
  have hh := h.cells g off n cap hv i hi
  have hlt : g < w.heap.size := block_lt_of_cell hh.1
  have hb := hc.block g hlt (hS g (by rw [hv]; rfl))
  rw [World.cell?_of_block (w := w) (a := ⟨g, off + i * 2, none⟩) hb, World.cell?_of_block (w := w) (a := ⟨g, off + i * 2 + 1, none⟩) hb]
  exact hh

theorem Wr.drew {w : World} {b : Nat} {o : Option Nat} {bs : List Bool} (h : Wr w b o bs) : Wr w.drew b o bs := h

/-- all parts put, one behind the other -/
def putAll (bs : List Bool) : List (Nat × Int) → List Bool
  | [] => bs
  | p :: r => putAll (putB bs p.1 p.2) r

theorem putAll_append (bs : List Bool) (a b : List (Nat × Int)) : putAll bs (a ++ b) = putAll (putAll bs a) b := by
  induction a generalizing bs with
  | nil => rfl
  | cons p r ih => exact ih _

theorem putAll_succ (bs : List Bool) (ps : List (Nat × Int)) (k : Nat) (h : k < ps.length) : putAll bs (ps.take (k + 1)) = putB (putAll bs (ps.take k)) ps[k].1 ps[k].2 := by
  rw [List.take_succ_eq_append_getElem h, putAll_append]; rfl

theorem putAll_length (bs : List Bool) (ps : List (Nat × Int)) : bs.length ≤ (putAll bs ps).length ∧ (putAll bs ps).length ≤ bs.length + 24 * ps.length := by
  induction ps generalizing bs with
  | nil => simp [putAll]
  | cons p r ih =>
    have h1 := putB_length bs p.1 p.2
    have h2 := ih (putB bs p.1 p.2)
    simp only [putAll, List.length_cons]; omega

/-- A Writer of the call's own: all of it lies from B on. -/
def Own (B : Nat) (w : World) (b : Nat) (bs : List Bool) : Prop := ∃ o, Wr w b o bs ∧ B ≤ b ∧ ∀ k, o = some k → B ≤ k

theorem put_int (b : Nat) (o : Option Nat) (bs : List Bool) (v n : Int) (w : World) (h : Wr w b o bs) (hlen : bs.length < 900000000) (hv0 : 0 ≤ v) (hv : v < 4294967296) :
    Calls Tryz.prog 61 #[.pointer (some ⟨b, 0, none⟩), .int .u32 v, .int .i64 n] w fun e w' => e = .returned (.bool (decide (0 ≤ n ∧ n ≤ 24))) ∧ WrTo w w' b o (putB bs v.toNat n) := by
  obtain ⟨u, rfl⟩ := Int.eq_ofNat_of_zero_le hv0
  rw [Int.toNat_natCast]
  exact put_any b o bs u n w h hlen (by omega)

theorem put_in (b : Nat) (o : Option Nat) (bs : List Bool) (v n : Int) (w : World) (h : Wr w b o bs) (hlen : bs.length < 900000000) (hv0 : 0 ≤ v) (hv : v < 4294967296) (hn0 : 0 ≤ n) (hn : n ≤ 24) :
    Calls Tryz.prog 61 #[.pointer (some ⟨b, 0, none⟩), .int .u32 v, .int .i64 n] w fun e w' => e = .returned (.bool true) ∧ ∃ o', Wr w' b o' (bs ++ bitsOf v.toNat n.toNat) ∧ Chg (fun k => k = b ∨ some k = o) w w' ∧ (o' = o ∨ ∃ k, o' = some k ∧ w.heap.size ≤ k) := by
  refine (put_int b o bs v n w h hlen hv0 hv).mono ?_
  rintro e w' ⟨rfl, ht⟩
  rw [show decide (0 ≤ n ∧ n ≤ 24) = true from decide_eq_true ⟨hn0, hn⟩]
  unfold putB at ht
  rw [if_pos ⟨hn0, hn⟩] at ht
  exact ⟨rfl, ht⟩

theorem Own.to {B : Nat} {w w' : World} {b : Nat} {o : Option Nat} {bs : List Bool} (h : WrTo w w' b o bs) (hB : B ≤ b) (ho : ∀ k, o = some k → B ≤ k) (hs : B ≤ w.heap.size) : Own B w' b bs ∧ Chg (fun k => B ≤ k) w w' := by
  obtain ⟨o', hw, hc, ho'⟩ := h
  refine ⟨⟨o', hw, hB, fun k hk => ?_⟩, hc.mono fun k _ hk => ?_⟩
  · rcases ho' with rfl | ⟨j, rfl, hj⟩
    · exact ho k hk
    · simp only [Option.some.injEq] at hk; omega
  · rcases hk with rfl | hk
    · exact hB
    · exact ho k hk.symm

theorem put_own (B b : Nat) (bs : List Bool) (v n : Int) (w : World) (h : Own B w b bs) (hs : B ≤ w.heap.size) (hlen : bs.length < 900000000) (hv0 : 0 ≤ v) (hv : v < 4294967296) :
    Calls Tryz.prog 61 #[.pointer (some ⟨b, 0, none⟩), .int .u32 v, .int .i64 n] w fun e w' => e = .returned (.bool (decide (0 ≤ n ∧ n ≤ 24))) ∧ Own B w' b (putB bs v.toNat n) ∧ Chg (fun k => B ≤ k) w w' := by
  obtain ⟨o, hw, hB, ho⟩ := h
  refine (put_int b o bs v n w hw hlen hv0 hv).mono ?_
  rintro e w' ⟨rfl, ht⟩
  exact ⟨rfl, Own.to ht hB ho hs⟩

end Go.Proofs.YtokeoebhmjefoaaGreat

/- Several Writers side by side: those that aren't put into stay as they were. -/
namespace Go.Proofs.YtokeoebhmjefoaaGreat
open Go.RowKit

/-- two Writers that share no block -/
def Dj (b : Nat) (o : Option Nat) (b' : Nat) (o' : Option Nat) : Prop := b ≠ b' ∧ o ≠ some b' ∧ o' ≠ some b ∧ (o = none ∨ o ≠ o')

theorem Dj.symm {b b' : Nat} {o o' : Option Nat} (h : Dj b o b' o') : Dj b' o' b o := by
  obtain ⟨h1, h2, h3, h4⟩ := h
  refine ⟨fun h => h1 h.symm, h3, h2, ?_⟩
  rcases h4 with h | h
  · cases o' with
    | none => exact .inl rfl
    | some k => exact .inr (by rw [h]; simp)
  · exact .inr fun e => h e.symm

theorem Dj.step {w : World} {b b' : Nat} {o o1 o' : Option Nat} {ys : List Bool} (h : Dj b o b' o') (hy : Wr w b' o' ys) (h1 : o1 = o ∨ ∃ k, o1 = some k ∧ w.heap.size ≤ k) : Dj b o1 b' o' := by
  rcases h1 with rfl | ⟨k, rfl, hk⟩
  · exact h
  · have hl := hy.lt
    refine ⟨h.1, fun e => ?_, h.2.2.1, .inr fun e => ?_⟩
    · simp only [Option.some.injEq] at e; omega
    · have := (hl.2 k e.symm).2; omega

theorem Dj.keep {w w' : World} {b b' : Nat} {o o' : Option Nat} {ys : List Bool} (h : Dj b o b' o') (hy : Wr w b' o' ys) (hc : Chg (fun k => k = b ∨ some k = o) w w') : Wr w' b' o' ys := by
  refine hy.kept hc ?_ ?_
  · rintro (h' | h')
    · exact h.1 h'.symm
    · exact h.2.1 h'.symm
  · rintro k hk (h' | h')
    · exact h.2.2.1 (by rw [hk, h'])
    · rcases h.2.2.2 with h4 | h4
      · rw [h4] at h'; cases h'
      · exact h4 (by rw [hk, h'])

/-- all of it lies from B on -/
def Above (B b : Nat) (o : Option Nat) : Prop := B ≤ b ∧ ∀ k, o = some k → B ≤ k

theorem Above.mono {B B' b : Nat} {o : Option Nat} (h : Above B b o) (hB : B' ≤ B) : Above B' b o := ⟨Nat.le_trans hB h.1, fun k hk => Nat.le_trans hB (h.2 k hk)⟩

theorem Above.step {w : World} {B b : Nat} {o o1 : Option Nat} (h : Above B b o) (hs : B ≤ w.heap.size) (h1 : o1 = o ∨ ∃ k, o1 = some k ∧ w.heap.size ≤ k) : Above B b o1 := by
  rcases h1 with rfl | ⟨k, rfl, hk⟩
  · exact h
  · exact ⟨h.1, fun j hj => by simp only [Option.some.injEq] at hj; omega⟩

theorem Dj.of_above {w : World} {b b' : Nat} {o o' : Option Nat} {xs : List Bool} (hx : Wr w b o xs) (h : Above w.heap.size b' o') : Dj b o b' o' := by
  have hl := hx.lt
  refine ⟨by have := h.1; omega, fun e => by have := (hl.2 _ e).2; have := h.1; omega, fun e => by have := h.2 _ e; omega, ?_⟩
  cases o with
  | none => exact .inl rfl
  | some k => exact .inr fun e => by have := (hl.2 k rfl).2; have := h.2 k e.symm; omega

theorem Chg.up {w w1 w2 : World} {b : Nat} {o : Option Nat} (h : Chg (fun _ => False) w w1) (h2 : Chg (fun k => k = b ∨ some k = o) w1 w2) (ha : Above w.heap.size b o) : Chg (fun _ => False) w w2 :=
  h.trans h2 fun k hk hx => by
    rcases hx with hx | hx
    · have := ha.1; omega
    · have := ha.2 k hx.symm; omega

theorem Chg.next {w w1 w2 : World} (h : Chg (fun _ => False) w w1) (h2 : Chg (fun _ => False) w1 w2) : Chg (fun _ => False) w w2 := h.trans h2 fun _ _ h => h

/-- append at an operation that stands under a guard which says yes -/
theorem wpList_append_want {P : Program} {ops : Array Oper} {rest : List Oper} {o : Oper} {a : Act} {w : World} {Q : Exit → Act → World → Prop} (s x : Operand) (t : TypeId)
    (ho : o.op = .call { callee := .builtin .append, args := #[s, x], argTypes := #[t, t] })
    (base : Nat) (e : TypeId) (i : TypeInfo) (z : Value) (size bytes : Nat) (ht : P.underlying t = some (.slice e)) (hi : P.info? e = some i) (hz : i.zero = some z)
    (hsize : i.size = size) (hby : i.bytes = bytes) (hzs : z.cells.size = size) (hsz : 0 < size)
    (v : Value) (n : Nat) (xs : List Value) (hs : a.eval s = v) (hown : w.ownsRow base e size v n xs)
    (ad : Addr) (m c : Nat) (news : List Value) (hx : a.eval x = .slice (some ad) m c) (hl : news.length = m * size) (hnews : ∀ j u, news[j]? = some u → w.cell? (ad.add j) = some u) (h1 : ∀ u ∈ news, u.oneCell' = true)
    (hm : 0 < m) (h63 : n + m ≤ maxLen) (hbytes : (n + m) * bytes ≤ 140737488355328) (hbase : base ≤ w.heap.size)
    (hw : Region.wanted o (yielded ops a.tmps) = true)
    (h : ∀ g cap w', w'.ownsRow base e size (.slice (some ⟨g, 0, none⟩) (n + m) cap) (n + m) (xs ++ news) → w.grownBy w' v.ownBlock → (v.ownBlock = some g ∨ g = w.heap.size) → wpList P ops Q rest (a.put o.dst (.slice (some ⟨g, 0, none⟩) (n + m) cap)) w') :
    wpList P ops Q (o :: rest) a w :=
  BigFrame.wpList_want hw fun _ hK => wp_append_lies w s x t ho base e i z size bytes ht hi hz hsize hby hzs hsz v n xs hs hown ad m c news hx hl hnews h1 hm h63 hbytes hbase _ rfl fun g cap w' h2 h3 h4 _ => hK _ _ (h g cap w' h2 h3 h4)

end Go.Proofs.YtokeoebhmjefoaaGreat

/- slices.Clone of bytes; a bitf.Reader in memory; what bitf's begun, bitAt, Left, New do. -/
namespace Go.Proofs.YtokeoebhmjefoaaGreat
open Go.RowKit

theorem RdB.news {w : World} {a : Addr} {n cap : Nat} {xs : List Nat} (h : RdB w (.slice (some a) n cap) xs) : ∀ j u, (bv xs)[j]? = some u → w.cell? (a.add j) = some u := by
  intro j u hu
  rcases h with ⟨rfl, _⟩ | ⟨g, off, cap', he, hc⟩
  · simp [bv] at hu
  · simp only [Value.slice.injEq, Option.some.injEq] at he
    obtain ⟨rfl, rfl, rfl⟩ := he
    have hj : j < xs.length := by rw [← bv_length]; exact (List.getElem?_eq_some_iff.1 hu).1
    rw [bv_get xs j hj] at hu
    rw [← Option.some.inj hu, show (⟨g, off, none⟩ : Addr).add j = ⟨g, off + j, none⟩ from by unfold Addr.add; split <;> simp_all]
    exact hc j hj

theorem eqlNil (W : World) (a : Addr) (n c : Nat) : (binOp .eql 22 (.slice (some a) n c) (.slice none 0 0)).run Tryz.prog W = .ok (.bool false) W := by kernel_rfl
theorem eqlNil0 (W : World) (n c : Nat) : (binOp .eql 22 (.slice none n c) (.slice none 0 0)).run Tryz.prog W = .ok (.bool true) W := by kernel_rfl

end Go.Proofs.YtokeoebhmjefoaaGreat

/- append(s, x...): bytes x that are read, nil or not, onto a row of bytes of the call's own. -/
namespace Go.Proofs.YtokeoebhmjefoaaGreat
open Go.RowKit

theorem run_append_nil (w : World) (ty : TypeId) (base n c : Nat) (v : Value) (ys : List Value) (hown : w.ownsRow base 5 1 v n ys) :
    (Builtin.append_ #[22, 22] ty #[v, .slice none 0 c]).run Tryz.prog w = .ok v w := by
  obtain ⟨i, hi, hz0, hz1, hz2⟩ := info_parts Tryz.infoU8
  rcases hown.2 with ⟨rfl, _⟩ | ⟨g, cap, cur, rfl, _, hg, hn, _⟩
  · simp [Builtin.append_, run_underlying Tryz.underlying22, sizeOf, typeInfo, hi, Builtin.lenOf, Builtin.firstCells]
  · simp [Builtin.append_, run_underlying Tryz.underlying22, sizeOf, typeInfo, hi, Builtin.lenOf, Builtin.firstCells, hn, storeCells]

theorem wp_append_bytes {o : Oper} {a : Act} {w : World} {K : Act → World → Prop} {Q : Exit → Act → World → Prop} (s x : Operand)
    (ho : o.op = .call { callee := .builtin .append, args := #[s, x], argTypes := #[22, 22] })
    (base : Nat) (v : Value) (ys : List Nat) (hs : a.eval s = v) (hown : w.ownsRow base 5 1 v ys.length (bv ys))
    (u : Value) (xs : List Nat) (hx : a.eval x = u) (hr : RdB w u xs) (hb : base ≤ w.heap.size) (hl : ys.length + xs.length < 100000000000)
    (h : ∀ v' w', w'.ownsRow base 5 1 v' (ys ++ xs).length (bv (ys ++ xs)) → Chg (fun k => some k = v.ownBlock) w w' → K (a.put o.dst v') w') : o.wp Tryz.prog a w K Q := by
  obtain ⟨i, hi, hz0, hz1, hz2⟩ := info_parts Tryz.infoU8
  obtain ⟨ao, cap, hu⟩ := hr.form
  subst hu
  cases ao with
  | none =>
    have h0 : xs = [] := by
      rcases hr with ⟨h0, _⟩ | ⟨g, off, cap', he, _⟩
      · exact h0
      · simp at he
    subst h0
    have hrun := run_append_nil w o.type base ys.length cap v (bv ys) hown
    rw [List.length_nil] at hx
    unfold Oper.wp execOp
    simp only [ho, resolve, invoke, builtin, Sem.run_bind, Sem.run_pure, Result.andThen_ok, List.map_toArray, List.map_cons, List.map_nil, hs, hx, hrun]
    exact h v w (by rw [List.append_nil]; exact hown) (Chg.refl _ _)
  | some ad =>
    refine wp_append_own w s x 22 ho base 5 i (.int .u8 0) 1 1 Tryz.underlying22 hi hz0 hz1 hz2 rfl (by decide) v ys.length (bv ys) hs hown ad xs.length cap (bv xs) hx (by rw [bv_length, Nat.mul_one]) (RdB.news hr) (bv_one xs) (by unfold maxLen; omega) (by omega) hb fun v' w' h2 h3 _ => ?_
    exact h v' w' (by rw [List.length_append, show bv (ys ++ xs) = bv ys ++ bv xs from by simp [bv]]; exact h2) (Chg.of_grown h3)

theorem wpList_append_bytes {ops : Array Oper} {rest : List Oper} {o : Oper} {a : Act} {w : World} {Q : Exit → Act → World → Prop} (hgd : o.guard = none) (s x : Operand)
    (ho : o.op = .call { callee := .builtin .append, args := #[s, x], argTypes := #[22, 22] })
    (base : Nat) (v : Value) (ys : List Nat) (hs : a.eval s = v) (hown : w.ownsRow base 5 1 v ys.length (bv ys))
    (u : Value) (xs : List Nat) (hx : a.eval x = u) (hr : RdB w u xs) (hb : base ≤ w.heap.size) (hl : ys.length + xs.length < 100000000000)
    (h : ∀ v' w', w'.ownsRow base 5 1 v' (ys ++ xs).length (bv (ys ++ xs)) → Chg (fun k => some k = v.ownBlock) w w' → wpList Tryz.prog ops Q rest (a.put o.dst v') w') :
    wpList Tryz.prog ops Q (o :: rest) a w :=
  wpList_plain hgd fun _ hK => wp_append_bytes s x ho base v ys hs hown u xs hx hr hb hl fun v' w' h2 h3 => hK _ _ (h v' w' h2 h3)

/-- a row of no bytes that was just laid -/
theorem own_empty (w : World) : (w.alloc (.cells #[] 5)).ownsRow w.heap.size 5 1 (.slice (some ⟨w.heap.size, 0, none⟩) 0 0) ([] : List Nat).length (bv []) :=
  World.ownsRow_made w #[] 0 (Nat.le_refl _) (by unfold maxLen; omega) rfl

end Go.Proofs.YtokeoebhmjefoaaGreat

/- What spread's Log, ahead and firstKeys tell. THIS SPEAKS OF THE PROGRAM'S OWN TEXT. -/
namespace Go.Proofs.YtokeoebhmjefoaaGreat
open Go.RowKit

set_option maxHeartbeats 600000 in
theorem slog_any (v : Value) (q : List Int) (w : World) (h : RdI w v q) (hb : ∀ z ∈ q, -9223372036854775808 ≤ z ∧ z ≤ 9223372036854775807) (hl : q.length < 100000000000) :
    Calls Tryz.prog 47 #[v] w fun e w' => e = .returned (.int .i64 ((logI (totalI q) : Nat) : Int)) ∧ Chg (fun _ => False) w w' := by
  have HT := Lib.hid (nlog_any v q w h hb hl)
  obtain ⟨ao, cap, rfl⟩ := h.form
  clear h hb hl
  obtain ⟨t, ht⟩ : ∃ t, logI (totalI q) = t := ⟨_, rfl⟩
  rw [ht] at HT ⊢
  obtain ⟨D, hD⟩ : ∃ D, decide (0 < t) = D := ⟨_, rfl⟩
  rw [hD] at HT
  clear ht hD
  go_enter Tryz.func47, Tryz.ntmps47
  go_wp2_with fail
  refine HT.out.mono ?_
  rintro e w1 ⟨rfl, hc⟩
  have HC := Lib.hid hc
  clear hc
  go_wp2
  go_ret
  exact ⟨rfl, HC.out⟩

theorem kh_new (w : World) : Kh w.heap.size w.heap.size (w.alloc (.cells #[.slice none 0 0] 139)) [] :=
  ⟨⟨_, heap_alloc_new w _, World.ownsRow_nil _ _ _ _, Nat.zero_le _, Nat.le_refl _⟩, fun k h0 hk => absurd hk (by simp)⟩

/-- the cells of normalized counts, wherever they stand -/
theorem NormQ.cells {q : List Int} {k : Nat} (hq : NormQ q k) {w : World} {ao : Option Addr} {cap : Nat} (h : RdI w (.slice ao q.length cap) q) :
    ∃ g off, ao = some ⟨g, off, none⟩ ∧ ∀ W, Chg (fun _ => False) w W → ∀ s, s < 256 → W.cell? ⟨g, off + s, none⟩ = some (.int .i64 ((fq q s : Nat) : Int)) := by
  have hcells : ∀ W, Chg (fun _ => False) w W → ∀ s, s < 256 → ∃ g off, ao = some ⟨g, off, none⟩ ∧ W.cell? ⟨g, off + s, none⟩ = some (.int .i64 ((fq q s : Nat) : Int)) := fun W hc s hs => by
    obtain ⟨g, off, h1, h2⟩ := (h.kept hc (by simp)).at s (by rw [hq.1]; omega)
    rw [hq.at s] at h2
    exact ⟨g, off, h1, h2⟩
  obtain ⟨g, off, rfl, -⟩ := hcells w (Chg.refl _ _) 0 (by omega)
  refine ⟨g, off, rfl, fun W hc s hs => ?_⟩
  obtain ⟨g', off', h1, h2⟩ := hcells W hc s hs
  simp only [Option.some.injEq, Addr.mk.injEq] at h1
  obtain ⟨rfl, rfl, -⟩ := h1
  exact h2

set_option maxHeartbeats 600000 in
theorem sfirst_any (v : Value) (q : List Int) (k : Nat) (w : World) (h : RdI w v q) (hq : NormQ q k) :
    Calls Tryz.prog 70 #[v] w fun e w' => ∃ l, e = .returned (.pointer (some ⟨w.heap.size, 0, none⟩)) ∧ Kh w.heap.size w.heap.size w' l ∧ FirstK (fq q) 256 l ∧ Chg (fun _ => False) w w' := by
  obtain ⟨ao, cap, rfl⟩ := h.form
  obtain ⟨g, off, rfl, hcell⟩ := hq.cells h
  have HCELL := Lib.hid hcell
  have HLE := Lib.hid hq.le
  have hlen : (q.length : Int) = 256 := by have := hq.1; omega
  obtain ⟨n, hn⟩ : ∃ n, q.length = n := ⟨_, rfl⟩
  rw [hn] at hlen ⊢
  obtain ⟨f, hf⟩ : ∃ f, fq q = f := ⟨_, rfl⟩
  rw [hf] at HCELL HLE ⊢
  have HLN := Lib.hid hlen
  have hcq := Chg.alloc (fun _ => False) w (.cells #[.slice none 0 0] 139)
  have hq0 := kh_new w
  obtain ⟨G, hG⟩ : ∃ G, w.heap.size = G := ⟨_, rfl⟩
  rw [hG] at hq0
  have HCQ := Lib.hid hcq; have HQ0 := Lib.hid hq0; have HG := Lib.hid hG
  clear hcell hq hlen hn hf h hcq hq0
  rw [hG]
  go_enter Tryz.func70, Tryz.ntmps70
  go_wp2
  clear hG
  go_loopw [10] (fun o10 wr => ∃ (s : Nat) (l : List Kr), s ≤ 256 ∧ o10 = .int .i64 (s : Int) ∧ Kh G G wr l ∧ FirstK f s l ∧ Chg (fun _ => False) w wr) (fun o10 _ => 256 - (intOf o10).toNat)
  case atStart => exact ⟨0, [], Nat.zero_le _, rfl, HQ0.out, FirstK.zero _, HCQ.out⟩
  case round =>
    clear HQ0 HCQ
    obtain ⟨s, l, hs, rfl, hk, hfk, hc⟩ := hrel
    by_cases hlt : s < 256
    · have hcell := HCELL.out wr hc s hlt
      have hsn : (s : Int) < (n : Int) := by have := HLN.out; omega
      have h4 := HLE.out s
      obtain ⟨x, hx⟩ : ∃ x, f s = x := ⟨_, rfl⟩
      rw [hx] at hcell h4
      by_cases h0 : x = 0
      · subst h0
        have HF := Lib.hid (show Kh G G wr l ∧ FirstK f (s + 1) l ∧ Chg (fun _ => False) w wr from ⟨hk, hfk.skip hx, hc⟩)
        have hd : decide ((0 : Int) < 0) = false := rfl
        simp only [Int.natCast_zero] at hcell
        clear hk hfk hc hx h4
        go_wp2
        go_roundw
        case rel => exact ⟨s + 1, l, by omega, by go_num, HF.out⟩
        case measure => simp [intOf]; omega
      · have hll := hfk.2.1
        have hky : (keyK f s 0).right := keyK_right HLE.out hlt (by omega)
        have hadd := kqadd_any (⟨keyK f s 0, hky⟩ : Kr) hk (by omega)
        have hkv : kv (keyK f s 0) = .agg #[.int .i64 (x : Int), .int .i64 (x : Int), .int .i64 (s : Int)] := by unfold kv keyK; simp only [hx, Nat.add_zero]
        simp only [hkv] at hadd
        have hx0 : decide ((0 : Int) < (x : Int)) = true := decide_eq_true (by omega)
        have hx1 : 0 < x := by omega
        have HADD := Lib.hid hadd; have HF := Lib.hid (And.intro hfk (And.intro hc (show 0 < f s by omega)))
        clear hk hfk hc hx h4 hll hadd hkv h0
        go_wp2_with fail
        refine (HADD.out).mono ?_
        rintro e w2 ⟨rfl, l2, hq2, hp2, hc2⟩
        have HE := Lib.hid (show Kh G G w2 l2 ∧ FirstK f (s + 1) l2 ∧ Chg (fun _ => False) w w2 from ⟨hq2, HF.out.1.more HF.out.2.2 rfl hp2, HF.out.2.1.trans hc2 fun q hq he => by have := HG.out; omega⟩)
        clear hq2 hp2 hc2 HADD HF
        go_wp2
        go_roundw
        case rel => exact ⟨s + 1, l2, by omega, by go_num, HE.out⟩
        case measure => simp [intOf]; omega
    · have hs6 : s = 256 := by omega
      subst hs6
      have hsn : (n : Int) = 256 := HLN.out
      have HF := Lib.hid (show Kh G G wr l ∧ FirstK f 256 l ∧ Chg (fun _ => False) w wr from ⟨hk, hfk, hc⟩)
      clear hk hfk hc
      go_wp2
      go_ret
      exact ⟨l, rfl, HF.out⟩

end Go.Proofs.YtokeoebhmjefoaaGreat

/- What spread's Of tells. THIS SPEAKS OF THE PROGRAM'S OWN TEXT. -/
namespace Go.Proofs.YtokeoebhmjefoaaGreat
open Go.RowKit

/-- how many elements a slice has -/
def lenV : Value → Nat
  | .slice _ n _ => n
  | _ => 0

theorem nextK_more {f : Nat → Nat} {s d : Nat} (hf : ∀ s, f s ≤ 4096) (hs : s < 256) (h : d + 1 < f s) : Ky.right ⟨(keyK f s d).I + 1, (keyK f s d).Q, (keyK f s d).S⟩ ∧ nextK (keyK f s d) = keyK f s (d + 1) := by
  have hr := keyK_right hf hs h
  have he : (⟨(keyK f s d).I + 1, (keyK f s d).Q, (keyK f s d).S⟩ : Ky) = keyK f s (d + 1) := by
    unfold keyK; rw [Ky.mk.injEq]; exact ⟨by simp only []; omega, rfl, rfl⟩
  unfold nextK
  rw [he, if_pos hr]
  exact ⟨hr, rfl⟩
theorem nextK_last {f : Nat → Nat} {s d : Nat} (h : ¬ d + 1 < f s) : ¬ Ky.right ⟨(keyK f s d).I + 1, (keyK f s d).Q, (keyK f s d).S⟩ ∧ nextK (keyK f s d) = ⟨0, 0, 0⟩ := by
  have hr : ¬ Ky.right ⟨(keyK f s d).I + 1, (keyK f s d).Q, (keyK f s d).S⟩ := by unfold keyK Ky.right; simp only []; omega
  unfold nextK
  exact ⟨hr, if_neg hr⟩

set_option maxHeartbeats 600000 in
theorem sof_any (v : Value) (q : List Int) (w : World) (h : RdI w v q) (hb : ∀ z ∈ q, -9223372036854775808 ≤ z ∧ z ≤ 9223372036854775807) (hl : q.length < 100000000000) :
    Calls Tryz.prog 46 #[v] w fun e w' => SpreadSays w q e w' := by
  have hlg := nlog_any v q w h hb hl
  by_cases hk : logI (totalI q) = 0
  · obtain ⟨ao, cap, rfl⟩ := h.form
    rw [hk] at hlg
    rw [show decide (0 < 0) = false from rfl] at hlg
    have HLG := Lib.hid hlg
    have HK := Lib.hid hk
    clear hb hl hk h hlg
    go_enter Tryz.func46, Tryz.ntmps46
    go_wp2_with fail
    refine HLG.out.mono ?_
    rintro e w1 ⟨rfl, hc⟩
    have HC := Lib.hid hc
    clear hc HLG
    go_wp2
    go_ret2
    exact ⟨_, by rw [if_pos HK.out]; rfl, fun h => absurd HK.out h, fun _ => .inl ⟨rfl, none, 0, rfl⟩, HC.out⟩
  · have hq := normQ_of hk
    have hd : decide (0 < logI (totalI q)) = true := decide_eq_true (by omega)
    rw [hd] at hlg
    obtain ⟨ao, cap, rfl⟩ := h.form
    have HK := Lib.hid hk
    obtain ⟨k, hke⟩ : ∃ k, logI (totalI q) = k := ⟨_, rfl⟩
    rw [hke] at hq hlg
    have HLE := Lib.hid hq.le
    have hfirst := fun W (hc : Chg (fun _ => False) w W) => sfirst_any (.slice ao q.length cap) q k W (h.kept hc (by simp)) hq
    have hsum := hq.sum
    have hsz := hq.size
    have hk12 : (k : Int) ≤ 12 := by have := hq.2.2.2.2; omega
    obtain ⟨L, hL⟩ : ∃ L, 2 ^ k = L := ⟨_, rfl⟩
    have hLI : (2 : Int) ^ k = (L : Int) := by rw [← hL]; simp
    rw [hL] at hsum hsz
    have hLI4 : (L : Int) ≤ 4096 := by omega
    obtain ⟨n, hn⟩ : ∃ n, q.length = n := ⟨_, rfl⟩
    rw [hn] at hlg hfirst ⊢
    have HFI := Lib.hid hfirst; have HSUM := Lib.hid hsum
    have HLG := Lib.hid hlg
    have hfx : ∃ f, fq q = f := ⟨_, rfl⟩
    obtain ⟨f, hf⟩ := hfx
    rw [hf] at HFI HSUM HLE
    have HF := Lib.hid hf
    clear hq hb hl hk h hlg hd hke hfirst hsum hL hsz hn hf
    go_enter Tryz.func46, Tryz.ntmps46
    go_wp2_with fail
    refine HLG.out.mono ?_
    rintro e w1 ⟨rfl, hc⟩
    have HC := Lib.hid hc
    clear hc HLG
    obtain ⟨i, hi, hz0, hz1, hz2⟩ := info_parts Tryz.infoU8
    go_wp2_with (at_make; refine wpList_make_own w1 rfl _ _ 22 rfl w.heap.size 5 i (.int .u8 0) 1 Tryz.underlying22 hi hz0 hz1 .i64 .i64 (L : Int) L rfl rfl rfl (by rw [hz2]; omega) (by unfold maxLen; omega) HC.out.size ?_)
    intro w2 ho hg2
    have hc2 : Chg (fun _ => False) w1 w2 := (Chg.of_grown hg2).mono fun k _ hk => by simp at hk
    have HC2 := Lib.hid (HC.out.trans hc2 fun _ _ h => h)
    have hfi := HFI.out w2 HC2.out
    obtain ⟨G, hG⟩ : ∃ G, w1.heap.size = G := ⟨_, rfl⟩
    have hGw := HC.out.size
    rw [hG] at ho hGw ⊢
    obtain ⟨Q2, hQ2⟩ : ∃ Q2, w2.heap.size = Q2 := ⟨_, rfl⟩
    have hlt0 := (ho.lt G rfl).2
    rw [hQ2] at hfi hlt0
    have HG := Lib.hid (show w.heap.size ≤ G ∧ G < Q2 ∧ w2.heap.size = Q2 from ⟨hGw, hlt0, hQ2⟩)
    have HFI2 := Lib.hid hfi
    have HO := Lib.hid ho
    clear hG hc2 hg2 hfi ho HFI HC hGw hlt0 hQ2
    go_wp2_with fail
    refine HFI2.out.mono ?_
    rintro e w3 ⟨l, rfl, hkh, hfk, hc3⟩
    have HC3 := Lib.hid (HC2.out.trans hc3 fun _ _ h => h)
    have HO3 := Lib.hid (hc3.own HO.out (by simp))
    have hw := hfk.wait
    have HKH := Lib.hid hkh; have HW := Lib.hid (And.intro hw hfk.2.1)
    clear HFI2 HC2 HO hc3 hfk hkh hw
    go_wp2
    go_loopw [6] (fun o6 wr => ∃ (p : Nat) (l : List Kr) (out : List Nat), o6 = .slice (some ⟨G, 0, none⟩) p L ∧ p ≤ L ∧ OutF f p out ∧ wr.ownsRow w.heap.size 5 1 (.slice (some ⟨G, 0, none⟩) p L) p (bv out) ∧ Kh Q2 Q2 wr l ∧ WaitF f p l ∧ l.length ≤ 256 ∧ (∀ x ∈ out, x < 256) ∧ Chg (fun _ => False) w wr) (fun o6 _ => L - lenV o6)
    case atStart => exact ⟨0, l, [], rfl, Nat.zero_le _, OutF.zero _, HO3.out, HKH.out, HW.out.1, HW.out.2, by simp, HC3.out⟩
    case round =>
      clear HO3 HKH HW HC3
      obtain ⟨p, l, out, rfl, hp, hout, ho, hkh, hw, hl6, ho6, hc⟩ := hrel
      have hlen := kh_len hkh
      by_cases hlt : p < L
      · have hpos : 0 < l.length := by
          obtain ⟨s, d, hs, hd, he, kk, hkk, _⟩ := hw.some HLE.out (by rw [HSUM.out]; exact hlt)
          exact List.length_pos_of_mem hkk
        obtain ⟨m, hm⟩ : ∃ m, l.length = m := ⟨_, rfl⟩
        have hleast := kqleast_any hkh hpos
        rw [hm] at hlen hpos
        have hmI : decide ((0 : Int) < (m : Int)) = true := decide_eq_true (by omega)
        have HLEN := Lib.hid hlen; have HLST := Lib.hid hleast; have HM := Lib.hid hm
        have HOUT := Lib.hid (And.intro hout (And.intro ho (And.intro hw (And.intro hl6 (And.intro ho6 (And.intro hc hlt))))))
        clear hlen hleast hm hout ho hw hl6 ho6 hc hkh hp
        go_wp2_with fail
        refine HLEN.out.mono ?_
        rintro e w4 ⟨rfl, hw4⟩
        obtain rfl := hw4.symm
        clear HLEN
        go_wp2_with fail
        refine HLST.out.mono ?_
        rintro e w5 ⟨x, l2, rfl, hkh2, hpp, hle2, hc5⟩
        obtain ⟨hout, ho, hw, hl6, ho6, hc, hlt⟩ := HOUT.out
        obtain ⟨s, d, hs, hd, hx, he⟩ := hw.next HLE.out (by rw [HSUM.out]; exact hlt) hpp hle2
        have hF4 := HLE.out s
        have hr := keyK_right HLE.out hs hd
        have hwlast := fun h1 => hw.last hpp hs hd hx he h1
        have hwmore := fun (y : Kr) (mm : List Kr) h1 hy hm2 => hw.more (m := mm) (y := y) hpp hs hd hx he h1 hy hm2
        have hl2 : l2.length + 1 = m := by have := hpp.length_eq; rw [HM.out, List.length_cons] at this; omega
        have hm6 : m ≤ 256 := by rw [← HM.out]; exact hl6
        have hout2 := hout.step hs hd he
        have ho5 := hc5.own ho (fun k hk => by simp only [Value.ownBlock, Option.some.injEq] at hk; have := HG.out; omega)
        have hcw5 : Chg (fun _ => False) w w5 := hc.trans hc5 fun q hq he => by have := HG.out; omega
        rw [hx]
        have hkv : kv (keyK f s d) = .agg #[.int .i64 ((f s + d : Nat) : Int), .int .i64 ((f s : Nat) : Int), .int .i64 (s : Int)] := rfl
        rw [hkv]
        have hnx := fun W => knext_any (keyK f s d) W hr
        rw [hkv] at hnx
        obtain ⟨J, hJ⟩ : ∃ J, f s + d = J := ⟨_, rfl⟩
        obtain ⟨F, hF⟩ : ∃ F, f s = F := ⟨_, rfl⟩
        rw [hJ, hF] at hnx ⊢
        have hkb6 : Kb (w5.alloc (.cells #[.int .i64 (J : Int), .int .i64 (F : Int), .int .i64 (s : Int)] 125)) w5.heap.size 125 ⟨(J : Int), (F : Int), (s : Int)⟩ := heap_alloc_new w5 _
        have hc6 := Chg.alloc (fun _ => False) w5 (.cells #[.int .i64 (J : Int), .int .i64 (F : Int), .int .i64 (s : Int)] 125)
        have ho6' := ho5.alloc (.cells #[.int .i64 (J : Int), .int .i64 (F : Int), .int .i64 (s : Int)] 125)
        obtain ⟨w6, hw6⟩ : ∃ w6, w5.alloc (.cells #[.int .i64 (J : Int), .int .i64 (F : Int), .int .i64 (s : Int)] 125) = w6 := ⟨_, rfl⟩
        rw [hw6] at hkb6 hc6 ho6'
        have hc7 := Chg.alloc (fun _ => False) w6 (.cells #[.int .u8 (s : Int)] 5)
        have ho7 := ho6'.alloc (.cells #[.int .u8 (s : Int)] 5)
        have hkb7 := hkb6.kept hc7 (by simp)
        have hblk := heap_alloc_new w6 (.cells #[.int .u8 (s : Int)] 5)
        have hnews := World.news_of_block hblk
        obtain ⟨w7, hw7⟩ : ∃ w7, w6.alloc (.cells #[.int .u8 (s : Int)] 5) = w7 := ⟨_, rfl⟩
        rw [hw7] at hc7 ho7 hkb7 hblk hnews
        obtain ⟨a0, a1, a2⟩ := hkb6.cells
        simp only [] at a0 a1 a2
        have h256 : (s : Int) % 256 = (s : Int) := by omega
        have hcw7 : Chg (fun _ => False) w5 w7 := hc6.trans hc7 fun _ _ h => h
        have hkh7 := hkh2.kept hcw7 (by simp)
        have hcw : Chg (fun _ => False) w w7 := hcw5.trans hcw7 fun _ _ h => h
        have hKG : w5.heap.size ≠ G := by have h1 := hkh2.le; have := HG.out; omega
        obtain ⟨K, hK⟩ : ∃ K, w5.heap.size = K := ⟨_, rfl⟩
        rw [hK] at hkb7 hKG a0 a1 a2
        have ho62 : ∀ x ∈ out ++ [s], x < 256 := fun x hx => by
          rcases List.mem_append.1 hx with h | h
          · exact ho6 x h
          · simp only [List.mem_singleton] at h; omega
        have HO7 := Lib.hid ho7; have HNEWS := Lib.hid hnews; have HKB7 := Lib.hid hkb7; have HNX := Lib.hid hnx
        have HREST := Lib.hid (And.intro hwlast (And.intro hwmore (And.intro hout2 (And.intro hkh7 (And.intro hcw (And.intro hl2 (And.intro hm6 (And.intro ho62 (And.intro hlt (And.intro hs (And.intro hd (And.intro hF hKG))))))))))))
        clear ho7 hnews hkb7 hnx hwlast hwmore hout2 hkh7 hcw hl2 hm6 ho62 hlt hs hd hF hKG hkv hblk hc7 hkb6 hc6 ho6' hc5 hpp hle2 hkh2 hx he hout ho hw hl6 ho6 hc HOUT HLST ho5 hcw5 hr hcw7 HM hJ
        go_wp2_with (at_builtin; refine wpList_append_fits _ rfl (.tmp 28) (.tmp 32) 22 rfl w.heap.size 5 i 1 Tryz.underlying22 hi hz1 G p L (bv out) rfl HO7.out ⟨w6.heap.size, 0, none⟩ 1 1 [.int .u8 (s : Int)] rfl rfl HNEWS.out (by simp [Value.oneCell']) (by have := HREST.out.2.2.2.2.2.2.2.2.1; omega) ?_)
        intro w8 ho8 hg8
        have hc8 : Chg (fun k => k = G) w7 w8 := (Chg.of_grown hg8).mono fun k _ hk => by simpa using hk
        obtain ⟨hwlast, hwmore, hout2, hkh7, hcw, hl2, hm6, ho62, hlt, hs, hd, hF, hKG⟩ := HREST.out
        have hkb8 := HKB7.out.kept hc8 hKG
        have hkh8 := hkh7.kept hc8 fun k hk _ he => by have := HG.out; omega
        have hcw8 : Chg (fun _ => False) w w8 := hcw.trans hc8 fun q hq he => by have := HG.out; omega
        have ho8' : w8.ownsRow w.heap.size 5 1 (.slice (some ⟨G, 0, none⟩) (p + 1) L) (p + 1) (bv (out ++ [s])) := by
          have : bv (out ++ [s]) = bv out ++ [.int .u8 (s : Int)] := by simp [bv]
          rw [this]; exact ho8
        have hld := hkb8.loadF
        unfold kv at hld
        simp only [] at hld
        obtain ⟨e0, e1, e2⟩ := hkb8.cells
        simp only [] at e0 e1 e2
        have HO8 := Lib.hid ho8'; have HKH8 := Lib.hid hkh8; have HCW8 := Lib.hid hcw8
        have HR2 := Lib.hid (And.intro hwlast (And.intro hwmore (And.intro hout2 (And.intro hl2 (And.intro hm6 (And.intro ho62 (And.intro hlt (And.intro hs (And.intro hd hF)))))))))
        clear ho8 hg8 hc8 hwlast hwmore hout2 hkh7 hcw hl2 hm6 ho62 hlt hs hd hF hKG hkb8 hkh8 hcw8 ho8' HREST HKB7 HO7 HNEWS hw6 hw7 a0 a1 a2 hK
        go_wp2_with fail
        refine (HNX.out _).mono ?_
        rintro e w9 ⟨rfl, hc9⟩
        obtain ⟨hwlast, hwmore, hout2, hl2, hm6, ho62, hlt, hs, hd, hF⟩ := HR2.out
        have ho9 := hc9.own HO8.out (by simp)
        have hkh9 := HKH8.out.kept hc9 (by simp)
        have hcw9 : Chg (fun _ => False) w w9 := HCW8.out.trans hc9 fun _ _ h => h
        by_cases hd1 : d + 1 < f s
        · obtain ⟨hrr, hnk⟩ := nextK_more HLE.out hs hd1
          rw [decide_eq_true hrr, hnk]
          have hkv : kv (keyK f s (d + 1)) = .agg #[.int .i64 ((f s + (d + 1) : Nat) : Int), .int .i64 ((f s : Nat) : Int), .int .i64 (s : Int)] := rfl
          rw [hkv, hF]
          obtain ⟨J2, hJ2⟩ : ∃ J2, F + (d + 1) = J2 := ⟨_, rfl⟩
          rw [hJ2]
          have hc10 := Chg.alloc (fun _ => False) w9 (.cells #[.int .i64 (J2 : Int), .int .i64 (F : Int), .int .i64 (s : Int)] 125)
          have hkh10 := hkh9.kept hc10 (by simp)
          have ho10 := hc10.own ho9 (by simp)
          obtain ⟨y, hy⟩ : ∃ y : Kr, y.1 = keyK f s (d + 1) := ⟨⟨keyK f s (d + 1), keyK_right HLE.out hs hd1⟩, rfl⟩
          have hadd := kqadd_any y hkh10 (by omega)
          rw [hy] at hadd
          simp only [hkv, hF, hJ2] at hadd
          have hwm := fun mm hm2 => hwmore y mm hd1 hy hm2
          have HADD := Lib.hid hadd
          have HE := Lib.hid (And.intro hwm (And.intro ho10 (And.intro hout2 (And.intro (hcw9.trans hc10 fun _ _ h => h) (And.intro hl2 (And.intro hm6 (And.intro ho62 hlt)))))))
          clear hrr hnk hkv hJ2 hc10 hkh10 ho10 hadd hwm hwlast hwmore hout2 hl2 hm6 ho62 hlt hs hd hF ho9 hkh9 hcw9 hc9 HR2 HCW8 HKH8 HO8 HNX hld e0 e1 e2 hd1 hy
          go_wp2_with fail
          refine HADD.out.mono ?_
          rintro e w11 ⟨rfl, l3, hkh11, hp11, hc11⟩
          obtain ⟨hwm, ho10, hout2, hcw10, hl2, hm6, ho62, hlt⟩ := HE.out
          have HFIN := Lib.hid (show p + 1 ≤ L ∧ OutF f (p + 1) (out ++ [s]) ∧ w11.ownsRow w.heap.size 5 1 (.slice (some ⟨G, 0, none⟩) (p + 1) L) (p + 1) (bv (out ++ [s])) ∧ Kh Q2 Q2 w11 l3 ∧ WaitF f (p + 1) l3 ∧ l3.length ≤ 256 ∧ (∀ x ∈ out ++ [s], x < 256) ∧ Chg (fun _ => False) w w11 from
            ⟨by omega, hout2, hc11.own ho10 (fun k hk => by simp only [Value.ownBlock, Option.some.injEq] at hk; have := HG.out; omega), hkh11, hwm _ hp11, by have := hp11.length_eq; rw [List.length_cons] at this; omega, ho62, hcw10.trans hc11 fun q hq he => by have := HG.out; omega⟩)
          have HLT := Lib.hid hlt
          clear hwm ho10 hout2 hcw10 hl2 hm6 ho62 hlt hkh11 hp11 hc11 HADD HE
          go_wp2
          go_roundw
          case rel => exact ⟨p + 1, l3, out ++ [s], rfl, HFIN.out⟩
          case measure => have := HLT.out; simp [lenV]; omega
        · obtain ⟨hrr, hnk⟩ := nextK_last hd1
          rw [decide_eq_false hrr, hnk]
          have hkv : kv ⟨0, 0, 0⟩ = .agg #[.int .i64 0, .int .i64 0, .int .i64 0] := rfl
          rw [hkv]
          have hc10 := Chg.alloc (fun _ => False) w9 (.cells #[.int .i64 0, .int .i64 0, .int .i64 0] 125)
          have hkh10 := hkh9.kept hc10 (by simp)
          have ho10 := hc10.own ho9 (by simp)
          have HFIN := Lib.hid (show p + 1 ≤ L ∧ OutF f (p + 1) (out ++ [s]) ∧ (w9.alloc (.cells #[.int .i64 0, .int .i64 0, .int .i64 0] 125)).ownsRow w.heap.size 5 1 (.slice (some ⟨G, 0, none⟩) (p + 1) L) (p + 1) (bv (out ++ [s])) ∧ Kh Q2 Q2 (w9.alloc (.cells #[.int .i64 0, .int .i64 0, .int .i64 0] 125)) l2 ∧ WaitF f (p + 1) l2 ∧ l2.length ≤ 256 ∧ (∀ x ∈ out ++ [s], x < 256) ∧ Chg (fun _ => False) w (w9.alloc (.cells #[.int .i64 0, .int .i64 0, .int .i64 0] 125)) from
            ⟨by omega, hout2, ho10, hkh10, hwlast hd1, by omega, ho62, hcw9.trans hc10 fun _ _ h => h⟩)
          have HLT := Lib.hid hlt
          clear hrr hnk hkv hc10 hkh10 ho10 hwlast hwmore hout2 hl2 hm6 ho62 hlt hs hd hF ho9 hkh9 hcw9 hc9 HR2 HCW8 HKH8 HO8 HNX hld e0 e1 e2 hd1
          go_wp2
          go_roundw
          case rel => exact ⟨p + 1, l2, out ++ [s], rfl, HFIN.out⟩
          case measure => have := HLT.out; simp [lenV]; omega
      · obtain rfl : p = L := by omega
        have hnil := hw.none (by rw [HSUM.out]; exact Nat.le_refl _)
        rw [hnil] at hlen
        have hout2 : OutF f (sumTo f 256) out := by rw [HSUM.out]; exact hout
        have hsp := hout2.all
        have hown : OwnB wr w.heap.size (.slice (some ⟨G, 0, none⟩) out.length p) out := by
          refine ⟨G, 0, p, rfl, HG.out.1, (ho.lt G rfl).2, fun j hj => ?_, fun j => by rw [Nat.zero_add]; exact ho.frozenAt j⟩
          rw [Nat.zero_add, ho.cellAt j (by have := hout.1; omega)]
          simp [bv, List.getD_eq_getElem?_getD, List.getElem?_eq_getElem hj]
        have HLEN := Lib.hid hlen; have HE := Lib.hid (And.intro hout.1 (And.intro hsp (And.intro hown hc)))
        clear hlen hnil hout2 hsp hown hout ho hkh hw hl6 ho6 hc hlt hp
        go_wp2_with fail
        refine HLEN.out.mono ?_
        rintro e w4 ⟨rfl, hw4⟩
        obtain rfl := hw4.symm
        clear HLEN
        go_wp2
        go_ret2
        obtain ⟨h1, h2, h3, h4⟩ := HE.out
        refine ⟨_, by rw [if_neg HK.out]; rfl, fun _ => ⟨out, ?_, by rw [HF.out]; exact h2⟩, fun h => absurd h HK.out, h4⟩
        rw [h1] at h3
        exact h3

end Go.Proofs.YtokeoebhmjefoaaGreat

/- What spread's Of, Place and Log tell. THIS ALONE SPEAKS OF THE PROGRAM'S OWN TEXT (with SpProgA, and KqBase, KqHeap, KqSwap, KqOps: its queue). -/
namespace Go.Proofs.YtokeoebhmjefoaaGreat
open Go.RowKit

/-- is there such a key? -/
def isKey (q : List Int) (s i : Int) : Prop := logI (totalI q) ≠ 0 ∧ 0 ≤ s ∧ s ≤ 255 ∧ q.getD s.toNat 0 ≤ i ∧ i < 2 * q.getD s.toNat 0
instance isKey_dec (q : List Int) (s i : Int) : Decidable (isKey q s i) := by unfold isKey; infer_instance
def placeI (q : List Int) (s i : Int) : Nat := if isKey q s i then placeF (fq q) 256 s.toNat i.toNat else 0

end Go.Proofs.YtokeoebhmjefoaaGreat

/- What etab's New tells, and what a Table is in memory. THIS SPEAKS OF THE PROGRAM'S OWN TEXT. -/
namespace Go.Proofs.YtokeoebhmjefoaaGreat
open Go.RowKit Go.Maps Go.ChangeShapes

/-- a Table in memory -/
def EtOk (w : World) (a : Addr) (q : List Int) : Prop :=
  ∃ ga base b n l, a = ⟨ga, 0, none⟩ ∧ n ≤ 100000 ∧ w.heap[ga]? = some (.cells #[.int .i64 ((logI (totalI q) : Nat) : Int), .map (some b)] 107 (0, 0)) ∧ IsSpread (fq q) 256 l ∧ Gm w base b n (fun s => posL l s l.length)
theorem EtOk.kept {w w' : World} {a : Addr} {q : List Int} (h : EtOk w a q) (hc : Chg (fun _ => False) w w') : EtOk w' a q := by
  obtain ⟨ga, base, b, n, l, rfl, hn, hb, hl, hg⟩ := h
  exact ⟨ga, base, b, n, l, rfl, hn, (hc.block ga (lt_of_block hb) (fun h => h)).trans hb, hl, hg.kept hc⟩

/-- a Table in memory, whatever turns but blocks from lo to hi -/
def EtIn (lo hi : Nat) (w : World) (a : Addr) (q : List Int) : Prop := ∀ (S : Nat → Prop) (w' : World), Chg S w w' → (∀ k, lo ≤ k → k < hi → ¬ S k) → EtOk w' a q
theorem EtIn.ok {lo hi : Nat} {w : World} {a : Addr} {q : List Int} (h : EtIn lo hi w a q) : EtOk w a q := h (fun _ => False) w (Chg.refl _ _) fun _ _ _ h => h
theorem EtIn.kept {T : Nat → Prop} {lo hi : Nat} {w w2 : World} {a : Addr} {q : List Int} (h : EtIn lo hi w a q) (hc : Chg T w w2) (hT : ∀ k, lo ≤ k → k < hi → ¬ T k) : EtIn lo hi w2 a q := fun S w' hS hno =>
  h (fun k => T k ∨ S k) w' ((hc.mono fun _ _ h => .inl h : Chg (fun k => T k ∨ S k) w w2).trans (hS.mono fun _ _ h => .inr h : Chg (fun k => T k ∨ S k) w2 w') fun _ _ h => h) fun k h1 h2 h3 => h3.elim (hT k h1 h2) (hno k h1 h2)

set_option maxHeartbeats 2000000 in
set_option maxRecDepth 100000 in
theorem enew_in (v : Value) (q : List Int) (w : World) (h : RdI w v q) (hb : ∀ z ∈ q, -9223372036854775808 ≤ z ∧ z ≤ 9223372036854775807) (hl : q.length < 100000000000) :
    Calls Tryz.prog 35 #[v] w fun e w' => (logI (totalI q) = 0 → e = .returned (.tuple #[.pointer none, .int .i64 1])) ∧ (logI (totalI q) ≠ 0 → ∃ a, e = .returned (.tuple #[.pointer (some a), .int .i64 0]) ∧ EtIn w.heap.size w'.heap.size w' a q) ∧ Chg (fun _ => False) w w' := by
  have hsp := sof_any v q w h hb hl
  unfold SpreadSays at hsp
  by_cases hk : logI (totalI q) = 0
  · obtain ⟨ao, cap, rfl⟩ := h.form
    have HSP := Lib.hid hsp; have HK := Lib.hid hk
    clear hb hl hk h hsp
    go_enter Tryz.func35, Tryz.ntmps35
    go_wp2_with fail
    refine HSP.out.mono ?_
    rintro e w1 ⟨v1, rfl, -, h2, hc⟩
    rw [if_pos HK.out]
    have HC := Lib.hid hc
    clear hc h2 HSP
    go_wp2
    go_ret2
    exact ⟨fun _ => rfl, fun h => absurd HK.out h, HC.out⟩
  · have hq := normQ_of hk
    have hlog := fun W (hc : Chg (fun _ => False) w W) => slog_any v q W (h.kept hc (by simp)) hb hl
    obtain ⟨ao, cap, rfl⟩ := h.form
    have HSP := Lib.hid hsp; have HK := Lib.hid hk; have HLOG := Lib.hid hlog
    obtain ⟨k, hke⟩ : ∃ k, logI (totalI q) = k := ⟨_, rfl⟩
    rw [hke] at hq HLOG HSP
    have hsum := hq.sum
    have HQ := Lib.hid (show sumTo (fq q) 256 = 2 ^ k ∧ 2 ^ k ≤ 4096 from ⟨hsum, hq.size⟩)
    obtain ⟨n, hn⟩ : ∃ n, q.length = n := ⟨_, rfl⟩
    rw [hn] at HSP HLOG ⊢
    obtain ⟨f, hf⟩ : ∃ f, fq q = f := ⟨_, rfl⟩
    rw [hf] at HSP HQ
    have HF := Lib.hid hf; have HKE := Lib.hid hke
    obtain ⟨L, hL⟩ : ∃ L, 2 ^ k = L := ⟨_, rfl⟩
    have HL := Lib.hid hL
    have hL4 : (L : Int) ≤ 4096 := by have := HQ.out.2; omega
    have hkk : ¬ k = 0 := by rw [← hke]; exact hk
    clear hb hl hk h hsp hlog hq hsum hn hf hke hL
    have hmm := @run_makeMap Tryz.prog
    obtain ⟨i0, hi, hz0, hz1, hz2⟩ := info_parts Tryz.infoInt
    go_enter Tryz.func35, Tryz.ntmps35
    go_wp2_with fail
    refine HSP.out.mono ?_
    rintro e w1 ⟨v1, rfl, h1, -, hc1⟩
    obtain ⟨sl, hos, hspr⟩ := h1 hkk
    rw [if_neg hkk]
    obtain ⟨asl, psl, rfl⟩ := hos.rd.form
    have hsl : sl.length = L := by rw [hspr.len, HQ.out.1, HL.out]
    have hsx : ∀ x ∈ sl, x < 256 := fun x hx => by
      obtain ⟨p, hp, rfl⟩ := List.getElem_of_mem hx
      have := hspr.is (p := p) (s := sl.getD p 0) hp rfl
      rw [List.getD_eq_getElem?_getD, List.getElem?_eq_getElem hp] at this
      exact this.1
    have hm1 := Gm.made w1
    have hc2 := Chg.alloc (fun _ => False) w1 (.map #[] 0)
    have HOS := Lib.hid hos.rd; have HSPR := Lib.hid hspr; have HC1 := Lib.hid hc1; have HSL := Lib.hid hsl; have HSX := Lib.hid hsx
    rw [hsl] at HOS ⊢
    obtain ⟨B, hB⟩ : ∃ B, w1.heap.size = B := ⟨_, rfl⟩
    rw [hB] at hm1
    have HB := Lib.hid hB; have HM1 := Lib.hid hm1; have HC2 := Lib.hid hc2
    clear HSP hos hspr hc1 hsl hkk h1 hm1 hc2 hsx
    go_wp2
    go_loopw [20] (fun i wr => ∃ p : Nat, p ≤ L ∧ i = .int .i64 p ∧ Gm wr (B + 1) B p (fun s => posL sl s p) ∧ Chg (fun _ => False) w1 wr) (fun i _ => L - (intOf i).toNat)
    case atStart => exact ⟨0, Nat.zero_le _, rfl, HM1.out.congr fun s _ => rfl, HC2.out⟩
    case round =>
      obtain ⟨p, hp, rfl, ⟨D, hown, him, hat⟩, hc⟩ := hrel
      by_cases hlt : p < L
      · obtain ⟨gs, offs, rfl, hscell⟩ := (HOS.out.kept hc (by simp)).at p (by rw [HSL.out]; exact hlt)
        have hs := getD_lt sl HSX.out p
        obtain ⟨s, hse⟩ : ∃ s, sl.getD p 0 = s := ⟨_, rfl⟩
        rw [hse] at hscell hs
        have hkey := key_u8 hs
        have hpI : (p : Int) < (L : Int) := by omega
        have HSE := Lib.hid hse; have HAT := Lib.hid hat; have HIM := Lib.hid him; have HC := Lib.hid hc; have HS := Lib.hid hs
        have hBs : B + 1 ≤ wr.heap.size := by have h1 := hown; obtain ⟨es, ck, hb1, _⟩ := h1; have := (Array.getElem?_eq_some_iff.1 hb1).1; omega
        clear hse hat him hc
        go_wp2_with (first
          | (at_lookup; refine wpList_lookup_groups _ rfl _ _ 105 rfl 5 34 3 .i64 keyU8 Tryz.underlying105 (zeroInts _) (B + 1) B p _ rfl hown (by unfold maxLen; omega) _ _ rfl hkey ?_; intro v zs hat0 hoi hzl hback)
          | (at_builtin; refine wpList_append_own_at _ rfl _ _ 34 rfl (B + 1) 3 i0 (.int .i64 0) 1 8 Tryz.underlying34 hi hz0 hz1 hz2 rfl (by decide) _ _ _ rfl (hoi.1.alloc _) ⟨wr.heap.size, 0, none⟩ 1 1 [.int .i64 p] rfl rfl (cell_one_new _ _ _) (ints_oneCell .i64 [(p : Int)]) (by unfold maxLen; omega) (by omega) (by simp; omega) ?_; intro v' w5 hown' hgrow hnil hloc)
          | (at_mapUpdate; refine wpList_mapUpdate_back _ rfl _ _ _ 105 rfl hback rfl rfl rfl ((World.grownBy_alloc _ _ _).trans hgrow) (hoi.appended hown' (WalkArith.wf_i64 (by omega))) (by simp; omega) (hloc.imp id (fun h => ⟨_, h, by simp⟩)) ?_; intro w6 hown2 hgrow2)
          | go_in)
        have hall := (World.grownBy_alloc wr _ _).trans hgrow
        go_roundw
        case rel =>
          have hz := datL_own hoi (hat0.symm.trans (HAT.out s HS.out))
          have hown3 := hoi.appended hown' (WalkArith.wf_i64 (by omega))
          have hg6 := (Gm.put HS.out HIM.out HAT.out (by simp) hown3 hown2).congr (g' := fun t => posL sl t (p + 1)) fun t ht => (by
            by_cases e : t = s
            · rw [if_pos e, hz, e, posL_hit HSE.out]
            · rw [if_neg e, posL_miss (by rw [HSE.out]; exact fun h => e h.symm)])
          have hc5 := HC.out.trans (Chg.of_grown hall) fun k hk he => by have := (hoi.1.lt k he.symm).1; have := HB.out; omega
          have hc6 := hc5.trans (Chg.of_grown hgrow2) fun k hk he => by simp only [Option.some.injEq] at he; have := HB.out; omega
          exact ⟨p + 1, by omega, by go_num, hg6, hc6⟩
        case measure => simp [intOf]; omega
      · obtain rfl : p = L := by omega
        have HC := Lib.hid hc
        have HG := Lib.hid (show Gm wr (B + 1) B p (fun s => posL sl s p) from ⟨D, hown, him, hat⟩)
        have HP4 := Lib.hid hL4
        clear hc hown him hat hlt hmm
        go_wp2_with fail
        refine (HLOG.out wr (HC1.out.trans HC.out fun _ _ h => h)).mono ?_
        rintro e w7 ⟨rfl, hc7⟩
        have HC7 := Lib.hid hc7
        clear hc7
        go_wp2
        have hc8 := Chg.alloc (fun _ => False) w7 (.cells #[.int .i64 (k : Int), .map (some B)] 107)
        go_ret2
        refine ⟨fun h => absurd h HK.out, fun _ => ⟨⟨w7.heap.size, 0, none⟩, rfl, fun S w' hS hno => ⟨w7.heap.size, B + 1, B, p, sl, rfl, by have := HP4.out; omega, ?_, by rw [HF.out]; exact HSPR.out, ?_⟩⟩, ?_⟩
        · rw [HKE.out]
          have hn := heap_alloc_new w7 (.cells #[.int .i64 (k : Int), .map (some B)] 107)
          exact (hS.block _ (lt_of_block hn) (hno _ (by have := HC1.out.size; have := HC.out.size; have := HC7.out.size; omega) (lt_of_block hn))).trans hn
        · rw [HSL.out]
          have hg := (HG.out.kept HC7.out).kept hc8
          exact hg.keptS hS (hno _ (by have := HC1.out.size; have := HB.out; omega) hg.lt) fun k h1 h2 => hno k (by have := HC1.out.size; have := HB.out; omega) h2
        · exact ((HC1.out.trans HC.out fun _ _ h => h).trans HC7.out fun _ _ h => h).trans hc8 fun _ _ h => h

theorem enew_any (v : Value) (q : List Int) (w : World) (h : RdI w v q) (hb : ∀ z ∈ q, -9223372036854775808 ≤ z ∧ z ≤ 9223372036854775807) (hl : q.length < 100000000000) :
    Calls Tryz.prog 35 #[v] w fun e w' => (logI (totalI q) = 0 → e = .returned (.tuple #[.pointer none, .int .i64 1])) ∧ (logI (totalI q) ≠ 0 → ∃ a, e = .returned (.tuple #[.pointer (some a), .int .i64 0]) ∧ EtOk w' a q) ∧ Chg (fun _ => False) w w' :=
  (enew_in v q w h hb hl).mono fun _ _ ⟨h1, h2, h3⟩ => ⟨h1, fun hk => let ⟨a, e1, e2⟩ := h2 hk; ⟨a, e1, e2.ok⟩, h3⟩

end Go.Proofs.YtokeoebhmjefoaaGreat

/- What the document's own logs (puncheonref07) tell. -/
namespace Go.Proofs.YtokeoebhmjefoaaGreat
open Go.RowKit

set_option maxHeartbeats 1000000 in
theorem r7floor_any (n : Int) (w : World) (hn : n ≤ 1099511627776) (_hlo : -9223372036854775808 ≤ n) :
    Calls Tryz.prog 52 #[.int .i64 n] w fun e w' => e = .returned (.int .i64 ((floorI n : Nat) : Int)) ∧ w' = w := by
  have HN := Lib.hid (show n ≤ 1099511627776 from hn)
  clear hn
  go_enter Tryz.func52, Tryz.ntmps52
  go_wp2
  go_loopw [3, 4] (fun o3 o4 wr => ∃ k P : Nat, o3 = .int .i64 (k : Int) ∧ o4 = .int .i64 (P : Int) ∧ P = 2 ^ (k + 1) ∧ (k = 0 ∨ ((2 ^ k : Nat) : Int) ≤ n) ∧ wr = w) (fun o3 _ _ => 41 - (intOf o3).toNat)
  case atStart => exact ⟨0, 2, rfl, rfl, rfl, .inl rfl, rfl⟩
  case round =>
    obtain ⟨k, P, rfl, rfl, hP, hk, rfl⟩ := hrel
    have hn := HN.out
    have hk40 : k ≤ 40 := by
      rcases hk with hk | hk
      · omega
      · have := floor_mono hk
        rw [floor_at] at this
        have := floor_le40 hn
        omega
    have hP2 : P ≤ 2 ^ 41 := by rw [hP]; exact pow_le (by omega)
    have hP3 : (P : Int) ≤ 2199023255552 := by
      have : (2 : Nat) ^ 41 = 2199023255552 := by decide
      omega
    have hsu : 2 * P = 2 ^ (k + 1 + 1) := by rw [hP, two_pow_succ (k + 1)]
    by_cases hlt : (P : Int) ≤ n
    · have hk' : ((2 ^ (k + 1) : Nat) : Int) ≤ n := by rw [← hP]; exact hlt
      have hk2 : k + 1 ≤ 40 := by
        have := floor_mono hk'
        rw [floor_at] at this
        have := floor_le40 hn
        omega
      have d1 : decide ((k : Int) < 60) = true := by simp; omega
      have hkI : (k : Int) ≤ 40 := by omega
      have HS := Lib.hid hsu; have HK := Lib.hid hk'; have HK2 := Lib.hid hk2
      clear hsu hk' hP hP2 hk hk40 hk2 hn
      go_wp2
      go_roundw
      case rel => exact ⟨k + 1, 2 * P, by go_num, by go_num, HS.out, .inr HK.out, trivial⟩
      case measure => simp [intOf]; have := HK2.out; omega
    · have hfl : floorI n = k := by
        rcases hk with hk | hk
        · subst hk
          exact floor_small (by rw [hP] at hlt; simp at hlt; omega)
        · exact floor_unique hk (by rw [← hP]; omega)
      have HF := Lib.hid hfl
      have hlt' : ¬ (P : Int) ≤ n := hlt
      clear hsu hP hP2 hk hk40 hn hfl
      go_wp2
      go_ret
      rw [HF.out]
      exact ⟨rfl, rfl⟩

set_option maxHeartbeats 1000000 in
theorem r7ceil_any (n : Int) (w : World) (hn : n ≤ 1099511627776) (hlo : -9223372036854775808 ≤ n) :
    Calls Tryz.prog 53 #[.int .i64 n] w fun e w' => e = .returned (.int .i64 ((ceilI n : Nat) : Int)) ∧ w' = w := by
  have HN := Lib.hid (show n ≤ 1099511627776 from hn)
  clear hn
  go_enter Tryz.func53, Tryz.ntmps53
  go_wp2
  go_loopw [3, 4] (fun o3 o4 wr => ∃ k P : Nat, o3 = .int .i64 (k : Int) ∧ o4 = .int .i64 (P : Int) ∧ P = 2 ^ k ∧ (k = 0 ∨ ((2 ^ (k - 1) : Nat) : Int) < n) ∧ wr = w) (fun o3 _ _ => 41 - (intOf o3).toNat)
  case atStart => exact ⟨0, 1, rfl, rfl, rfl, .inl rfl, rfl⟩
  case round =>
    obtain ⟨k, P, rfl, rfl, hP, hk, rfl⟩ := hrel
    have hn := HN.out
    have hk41 : k ≤ 40 := by
      rcases hk with hk | hk
      · omega
      · have h40 : (1099511627776 : Int) = ((2 ^ 40 : Nat) : Int) := by decide
        rw [h40] at hn
        have := lt_of_pow (a := k - 1) (b := 40) (by omega)
        omega
    have hP2 : P ≤ 2 ^ 40 := by rw [hP]; exact pow_le hk41
    have hP3 : (P : Int) ≤ 1099511627776 := by
      have : (2 : Nat) ^ 40 = 1099511627776 := by decide
      omega
    have hsu : 2 * P = 2 ^ (k + 1) := by rw [hP, two_pow_succ k]
    by_cases hlt : (P : Int) < n
    · have hk' : ((2 ^ (k + 1 - 1) : Nat) : Int) < n := by rw [Nat.add_sub_cancel, ← hP]; exact hlt
      have d1 : decide ((k : Int) < 60) = true := by simp; omega
      have hkI : (k : Int) ≤ 40 := by omega
      have HS := Lib.hid hsu; have HK := Lib.hid hk'; have HK2 := Lib.hid hk41
      clear hsu hk' hP hP2 hk hk41 hn
      go_wp2
      go_roundw
      case rel => exact ⟨k + 1, 2 * P, by go_num, by go_num, HS.out, .inr HK.out, trivial⟩
      case measure => simp [intOf]; have := HK2.out; omega
    · have hfl : ceilI n = k := by
        by_cases h1 : 1 ≤ n
        · exact ceil_unique h1 (by rw [← hP]; omega) hk
        · rw [ceil_small (by omega)]
          rcases hk with hk | hk
          · exact hk.symm
          · have := Nat.two_pow_pos (k - 1); omega
      have HF := Lib.hid hfl
      clear hsu hP hP2 hk hk41 hn hfl
      go_wp2
      go_ret
      rw [HF.out]
      exact ⟨rfl, rfl⟩

set_option maxHeartbeats 1000000 in
theorem r7pick_any (n m t : Int) (w : World) (hn : n ≤ 1099511627776) (hlo : -9223372036854775808 ≤ n) (hm : m ≤ 1099511627776) (hmo : -9223372036854775808 ≤ m) (ht : t ≤ 1099511627776) (hto : -9223372036854775808 ≤ t) :
    Calls Tryz.prog 27 #[.int .i64 n, .int .i64 m, .int .i64 t] w fun e w' => e = .returned (.int .i64 (pickI n m t)) ∧ w' = w := by
  have HF := Lib.hid (r7floor_any n w hn hlo); have HC := Lib.hid (r7ceil_any m w hm hmo)
  have h1 := floor_le40 hn
  have h2 := ceil_le40 hm
  have hpk : pickI n m t = max (max (min ((floorI n : Int) - 2) t) 5) ((ceilI m : Nat) : Int) := rfl
  obtain ⟨f, hf⟩ : ∃ f, floorI n = f := ⟨_, rfl⟩
  obtain ⟨c, hc⟩ : ∃ c, ceilI m = c := ⟨_, rfl⟩
  rw [hf] at h1 hpk HF
  rw [hc] at h2 hpk HC
  have HP := Lib.hid hpk
  have f1 : (f : Int) ≤ 40 := by omega
  have c1 : (c : Int) ≤ 40 := by omega
  clear hf hc hpk h1 h2 hn hlo hm hmo
  go_enter Tryz.func27, Tryz.ntmps27
  go_wp2_with fail
  refine HF.out.mono ?_
  rintro e w' ⟨rfl, rfl⟩
  clear HF
  by_cases k1 : (f : Int) - 2 ≤ t
  · by_cases k2 : (f : Int) - 2 ≤ 5
    · by_cases k3 : (c : Int) ≤ 5
      · go_wp2_with fail
        all_goals first
          | (exfalso; omega)
          | (refine HC.out.mono ?_
             rintro e w' ⟨rfl, rfl⟩
             go_wp2
             all_goals first
               | (exfalso; omega)
               | (go_ret; rw [HP.out]; exact ⟨congrArg (fun z => Ending.returned (Value.int .i64 z)) (by omega), rfl⟩))
      · go_wp2_with fail
        all_goals first
          | (exfalso; omega)
          | (refine HC.out.mono ?_
             rintro e w' ⟨rfl, rfl⟩
             go_wp2
             all_goals first
               | (exfalso; omega)
               | (go_ret; rw [HP.out]; exact ⟨congrArg (fun z => Ending.returned (Value.int .i64 z)) (by omega), rfl⟩))
    · go_wp2_with fail
      all_goals first
        | (exfalso; omega)
        | (refine HC.out.mono ?_
           rintro e w' ⟨rfl, rfl⟩
           go_wp2
           all_goals first
             | (exfalso; omega)
             | (go_ret; rw [HP.out]; exact ⟨congrArg (fun z => Ending.returned (Value.int .i64 z)) (by omega), rfl⟩))
  · go_wp2_with fail
    all_goals first
      | (exfalso; omega)
      | (refine HC.out.mono ?_
         rintro e w' ⟨rfl, rfl⟩
         go_wp2
         all_goals first
           | (exfalso; omega)
           | (go_ret; rw [HP.out]; exact ⟨congrArg (fun z => Ending.returned (Value.int .i64 z)) (by omega), rfl⟩))

end Go.Proofs.YtokeoebhmjefoaaGreat

/- Rows of cells (api.Cell) in memory: read, or of one's own. -/
namespace Go.Proofs.YtokeoebhmjefoaaGreat
open Go.RowKit

/-- a cell as values -/
def cv (c : Cl) : List Value := [.int .u8 (c.Sym : Int), .int .i64 c.Bits, .int .i64 c.Base]
def cvs (l : List Cl) : List Value := l.flatMap cv
theorem cvs_length (l : List Cl) : (cvs l).length = l.length * 3 := by
  induction l with
  | nil => rfl
  | cons c r ih => simp [cvs, cv] at ih ⊢; omega
theorem cvs_get (l : List Cl) (j : Nat) (h : j < l.length) : (cvs l)[j * 3]? = some (.int .u8 ((l.getD j cl0).Sym : Int)) ∧ (cvs l)[j * 3 + 1]? = some (.int .i64 (l.getD j cl0).Bits) ∧ (cvs l)[j * 3 + 2]? = some (.int .i64 (l.getD j cl0).Base) := by
  induction l generalizing j with
  | nil => simp at h
  | cons c r ih =>
    have e : cvs (c :: r) = cv c ++ cvs r := by simp [cvs]
    cases j with
    | zero => rw [e]; exact ⟨rfl, rfl, rfl⟩
    | succ j =>
      have ih := ih j (by simpa using h)
      have hl : (cv c).length = 3 := rfl
      rw [e, List.getElem?_append_right (by omega), List.getElem?_append_right (by omega), List.getElem?_append_right (by omega), hl,
        show (j + 1) * 3 - 3 = j * 3 by omega, show (j + 1) * 3 + 1 - 3 = j * 3 + 1 by omega, show (j + 1) * 3 + 2 - 3 = j * 3 + 2 by omega]
      exact ih
theorem cvs_append (a b : List Cl) : cvs (a ++ b) = cvs a ++ cvs b := by simp [cvs]

/-- The value v is a slice of the cells l. -/
def RdC (w : World) (v : Value) (l : List Cl) : Prop :=
  (l = [] ∧ ∃ ao c, v = .slice ao 0 c) ∨ ∃ g off cap, v = .slice (some ⟨g, off, none⟩) l.length cap ∧ ∀ j, j < l.length →
    w.cell? ⟨g, off + j * 3, none⟩ = some (.int .u8 ((l.getD j cl0).Sym : Int)) ∧ w.cell? ⟨g, off + j * 3 + 1, none⟩ = some (.int .i64 (l.getD j cl0).Bits) ∧ w.cell? ⟨g, off + j * 3 + 2, none⟩ = some (.int .i64 (l.getD j cl0).Base)
theorem RdC.form {w : World} {v : Value} {l : List Cl} (h : RdC w v l) : ∃ ao cap, v = .slice ao l.length cap := by
  rcases h with ⟨rfl, ao, c, rfl⟩ | ⟨g, off, cap, rfl, _⟩
  · exact ⟨ao, c, rfl⟩
  · exact ⟨_, cap, rfl⟩
theorem RdC.at {w : World} {ao : Option Addr} {n cap : Nat} {l : List Cl} (h : RdC w (.slice ao n cap) l) (j : Nat) (hj : j < l.length) : ∃ g off, ao = some ⟨g, off, none⟩ ∧
    w.cell? ⟨g, off + j * 3, none⟩ = some (.int .u8 ((l.getD j cl0).Sym : Int)) ∧ w.cell? ⟨g, off + j * 3 + 1, none⟩ = some (.int .i64 (l.getD j cl0).Bits) ∧ w.cell? ⟨g, off + j * 3 + 2, none⟩ = some (.int .i64 (l.getD j cl0).Base) := by
  rcases h with ⟨h0, _⟩ | ⟨g, off, cap', he, hc⟩
  · rw [h0] at hj; simp at hj
  · simp only [Value.slice.injEq] at he
    exact ⟨g, off, he.1, hc _ hj⟩
theorem RdC.at' {w : World} {g off n cap : Nat} {l : List Cl} (h : RdC w (.slice (some ⟨g, off, none⟩) n cap) l) (j : Nat) (hj : j < l.length) :
    w.cell? ⟨g, off + j * 3, none⟩ = some (.int .u8 ((l.getD j cl0).Sym : Int)) ∧ w.cell? ⟨g, off + j * 3 + 1, none⟩ = some (.int .i64 (l.getD j cl0).Bits) ∧ w.cell? ⟨g, off + j * 3 + 2, none⟩ = some (.int .i64 (l.getD j cl0).Base) := by
  obtain ⟨g', off', he, hc⟩ := h.at j hj
  simp only [Option.some.injEq, Addr.mk.injEq] at he
  obtain ⟨rfl, rfl, -⟩ := he
  exact hc
theorem RdC.kept {S : Nat → Prop} {w w' : World} {v : Value} {l : List Cl} (h : RdC w v l) (hc : Chg S w w') (hS : ∀ k, v.ownBlock = some k → ¬ S k) : RdC w' v l := by
  rcases h with h | ⟨g, off, cap, rfl, hcell⟩
  · exact .inl h
  · refine .inr ⟨g, off, cap, rfl, fun j hj => ?_⟩
    have hh := hcell j hj
    have hlt : g < w.heap.size := block_lt_of_cell hh.1
    have hb := hc.block g hlt (hS g rfl)
    rw [World.cell?_of_block (w := w) (a := ⟨g, off + j * 3, none⟩) hb, World.cell?_of_block (w := w) (a := ⟨g, off + j * 3 + 1, none⟩) hb, World.cell?_of_block (w := w) (a := ⟨g, off + j * 3 + 2, none⟩) hb]
    exact hh

/-- none beyond its kind -/
def Cl.fits (c : Cl) : Prop := c.Sym < 256 ∧ (-9223372036854775808 ≤ c.Bits ∧ c.Bits ≤ 9223372036854775807) ∧ (-9223372036854775808 ≤ c.Base ∧ c.Base ≤ 9223372036854775807)

/-- A block that is a row of cells. -/
def RowC (w : World) (g : Nat) (t : TypeId) (l : List Cl) : Prop := w.heap[g]? = some (.cells (cvs l).toArray t (0, 0))
theorem RowC.cell {w : World} {g : Nat} {t : TypeId} {l : List Cl} (h : RowC w g t l) (j : Nat) (hj : j < l.length) :
    w.cell? ⟨g, j * 3, none⟩ = some (.int .u8 ((l.getD j cl0).Sym : Int)) ∧ w.cell? ⟨g, j * 3 + 1, none⟩ = some (.int .i64 (l.getD j cl0).Bits) ∧ w.cell? ⟨g, j * 3 + 2, none⟩ = some (.int .i64 (l.getD j cl0).Base) := by
  have hg := cvs_get l j hj
  rw [cell_of_row w g (j * 3) _ _ _ h, cell_of_row w g (j * 3 + 1) _ _ _ h, cell_of_row w g (j * 3 + 2) _ _ _ h, List.getElem?_toArray, List.getElem?_toArray, List.getElem?_toArray]
  exact hg
theorem RowC.free {w : World} {g : Nat} {t : TypeId} {l : List Cl} (h : RowC w g t l) (k : Nat) : w.frozen? ⟨g, k, none⟩ = false := frozen_of_row w g k _ _ h
theorem RowC.kept {S : Nat → Prop} {w w' : World} {g : Nat} {t : TypeId} {l : List Cl} (h : RowC w g t l) (hc : Chg S w w') (hS : ¬ S g) : RowC w' g t l := (hc.block g (lt_of_block h) hS).trans h
theorem RowC.lt {w : World} {g : Nat} {t : TypeId} {l : List Cl} (h : RowC w g t l) : g < w.heap.size := lt_of_block h
theorem RowC.rd {w : World} {g : Nat} {t : TypeId} {l : List Cl} (h : RowC w g t l) (cap : Nat) : RdC w (.slice (some ⟨g, 0, none⟩) l.length cap) l :=
  .inr ⟨g, 0, cap, rfl, fun j hj => by rw [Nat.zero_add]; exact h.cell j hj⟩

theorem cvs_set (l : List Cl) (j : Nat) (c : Cl) (h : j < l.length) : (((cvs l).set (j * 3) (.int .u8 (c.Sym : Int))).set (j * 3 + 1) (.int .i64 c.Bits)).set (j * 3 + 2) (.int .i64 c.Base) = cvs (l.set j c) := by
  induction l generalizing j with
  | nil => simp at h
  | cons d r ih =>
    have e : ∀ (x : Cl) (y : List Cl), cvs (x :: y) = cv x ++ cvs y := fun x y => by simp [cvs]
    cases j with
    | zero => rw [List.set_cons_zero, e, e]; rfl
    | succ j =>
      have ih := ih j (by simpa using h)
      have hl : (cv d).length = 3 := rfl
      rw [List.set_cons_succ, e, e, ← ih, List.set_append_right _ _ (by omega), List.set_append_right _ _ (by omega), List.set_append_right _ _ (by omega), hl,
        show (j + 1) * 3 - 3 = j * 3 by omega, show (j + 1) * 3 + 1 - 3 = j * 3 + 1 by omega, show (j + 1) * 3 + 2 - 3 = j * 3 + 2 by omega]
theorem RowC.set {w : World} {g : Nat} {t : TypeId} {l : List Cl} (h : RowC w g t l) (j : Nat) (hj : j < l.length) (c : Cl) :
    RowC (((w.setCell ⟨g, j * 3, none⟩ (.int .u8 (c.Sym : Int))).setCell ⟨g, j * 3 + 1, none⟩ (.int .i64 c.Bits)).setCell ⟨g, j * 3 + 2, none⟩ (.int .i64 c.Base)) g t (l.set j c) := by
  have h1 := heap_setCell_same w g (j * 3) _ _ (.int .u8 (c.Sym : Int)) h
  have h2 := heap_setCell_same _ g (j * 3 + 1) _ _ (.int .i64 c.Bits) h1
  have h3 := heap_setCell_same _ g (j * 3 + 2) _ _ (.int .i64 c.Base) h2
  unfold RowC
  rw [h3, List.setIfInBounds_toArray, List.setIfInBounds_toArray, List.setIfInBounds_toArray, cvs_set l j c hj]

end Go.Proofs.YtokeoebhmjefoaaGreat

/- What the document's own cells (puncheonref11) tell: Same. -/
namespace Go.Proofs.YtokeoebhmjefoaaGreat
open Go.RowKit

theorem extC_getD {a b : List Cl} (hl : a.length = b.length) (h : ∀ k, k < a.length → a.getD k cl0 = b.getD k cl0) : a = b := by
  refine List.ext_getElem hl fun k h1 h2 => ?_
  have := h k h1
  rw [List.getD_eq_getElem?_getD, List.getD_eq_getElem?_getD, List.getElem?_eq_getElem h1, List.getElem?_eq_getElem h2] at this
  exact this

end Go.Proofs.YtokeoebhmjefoaaGreat

/- What the document's own dtab.Of (puncheonref11.Of) tells. -/
namespace Go.Proofs.YtokeoebhmjefoaaGreat
open Go.RowKit

/-- what Of tells -/
def DtabSays (w : World) (q : List Int) (e : Ending) (w' : World) : Prop :=
  ∃ v', e = .returned (.tuple #[v', .int .i64 (if logI (totalI q) = 0 then 1 else 0)]) ∧ (logI (totalI q) ≠ 0 → ∃ l, RdC w' v' l ∧ IsDtab (fq q) (logI (totalI q)) l) ∧ (logI (totalI q) = 0 → RdC w' v' []) ∧ Chg (fun _ => False) w w'

/-- the keys up to that of s and d have their cells -/
def DoneC (f : Nat → Nat) (R s d : Nat) (out : List Cl) : Prop := ∀ t e, (t < s ∧ e < f t) ∨ (t = s ∧ e < d) → out.getD (placeF f 256 t (f t + e)) cl0 = cellOf R t (f t + e)
theorem doneC_zero (f : Nat → Nat) (R : Nat) (out : List Cl) : DoneC f R 0 0 out := fun t e h => by omega
theorem doneC_next {f : Nat → Nat} {R s : Nat} {out : List Cl} (h : DoneC f R s (f s) out) : DoneC f R (s + 1) 0 out := fun t e ht => by
  refine h t e ?_
  by_cases hts : t = s
  · subst hts; exact .inr ⟨rfl, by omega⟩
  · exact .inl ⟨by omega, by omega⟩
theorem doneC_step {f : Nat → Nat} {R s d : Nat} {out : List Cl} (hl : out.length = sumTo f 256) (hs : s < 256) (hd : d < f s) (h : DoneC f R s d out) : DoneC f R s (d + 1) (out.set (placeF f 256 s (f s + d)) (cellOf R s (f s + d))) := fun t e ht => by
  have hp := place_room (f := f) (N := 256) hs hd
  by_cases hk : t = s ∧ e = d
  · obtain ⟨rfl, rfl⟩ := hk
    exact getD_set_self (by omega) _
  · have hte : t ≤ s ∧ e < f t := by
      rcases ht with ⟨h1, h2⟩ | ⟨rfl, h2⟩
      · exact ⟨by omega, h2⟩
      · exact ⟨Nat.le_refl _, by omega⟩
    rw [getD_set_other (fun he => hk (by
      have := place_inj (f := f) (N := 256) hs (by omega) hd hte.2 he
      exact ⟨this.1.symm, this.2.symm⟩))]
    exact h t e (by omega)
theorem doneC_all {f : Nat → Nat} {R : Nat} {out : List Cl} (hl : out.length = 2 ^ R) (h : DoneC f R 256 0 out) : IsDtab f R out := ⟨hl, fun s d hs hd => h s d (.inl ⟨hs, hd⟩)⟩

theorem Tryz.infoCell : (Tryz.prog.info? 94).map (fun i => (i.zero, i.size, i.bytes)) = some (some (.agg #[.int .u8 0, .int .i64 0, .int .i64 0]), 3, 24) := by kernel_rfl
theorem zeros_cvs (n : Nat) : (madeCells (Value.agg #[.int .u8 0, .int .i64 0, .int .i64 0]).cells (n * 3)).toList = cvs (List.replicate n cl0) := by
  have hl : (madeCells (Value.agg #[.int .u8 0, .int .i64 0, .int .i64 0]).cells (n * 3)).toList.length = n * 3 := by simp [madeCells]
  apply List.ext_getElem?
  intro i
  by_cases hi : i < n * 3
  · obtain ⟨j, r, hr, rfl⟩ : ∃ j r, r < 3 ∧ i = j * 3 + r := ⟨i / 3, i % 3, Nat.mod_lt _ (by decide), by omega⟩
    have hj : j < n := by omega
    have hg := cvs_get (List.replicate n cl0) j (by simpa using hj)
    have h0 : (List.replicate n cl0).getD j cl0 = cl0 := by simp [List.getD_eq_getElem?_getD, hj]
    rw [h0] at hg
    have hm : (madeCells (Value.agg #[.int .u8 0, .int .i64 0, .int .i64 0]).cells (n * 3)).toList[j * 3 + r]? = some ((Value.agg #[.int .u8 0, .int .i64 0, .int .i64 0]).cells[(j * 3 + r) % 3]!) := by
      simp only [madeCells, Array.toList_map, List.getElem?_map, Array.toList_range, List.getElem?_range hi, Option.map_some]
      rfl
    rw [hm]
    obtain rfl | rfl | rfl : r = 0 ∨ r = 1 ∨ r = 2 := by omega
    · rw [show (j * 3 + 0) % 3 = 0 by omega]; exact hg.1.symm
    · rw [show (j * 3 + 1) % 3 = 1 by omega]; exact hg.2.1.symm
    · rw [show (j * 3 + 2) % 3 = 2 by omega]; exact hg.2.2.symm
  · rw [List.getElem?_eq_none (by rw [hl]; omega), List.getElem?_eq_none (by rw [cvs_length]; simp; omega)]
theorem RowC.of_own {w : World} {base g n : Nat} {l : List Cl} (h : w.ownsRow base 94 3 (.slice (some ⟨g, 0, none⟩) n n) n (cvs l)) : RowC w g 94 l := by
  rcases h.2 with ⟨h0, _⟩ | ⟨g', cap, cur, he, _, hg, _, _, hs, ht⟩
  · simp at h0
  · simp only [Value.slice.injEq, Option.some.injEq, Addr.mk.injEq, and_true, true_and] at he
    obtain ⟨rfl, rfl⟩ := he
    have : cur = (cvs l).toArray := by
      apply Array.ext'
      rw [← ht, List.take_of_length_le (by rw [Array.length_toList, hs]; exact Nat.le_refl _)]
    rw [this] at hg
    exact hg
theorem wpList_make_cells {ops : Array Oper} {rest : List Oper} {o : Oper} {a : Act} {w : World} {Q : Exit → Act → World → Prop} (hg : o.guard = none) (l c : Operand) (hop : o.op = Op.makeSlice 55 l c)
    (L C : Int) (n : Nat) (hl : a.eval l = .int .i64 L) (hc : a.eval c = .int .i64 C) (hL : L = (n : Int)) (hC : C = (n : Int)) (hn : n < 100000000000) (Z : List Cl) (hZ : Z = List.replicate n cl0)
    (hK : ∀ w', RowC w' w.heap.size 94 Z → Chg (fun _ => False) w w' → wpList Tryz.prog ops Q rest (a.put o.dst (.slice (some ⟨w.heap.size, 0, none⟩) n n)) w') : wpList Tryz.prog ops Q (o :: rest) a w := by
  obtain ⟨i, hi, hz0, hz1, hz2⟩ := info_parts Tryz.infoCell
  refine wpList_make_full w hg l c 55 hop w.heap.size 94 i (.agg #[.int .u8 0, .int .i64 0, .int .i64 0]) 3 Tryz.underlying55 hi hz0 hz1 .i64 .i64 L C n hl hc hL hC (by rw [hz2]; omega) (by unfold maxLen; omega) (Nat.le_refl _) ?_
  intro w1 h1 h2
  rw [zeros_cvs, ← hZ] at h1
  exact hK w1 (RowC.of_own h1) ((Chg.of_grown h2).mono fun k _ hk => by simp at hk)

/-- the same, in memory that is new -/
def DtabOwn (w : World) (q : List Int) (e : Ending) (w' : World) : Prop :=
  ∃ v', e = .returned (.tuple #[v', .int .i64 (if logI (totalI q) = 0 then 1 else 0)]) ∧ (logI (totalI q) ≠ 0 → ∃ l g n, v' = .slice (some ⟨g, 0, none⟩) l.length n ∧ w.heap.size ≤ g ∧ RowC w' g 94 l ∧ IsDtab (fq q) (logI (totalI q)) l) ∧ (logI (totalI q) = 0 → RdC w' v' []) ∧ Chg (fun _ => False) w w'

end Go.Proofs.YtokeoebhmjefoaaGreat

/- What math/bits.Len64 and math/bits.Len tell of any number. -/
namespace Go.Proofs.YtokeoebhmjefoaaGreat
open Go.RowKit

theorem len_fin {x y c : Int} (b : Nat) (hc : c = (b : Int)) (hb : b ≤ 56) (hy : y.toNat = x.toNat / 2 ^ b) (hy1 : 1 ≤ y) (hy2 : y < 256) : wrap64 (c + wrap64 ((bitLen y.toNat : Nat) : Int)) = ((bitLen x.toNat : Nat) : Int) := by
  have h8 := bitLen_le8 y.toNat (by omega)
  have hs := bitLen_shift x.toNat b (by omega)
  rw [← hy] at hs
  rw [hs, hc]
  generalize bitLen y.toNat = l at *
  unfold wrap64
  omega

set_option maxRecDepth 100000 in
set_option maxHeartbeats 4000000 in
theorem len64_any (x : Int) (h0 : 0 ≤ x) (hx : x ≤ 18446744073709551615) (w : World) : Calls Tryz.prog 93 #[.int .u64 x] w fun e w' => e = .returned (.int .i64 (bitLen x.toNat : Int)) ∧ w' = w := by
  go_enter Tryz.func93, Tryz.ntmps93
  go_wp2
  all_goals rw [len8tab_get]
  all_goals go_ret
  all_goals refine ⟨congrArg (fun z => Ending.returned (Value.int .i64 z)) ?_, rfl⟩
  · exact len_fin 56 rfl (by decide) (by omega) (by omega) (by omega)
  · exact len_fin 48 rfl (by decide) (by omega) (by omega) (by omega)
  · exact len_fin 40 rfl (by decide) (by omega) (by omega) (by omega)
  · exact len_fin 32 rfl (by decide) (by omega) (by omega) (by omega)
  · exact len_fin 24 rfl (by decide) (by omega) (by omega) (by omega)
  · exact len_fin 16 rfl (by decide) (by omega) (by omega) (by omega)
  · exact len_fin 8 rfl (by decide) (by omega) (by omega) (by omega)
  · have h8 := bitLen_le8 x.toNat (by omega)
    generalize bitLen x.toNat = l at *
    unfold wrap64
    omega

theorem len_any (x : Int) (h0 : 0 ≤ x) (hx : x ≤ 18446744073709551615) (w : World) : Calls Tryz.prog 91 #[.int .u64 x] w fun e w' => e = .returned (.int .i64 (bitLen x.toNat : Int)) ∧ w' = w := by
  have H := fun w => len64_any x h0 hx w
  go_enter Tryz.func91, Tryz.ntmps91
  go_wp2_with fail
  refine (H _).mono ?_
  rintro e w' ⟨rfl, rfl⟩
  go_wp2
  go_ret
  exact ⟨rfl, rfl⟩

end Go.Proofs.YtokeoebhmjefoaaGreat

/- What logs' Floor, Ceil, Width and Pick tell. THIS ALONE SPEAKS OF THE PROGRAM'S OWN TEXT. -/
namespace Go.Proofs.YtokeoebhmjefoaaGreat
open Go.RowKit

theorem bitLen_width {n : Int} (h : 1 ≤ n) : bitLen n.toNat = widthI n := by
  unfold bitLen widthI
  rw [if_neg (by omega), if_neg (by omega)]

theorem lwidth_w (n : Int) (w : World) (hn : n ≤ 1099511627776) (hlo : -9223372036854775808 ≤ n) :
    Calls Tryz.prog 87 #[.int .i64 n] w fun e w' => e = .returned (.int .i64 ((widthI n : Nat) : Int)) ∧ w' = w := by
  by_cases h1 : n < 1
  · have hw := width_small h1
    go_enter Tryz.func87, Tryz.ntmps87
    go_wp2
    go_ret
    rw [hw]
    exact ⟨rfl, rfl⟩
  · have hw := bitLen_width (n := n) (by omega)
    have H := fun w => len_any n (by omega) (by omega) w
    have hm : n % 18446744073709551616 = n := by omega
    go_enter Tryz.func87, Tryz.ntmps87
    go_wp2_with fail
    refine (H _).mono ?_
    rintro e w' ⟨rfl, rfl⟩
    go_wp2
    go_ret
    exact ⟨rfl, rfl⟩

theorem lfloor_w (n : Int) (w : World) (hn : n ≤ 1099511627776) (hlo : -9223372036854775808 ≤ n) :
    Calls Tryz.prog 75 #[.int .i64 n] w fun e w' => e = .returned (.int .i64 ((floorI n : Nat) : Int)) ∧ w' = w := by
  by_cases h1 : n < 2
  · have hw := floor_small h1
    go_enter Tryz.func75, Tryz.ntmps75
    go_wp2
    go_ret
    rw [hw]
    exact ⟨rfl, rfl⟩
  · have H := fun w => lwidth_w n w hn hlo
    have hw := width_floor (n := n) (by omega)
    have h40 := floor_le40 hn
    rw [hw] at H
    generalize floorI n = f at *
    have hs : ((f + 1 : Nat) : Int) - 1 = (f : Int) := by omega
    have hwr : wrap64 ((f : Int)) = (f : Int) := by unfold wrap64; omega
    obtain ⟨q, hq⟩ : ∃ q : Int, q = ((f + 1 : Nat) : Int) := ⟨_, rfl⟩
    rw [← hq] at H hs
    have hq1 : 0 ≤ q ∧ q ≤ 41 := by omega
    go_enter Tryz.func75, Tryz.ntmps75
    go_wp2_with fail
    refine (H _).mono ?_
    rintro e w' ⟨rfl, rfl⟩
    go_wp2
    go_ret
    refine ⟨congrArg (fun z => Ending.returned (Value.int .i64 z)) ?_, rfl⟩
    omega

theorem lwidth_any (n : Int) (w : World) (hn : n ≤ 1099511627776) (hlo : -9223372036854775808 ≤ n) :
    Calls Tryz.prog 87 #[.int .i64 n] w fun e w' => e = .returned (.int .i64 ((widthI n : Nat) : Int)) ∧ Chg (fun _ => False) w w' :=
  (lwidth_w n w hn hlo).mono fun _ _ h => ⟨h.1, h.2 ▸ Chg.refl _ _⟩
theorem lfloor_any (n : Int) (w : World) (hn : n ≤ 1099511627776) (hlo : -9223372036854775808 ≤ n) :
    Calls Tryz.prog 75 #[.int .i64 n] w fun e w' => e = .returned (.int .i64 ((floorI n : Nat) : Int)) ∧ Chg (fun _ => False) w w' :=
  (lfloor_w n w hn hlo).mono fun _ _ h => ⟨h.1, h.2 ▸ Chg.refl _ _⟩
theorem foldl_take_succ (a : Int) (zs : List Int) (k : Nat) (hk : k < zs.length) : (zs.take (k + 1)).foldl max a = max ((zs.take k).foldl max a) (zs.getD k 0) := by
  rw [List.take_add_one, List.foldl_append]
  simp [List.getElem?_eq_getElem hk]

end Go.Proofs.YtokeoebhmjefoaaGreat
