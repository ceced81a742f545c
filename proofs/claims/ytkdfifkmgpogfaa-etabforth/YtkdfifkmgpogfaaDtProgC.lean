/- What dtab's fitted and Whole tell. THIS SPEAKS OF THE PROGRAM'S OWN TEXT. -/
import Derived.Test.YtkdfifkmgpogfaaDtProgB
namespace Go.Proofs.Ytkdfifkmgpogfaa
open Go.RowKit

/-- the cell next to c that leads to none but a table's states -/
def clampI (x m : Int) : Int := if m < (if x < 0 then 0 else x) then m else (if x < 0 then 0 else x)
def fitC (c : Cl) (R : Nat) : Cl := ⟨c.Sym, clampI c.Bits (R : Int), clampI c.Base (((2 ^ R : Nat) : Int) - ((2 ^ (clampI c.Bits (R : Int)).toNat : Nat) : Int))⟩
theorem clamp_range {x m : Int} (h : 0 ≤ m) : 0 ≤ clampI x m ∧ clampI x m ≤ m := by
  unfold clampI; split <;> split at * <;> omega
theorem clamp_eq {x m : Int} (h : 0 ≤ m) : x = clampI x m ↔ 0 ≤ x ∧ x ≤ m := by
  unfold clampI; split <;> split at * <;> omega

theorem fit_ok {c : Cl} {R : Nat} : c = fitC c R ↔ 0 ≤ c.Bits ∧ c.Bits ≤ (R : Int) ∧ 0 ≤ c.Base ∧ c.Base ≤ ((2 ^ R : Nat) : Int) - ((2 ^ c.Bits.toNat : Nat) : Int) := by
  obtain ⟨S, bi, ba⟩ := c
  unfold fitC
  simp only [Cl.mk.injEq, true_and]
  have h1 := clamp_eq (x := bi) (m := (R : Int)) (by omega)
  constructor
  · rintro ⟨e1, e2⟩
    have hb := h1.1 e1
    rw [← e1] at e2
    have hle : 2 ^ bi.toNat ≤ 2 ^ R := Nat.pow_le_pow_right (by decide) (by omega)
    have := (clamp_eq (by omega)).1 e2
    exact ⟨hb.1, hb.2, this.1, this.2⟩
  · rintro ⟨a1, a2, a3, a4⟩
    have e1 := h1.2 ⟨a1, a2⟩
    have hle : 2 ^ bi.toNat ≤ 2 ^ R := Nat.pow_le_pow_right (by decide) (by omega)
    refine ⟨e1, ?_⟩
    rw [← e1]
    exact (clamp_eq (by omega)).2 ⟨a3, a4⟩

theorem whole_fit {l : List Cl} {n R : Nat} (hn : n = 2 ^ R) (hl : l.length = n) (h : WholeL l) (a : Nat) (ha : a < n) : l.getD a cl0 = fitC (l.getD a cl0) R := by
  obtain ⟨h0, h1, h2, h3⟩ := h.2.1 a (by rw [hl]; exact ha)
  rw [hl] at h3
  refine fit_ok.2 ⟨h0, ?_, h2, by rw [← hn]; exact h3⟩
  have : 2 ^ (l.getD a cl0).Bits.toNat ≤ 2 ^ R := by omega
  have : (l.getD a cl0).Bits.toNat < R + 1 := lt_of_pow (by rw [Nat.pow_succ]; have := Nat.two_pow_pos R; omega)
  omega

end Go.Proofs.Ytkdfifkmgpogfaa
