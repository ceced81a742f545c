/- What puncheonlaw11.awake tells: the chapter's example holds. -/
import Derived.Test.YtkdfifkmgpogfaaDtProg
import Derived.Test.YtkdfifkmgpogfaaBase3
namespace Go.Proofs.Ytkdfifkmgpogfaa
open Go.RowKit

theorem exS_sum : sumTo (fq exS) 256 = 2 ^ 3 := by decide +kernel
theorem exS_five {l : List Cl} (h : IsDtab (fq exS) 3 l) : l.getD 5 cl0 = ⟨1, 2, 4⟩ := by
  have h1 := h.at' 1 1 (by decide) (by decide +kernel)
  rw [show placeF (fq exS) 256 1 (fq exS 1 + 1) = 5 by decide +kernel, show cellOf 3 1 (fq exS 1 + 1) = ⟨1, 2, 4⟩ by decide +kernel] at h1
  exact h1

/-- cells of a table lie within their kinds -/
theorem IsDtab.bounds {f : Nat → Nat} {R : Nat} {l : List Cl} (h : IsDtab f R l) (hs : sumTo f 256 = 2 ^ R) (h2 : R ≤ 12) {a : Nat} (ha : a < 2 ^ R) :
    (l.getD a cl0).Sym < 256 ∧ 0 ≤ (l.getD a cl0).Bits ∧ (l.getD a cl0).Bits ≤ (R : Int) ∧ 0 ≤ (l.getD a cl0).Base ∧ (l.getD a cl0).Base + ((2 ^ (l.getD a cl0).Bits.toNat : Nat) : Int) ≤ ((2 ^ R : Nat) : Int) := by
  obtain ⟨s, d, hs1, hd, hpl, he⟩ := h.is hs ha
  rw [he]
  have hb := cell_bounds (R := R) (q := f s) (s := s) (i := f s + d) (by omega) (f_le hs hs1) (by omega) (by omega)
  have e : (cellOf R s (f s + d)).Bits = ((bitsN R (f s + d) : Nat) : Int) := rfl
  rw [e, Int.toNat_natCast]
  have : bitsN R (f s + d) ≤ R := by unfold bitsN; omega
  exact ⟨hs1, by omega, by omega, hb.1, hb.2⟩
theorem IsDtab.fits {f : Nat → Nat} {R : Nat} {l : List Cl} (h : IsDtab f R l) (hs : sumTo f 256 = 2 ^ R) (h2 : R ≤ 12) : ∀ c ∈ l, c.fits := by
  intro c hc
  obtain ⟨a, ha, rfl⟩ := List.mem_iff_getElem.1 hc
  have hb := h.bounds hs h2 (a := a) (by rw [← h.len]; exact ha)
  have hp := pow12 h2
  rw [List.getD_eq_getElem?_getD, List.getElem?_eq_getElem ha] at hb
  simp only [Option.getD_some] at hb
  have hq := Nat.two_pow_pos l[a].Bits.toNat
  exact ⟨hb.1, by omega, by omega⟩
theorem IsDtab.baseOk {f : Nat → Nat} {R : Nat} {l : List Cl} (h : IsDtab f R l) (hs : sumTo f 256 = 2 ^ R) (h2 : R ≤ 12) (x : Int) : baseOk l x := by
  intro h0 h1
  have hb := h.bounds hs h2 (a := x.toNat) (by rw [← h.len]; omega)
  have hp := pow12 h2
  have hq := Nat.two_pow_pos (l.getD x.toNat cl0).Bits.toNat
  omega

end Go.Proofs.Ytkdfifkmgpogfaa
