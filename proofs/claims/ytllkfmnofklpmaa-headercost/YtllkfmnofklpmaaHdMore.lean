/- What Take tells of what Put wrote (plain): it is taken back; of another log it is not; what is taken is normalized and has that form alone; cut off there are too few. -/
import Derived.Test.YtllkfmnofklpmaaBase3
namespace Go.Proofs.Ytllkfmnofklpmaa
open Go.RowKit

theorem repl_at (t : Nat) : (List.replicate 256 (0 : Int)).getD t 0 = 0 := by
  rw [List.getD_eq_getElem?_getD, List.getElem?_replicate]; split <;> rfl
theorem hdRes_eq (xs : List Nat) (p : Nat) {k : Nat} (h1 : 1 ≤ k) (h2 : k ≤ 12) : hdRes xs p (k : Int) = hdTk xs 257 p (2 ^ k) 0 false (List.replicate 256 0) := by
  unfold hdRes; rw [if_pos (by omega), Int.toNat_natCast]
theorem NormQ.bits {q : List Int} {k : Nat} (h : NormQ q k) : hdBits q = hdGo (fq q) 257 (2 ^ k) 0 := by
  unfold hdBits; rw [h.log, if_neg (by have := h.2.2.2.1; omega)]
theorem NormQ.same {q r : List Int} (hq : q.length = 256) (hr : r.length = 256) (h : ∀ t, t < 256 → r.getD t 0 = q.getD t 0) : r = q := by
  refine List.ext_getElem (by omega) fun t h1 h2 => ?_
  have := h t (by omega)
  rwa [List.getD_eq_getElem?_getD, List.getD_eq_getElem?_getD, List.getElem?_eq_getElem h1, List.getElem?_eq_getElem h2] at this

/-- what is put is taken -/
theorem hd_back {q : List Int} {k : Nat} (h : NormQ q k) {xs : List Nat} {p : Nat} (ha : atBits xs p (hdBits q)) : hdRes xs p (k : Int) = (q, 0, p + (hdBits q).length) := by
  rw [hdRes_eq xs p h.2.2.2.1 h.2.2.2.2]
  rw [h.bits] at ha ⊢
  obtain ⟨q', e1, e2, e3⟩ := hdTk_put xs (fq q) 257 p (2 ^ k) 0 false (List.replicate 256 0) (by omega) (by omega) ha (by rw [h.sum]; show _ = 0 + _; omega) h.size (by simp) List.length_replicate (fun t ht => by omega) (fun t _ => repl_at t)
  rw [e1, NormQ.same h.1 e2 (fun t ht => by rw [e3 t ht, h.at t])]

theorem bgTk_err {xs : List Nat} {p l : Nat} (h1 : 1 ≤ l) (h2 : l ≤ 4096) (h : (bgTk xs p (l : Int)).2.1 ≠ 0) : (bgTk xs p (l : Int)).2.1 = 3 ∨ (bgTk xs p (l : Int)).2.1 = 13 := by
  unfold bgTk at h ⊢
  rw [if_pos ⟨by omega, by omega⟩] at h ⊢
  by_cases c1 : p + widthI (l : Int) ≤ 8 * xs.length
  · rw [if_pos c1] at h ⊢
    by_cases c2 : ((fv xs p (widthI (l : Int)) : Nat) : Int) ≤ (l : Int)
    · rw [if_pos c2] at h; exact absurd rfl h
    · rw [if_neg c2]; exact .inr rfl
  · rw [if_neg c1]; exact .inl rfl
theorem rnTk_err {xs : List Nat} {p : Nat} {most : Int} (h1 : 0 ≤ most) (h2 : most ≤ 255) (h : (rnTk xs p most).2.1 ≠ 0) : (rnTk xs p most).2.1 = 3 ∨ (rnTk xs p most).2.1 = 13 := by
  unfold rnTk at h ⊢
  rw [if_pos ⟨h1, h2⟩] at h ⊢
  rcases rnGo_err xs most.toNat (4 * xs.length + 1) p 0 with h' | ⟨-, h'⟩
  · exact absurd h' h
  · exact h'
/-- an error tells no counts, and it is one of two -/
theorem hdTk_err (xs : List Nat) : ∀ (fu p left s : Nat) (z : Bool) (q : List Int), left ≤ 4096 → (hdTk xs fu p left s z q).2.1 ≠ 0 → (hdTk xs fu p left s z q).1 = [] ∧ ((hdTk xs fu p left s z q).2.1 = 3 ∨ (hdTk xs fu p left s z q).2.1 = 13) := by
  intro fu
  induction fu with
  | zero => intro p left s z q _ _; exact ⟨rfl, .inr rfl⟩
  | succ fu ih =>
    intro p left s z q hl
    simp only [hdTk]
    by_cases c1 : left = 0
    · rw [if_pos c1]; intro h; exact absurd rfl h
    rw [if_neg c1]
    by_cases c2 : 255 < s
    · rw [if_pos c2]; exact fun _ => ⟨rfl, .inr rfl⟩
    rw [if_neg c2]
    by_cases c3 : (bgTk xs p (left : Int)).2.1 ≠ 0
    · rw [if_pos c3]; exact fun _ => ⟨rfl, bgTk_err (by omega) hl c3⟩
    rw [if_neg c3]
    by_cases c4 : (bgTk xs p (left : Int)).1 = 0
    · rw [if_pos c4]
      by_cases c5 : z = true
      · rw [if_pos c5]; exact fun _ => ⟨rfl, .inr rfl⟩
      rw [if_neg c5]
      by_cases c6 : 255 < s + 1
      · rw [if_pos c6]; exact fun _ => ⟨rfl, .inr rfl⟩
      rw [if_neg c6]
      by_cases c7 : (rnTk xs (bgTk xs p (left : Int)).2.2 (255 - ((s + 1 : Nat) : Int))).2.1 ≠ 0
      · have h3 := rnTk_err (by omega) (by omega) c7
        rw [if_pos c7]
        generalize (rnTk xs (bgTk xs p (left : Int)).2.2 (255 - ((s + 1 : Nat) : Int))) = T at h3 ⊢
        exact fun _ => ⟨rfl, h3⟩
      rw [if_neg c7]
      exact ih _ _ _ _ _ hl
    · rw [if_neg c4]
      exact ih _ _ _ _ _ (by omega)
theorem hd_err {xs : List Nat} {p k : Nat} (h1 : 1 ≤ k) (h2 : k ≤ 12) (h : (hdRes xs p (k : Int)).2.1 ≠ 0) : (hdRes xs p (k : Int)).1 = [] ∧ ((hdRes xs p (k : Int)).2.1 = 3 ∨ (hdRes xs p (k : Int)).2.1 = 13) := by
  rw [hdRes_eq xs p h1 h2] at h ⊢
  exact hdTk_err xs 257 p (2 ^ k) 0 false (List.replicate 256 0) (pow12 h2) h

theorem normQ_mk {q : List Int} {k : Nat} (h : q.length = 256) (hp : ∀ t, 0 ≤ q.getD t 0) (hs : sumTo (fq q) 256 = 2 ^ k) (h1 : 1 ≤ k) (h2 : k ≤ 12) : NormQ q k := by
  have hz : ∀ z ∈ q, 0 ≤ z := fun z hz => by
    obtain ⟨t, ht, rfl⟩ := List.mem_iff_getElem.1 hz
    have := hp t
    rwa [List.getD_eq_getElem?_getD, List.getElem?_eq_getElem ht] at this
  refine ⟨h, hz, ?_, h1, h2⟩
  have := sumTo_tot q hz 256 (by omega)
  rw [List.take_of_length_le (by omega), hs] at this
  exact this.symm

/-- what is taken is normalized, and has that form alone -/
theorem hd_one {xs : List Nat} {k : Nat} (h1 : 1 ≤ k) (h2 : k ≤ 12) (h : (hdRes xs 0 (k : Int)).2.1 = 0) : NormQ (hdRes xs 0 (k : Int)).1 k ∧ (hdRes xs 0 (k : Int)).2.2 ≤ 8 * xs.length ∧ hdBits (hdRes xs 0 (k : Int)).1 = (bitsB xs).take (hdRes xs 0 (k : Int)).2.2 := by
  rw [hdRes_eq xs 0 h1 h2] at h ⊢
  obtain ⟨a1, -, a3, a4, a5, a6, -⟩ := hdTk_again xs 257 0 (2 ^ k) 0 false (List.replicate 256 0) (by omega) (by omega) (pow12 h2) (Nat.zero_le _) List.length_replicate (fun t => by rw [repl_at]; omega) (fun t _ => repl_at t) h
  obtain ⟨R, hR⟩ : ∃ R, hdTk xs 257 0 (2 ^ k) 0 false (List.replicate 256 0) = R := ⟨_, rfl⟩
  rw [hR] at a1 a3 a4 a5 a6 ⊢
  obtain ⟨q, er, p⟩ := R
  simp only [] at a1 a3 a4 a5 a6 ⊢
  have hn : NormQ q k := normQ_mk a1 a3 (by rw [show sumTo (fq q) 256 = sumTo (fqN q) 256 from rfl, a4]; show 0 + _ = _; omega) h1 h2
  refine ⟨hn, a5, ?_⟩
  rw [hn.bits, ← a6, List.take_zero, List.nil_append]
  rfl

/-- of the next log it isn't these counts -/
theorem hd_other {q : List Int} {k : Nat} (h : NormQ q k) (h2 : k + 1 ≤ 12) (xs : List Nat) : (hdRes xs 0 ((k + 1 : Nat) : Int)).1 ≠ q := by
  intro he
  by_cases h0 : (hdRes xs 0 ((k + 1 : Nat) : Int)).2.1 = 0
  · have hn := (hd_one (by omega) h2 h0).1
    rw [he] at hn
    have e1 := h.log
    have e2 := hn.log
    omega
  · rw [(hd_err (by omega) h2 h0).1] at he
    have := h.1
    rw [← he] at this
    simp at this

/-- cut off there are too few -/
theorem hd_short {q : List Int} {k : Nat} (h : NormQ q k) {xs : List Nat} (hc : cutBits xs 0 (hdBits q)) : (hdRes xs 0 (k : Int)).1 = [] ∧ (hdRes xs 0 (k : Int)).2.1 = 3 := by
  rw [hdRes_eq xs 0 h.2.2.2.1 h.2.2.2.2]
  rw [h.bits] at hc
  exact hdTk_short xs (fq q) 257 0 (2 ^ k) 0 false (List.replicate 256 0) (by omega) (by omega) hc (by rw [h.sum]; show _ = 0 + _; omega) h.size (by simp)

end Go.Proofs.Ytllkfmnofklpmaa
