/- A slice of parts that is read; all parts put; a Writer of the call's own. -/
import Derived.Test.YthenjooffkbkpaaBwSame
namespace Go.Proofs.Ythenjooffkbkpaa
open Go.RowKit

/-- The value is a slice of the parts ps (a number and how many bits), none of them beyond its kind. -/
structure RdP (w : World) (v : Value) (ps : List (Nat × Int)) : Prop where
  form : ∃ ao cap, v = .slice ao ps.length cap ∧ (0 < ps.length → ∃ g off, ao = some ⟨g, off, none⟩)
  cells : ∀ g off n cap, v = .slice (some ⟨g, off, none⟩) n cap → ∀ i (h : i < ps.length), w.cell? ⟨g, off + i * 2, none⟩ = some (.int .u32 (ps[i].1 : Int)) ∧ w.cell? ⟨g, off + i * 2 + 1, none⟩ = some (.int .i64 ps[i].2)
  wf : ∀ p ∈ ps, p.1 < 4294967296

theorem RdP.kept {S : Nat → Prop} {w w' : World} {v : Value} {ps : List (Nat × Int)} (h : RdP w v ps) (hc : Chg S w w') (hS : ∀ k, v.ownBlock = some k → ¬ S k) : RdP w' v ps := by
  refine ⟨h.form, fun g off n cap hv i hi => ?_, h.wf⟩
  have hh := h.cells g off n cap hv i hi
  have hlt : g < w.heap.size := block_lt_of_cell hh.1
  have hb := hc.block g hlt (hS g (by rw [hv]; rfl))
  rw [World.cell?_of_block (w := w) (a := ⟨g, off + i * 2, none⟩) hb, World.cell?_of_block (w := w) (a := ⟨g, off + i * 2 + 1, none⟩) hb]
  exact hh

theorem Wr.drew {w : World} {b : Nat} {o : Option Nat} {bs : List Bool} (h : Wr w b o bs) : Wr w.drew b o bs := h

/-- all parts put, one behind the other -/
def putAll (bs : List Bool) : List (Nat × Int) → List Bool
  | [] => bs
  | p :: r => putAll (putB bs p.1 p.2) r

theorem putAll_append (bs : List Bool) (a b : List (Nat × Int)) : putAll bs (a ++ b) = putAll (putAll bs a) b := by
  induction a generalizing bs with
  | nil => rfl
  | cons p r ih => exact ih _

theorem putAll_succ (bs : List Bool) (ps : List (Nat × Int)) (k : Nat) (h : k < ps.length) : putAll bs (ps.take (k + 1)) = putB (putAll bs (ps.take k)) ps[k].1 ps[k].2 := by
  rw [List.take_succ_eq_append_getElem h, putAll_append]; rfl

theorem putAll_length (bs : List Bool) (ps : List (Nat × Int)) : bs.length ≤ (putAll bs ps).length ∧ (putAll bs ps).length ≤ bs.length + 24 * ps.length := by
  induction ps generalizing bs with
  | nil => simp [putAll]
  | cons p r ih =>
    have h1 := putB_length bs p.1 p.2
    have h2 := ih (putB bs p.1 p.2)
    simp only [putAll, List.length_cons]; omega

/-- A Writer of the call's own: all of it lies from B on. -/
def Own (B : Nat) (w : World) (b : Nat) (bs : List Bool) : Prop := ∃ o, Wr w b o bs ∧ B ≤ b ∧ ∀ k, o = some k → B ≤ k

theorem put_int (b : Nat) (o : Option Nat) (bs : List Bool) (v n : Int) (w : World) (h : Wr w b o bs) (hlen : bs.length < 900000000) (hv0 : 0 ≤ v) (hv : v < 4294967296) :
    Calls Try.prog 27 #[.pointer (some ⟨b, 0, none⟩), .int .u32 v, .int .i64 n] w fun e w' => e = .returned (.bool (decide (0 ≤ n ∧ n ≤ 24))) ∧ WrTo w w' b o (putB bs v.toNat n) := by
  obtain ⟨u, rfl⟩ := Int.eq_ofNat_of_zero_le hv0
  rw [Int.toNat_natCast]
  exact put_any b o bs u n w h hlen (by omega)

theorem put_in (b : Nat) (o : Option Nat) (bs : List Bool) (v n : Int) (w : World) (h : Wr w b o bs) (hlen : bs.length < 900000000) (hv0 : 0 ≤ v) (hv : v < 4294967296) (hn0 : 0 ≤ n) (hn : n ≤ 24) :
    Calls Try.prog 27 #[.pointer (some ⟨b, 0, none⟩), .int .u32 v, .int .i64 n] w fun e w' => e = .returned (.bool true) ∧ ∃ o', Wr w' b o' (bs ++ bitsOf v.toNat n.toNat) ∧ Chg (fun k => k = b ∨ some k = o) w w' ∧ (o' = o ∨ ∃ k, o' = some k ∧ w.heap.size ≤ k) := by
  refine (put_int b o bs v n w h hlen hv0 hv).mono ?_
  rintro e w' ⟨rfl, ht⟩
  rw [show decide (0 ≤ n ∧ n ≤ 24) = true from decide_eq_true ⟨hn0, hn⟩]
  unfold putB at ht
  rw [if_pos ⟨hn0, hn⟩] at ht
  exact ⟨rfl, ht⟩

theorem Own.to {B : Nat} {w w' : World} {b : Nat} {o : Option Nat} {bs : List Bool} (h : WrTo w w' b o bs) (hB : B ≤ b) (ho : ∀ k, o = some k → B ≤ k) (hs : B ≤ w.heap.size) : Own B w' b bs ∧ Chg (fun k => B ≤ k) w w' := by
  obtain ⟨o', hw, hc, ho'⟩ := h
  refine ⟨⟨o', hw, hB, fun k hk => ?_⟩, hc.mono fun k _ hk => ?_⟩
  · rcases ho' with rfl | ⟨j, rfl, hj⟩
    · exact ho k hk
    · simp only [Option.some.injEq] at hk; omega
  · rcases hk with rfl | hk
    · exact hB
    · exact ho k hk.symm

theorem put_own (B b : Nat) (bs : List Bool) (v n : Int) (w : World) (h : Own B w b bs) (hs : B ≤ w.heap.size) (hlen : bs.length < 900000000) (hv0 : 0 ≤ v) (hv : v < 4294967296) :
    Calls Try.prog 27 #[.pointer (some ⟨b, 0, none⟩), .int .u32 v, .int .i64 n] w fun e w' => e = .returned (.bool (decide (0 ≤ n ∧ n ≤ 24))) ∧ Own B w' b (putB bs v.toNat n) ∧ Chg (fun k => B ≤ k) w w' := by
  obtain ⟨o, hw, hB, ho⟩ := h
  refine (put_int b o bs v n w hw hlen hv0 hv).mono ?_
  rintro e w' ⟨rfl, ht⟩
  exact ⟨rfl, Own.to ht hB ho hs⟩

end Go.Proofs.Ythenjooffkbkpaa
