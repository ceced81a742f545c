/- The walk of BitfBack. -/
import Derived.Test.YthenjooffkbkpaaBfAwake
import Derived.Test.YthenjooffkbkpaaBwBytes
import Derived.Test.YthenjooffkbkpaaBrBack
namespace Go.Proofs.Ythenjooffkbkpaa
open Go.RowKit

theorem putAll_pre (bs : List Bool) (ps : List (Nat × Int)) : ∃ t, putAll bs ps = bs ++ t := by
  induction ps generalizing bs with
  | nil => exact ⟨[], by simp [putAll]⟩
  | cons p r ih =>
    obtain ⟨t, ht⟩ := ih (putB bs p.1 p.2)
    by_cases hp : 0 ≤ p.2 ∧ p.2 ≤ 24
    · refine ⟨bitsOf p.1 p.2.toNat ++ t, ?_⟩
      show putAll (putB bs p.1 p.2) r = _
      rw [ht]; unfold putB; rw [if_pos hp, List.append_assoc]
    · refine ⟨t, ?_⟩
      show putAll (putB bs p.1 p.2) r = _
      rw [ht]; unfold putB; rw [if_neg hp]

theorem bits_pack_more (bs : List Bool) (ms : List Nat) : bitsB (pack bs ++ ms) = bs ++ (List.replicate (8 * ((bs.length + 7) / 8) - bs.length) false ++ bitsB ms) := by
  rw [bitsB_append, bitsB_pack, List.append_assoc]

theorem clear_pack (bs : List Bool) (ms : List Nat) : Clear (pack bs ++ ms) bs.length := by
  intro j h1 h2
  have hj : j < 8 * (pack bs ++ ms).length := by rw [List.length_append, pack_length]; omega
  have e := bitsB_get (pack bs ++ ms) j hj
  rw [bits_pack_more, List.getElem?_append_right (by omega), List.getElem?_append_left (by rw [List.length_replicate]; omega), List.getElem?_replicate, if_pos (by omega)] at e
  have hb := bt_lt (pack bs ++ ms) j
  have : ¬ bt (pack bs ++ ms) j = 1 := by
    intro h1
    unfold bt at h1
    rw [h1] at e; simp at e
  omega

/-- the number that was put behind the bits A is taken there -/
theorem fv_put (ps : List (Nat × Int)) (ms : List Nat) (k : Nat) (h : k < ps.length) (n : Nat) (hn : n ≤ 24) (hk : ps[k].2 = (n : Int)) :
    fv (pack (putAll [] ps) ++ ms) (putAll [] (ps.take k)).length n = ps[k].1 % 2 ^ n ∧ (putAll [] (ps.take (k + 1))).length = (putAll [] (ps.take k)).length + n := by
  have hs := putAll_succ [] ps k h
  rw [hk] at hs
  unfold putB at hs
  rw [if_pos (by omega), Int.toNat_natCast] at hs
  refine ⟨?_, by rw [hs, List.length_append, bitsOf_length]⟩
  have e : putAll [] ps = putAll (putAll [] (ps.take (k + 1))) (ps.drop (k + 1)) := by
    conv => lhs; rw [← List.take_append_drop (k + 1) ps]
    rw [putAll_append]
  obtain ⟨t, ht⟩ := putAll_pre (putAll [] (ps.take (k + 1))) (ps.drop (k + 1))
  rw [ht, hs, List.append_assoc] at e
  unfold fv
  rw [bits_pack_more, e, List.append_assoc, List.drop_left, List.append_assoc]
  rw [List.take_append_of_le_length (by rw [bitsOf_length]; omega), List.take_of_length_le (by rw [bitsOf_length]; omega)]
  exact val_bitsOf _ _

theorem put_skip (ps : List (Nat × Int)) (k : Nat) (h : k < ps.length) (hn : ¬ (0 ≤ ps[k].2 ∧ ps[k].2 ≤ 24)) : putAll [] (ps.take (k + 1)) = putAll [] (ps.take k) := by
  rw [putAll_succ [] ps k h]; unfold putB; rw [if_neg hn]

theorem drop_pack (bs : List Bool) (ms : List Nat) : (pack bs ++ ms).drop ((bs.length + 7) / 8) = ms := by
  rw [← pack_length bs, List.drop_left]

theorem put_upto (ps : List (Nat × Int)) (k : Nat) : (putAll [] (ps.take k)).length ≤ (putAll [] ps).length := by
  have e : putAll [] ps = putAll (putAll [] (ps.take k)) (ps.drop k) := by
    conv => lhs; rw [← List.take_append_drop k ps]
    rw [putAll_append]
  rw [e]; exact (putAll_length _ _).1

theorem fleft_e (b : Nat) (o : Option Nat) (xs : List Nat) (p M : Nat) (w : World) (h : Rf w b o xs p) (hM : 8 * xs.length = p + 8 * M) :
    Calls Try.prog 21 #[.pointer (some ⟨b, 0, none⟩)] w fun e w' => e = .returned (.int .i64 (8 * (M : Int))) ∧ Chg (fun _ => False) w w' := by
  refine (fleft_any b o xs p w h).mono ?_
  rintro e w' ⟨rfl, hc⟩
  exact ⟨congrArg (fun z => Ending.returned (Value.int .i64 z)) (by omega), hc⟩

end Go.Proofs.Ythenjooffkbkpaa
