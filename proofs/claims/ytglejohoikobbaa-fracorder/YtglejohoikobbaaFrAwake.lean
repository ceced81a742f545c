/- The chapter's examples (law09.awake); keys in the laws. -/
import Derived.Test.YtglejohoikobbaaFrProg
namespace Go.Proofs.Ytglejohoikobbaa
open Go.RowKit

set_option maxHeartbeats 1000000 in
theorem awake9_any (w : World) : Calls Try.prog 8 #[] w fun e w' => e = .returned (.bool true) ∧ Chg (fun _ => False) w w' := by
  have f1 : (⟨3, 2, 0⟩ : Ky).fits := Ky.right.fits (by decide)
  have f2 : (⟨3, 2, 9⟩ : Ky).fits := Ky.right.fits (by decide)
  have f3 : (⟨5, 3, 0⟩ : Ky).fits := Ky.right.fits (by decide)
  have f4 : (⟨1, 1, 0⟩ : Ky).fits := Ky.right.fits (by decide)
  have F1 := Lib.hid f1; have F2 := Lib.hid f2; have F3 := Lib.hid f3; have F4 := Lib.hid f4
  clear f1 f2 f3 f4
  go_enter Try.func8, Try.ntmps8
  go_wp2_with fail
  refine (kscaled_any ⟨3, 2, 0⟩ 5 _ F1.out (by decide)).mono ?_
  rintro e w1 ⟨rfl, hc⟩
  rw [show scK ⟨3, 2, 0⟩ 5 = (7, 8) by decide]
  have HC := Lib.hid hc
  clear hc
  go_wp2_with fail
  refine (kcmp_any ⟨3, 2, 9⟩ ⟨5, 3, 0⟩ _ F2.out F3.out).mono ?_
  rintro e w2 ⟨rfl, hc⟩
  rw [show cmpK ⟨3, 2, 9⟩ ⟨5, 3, 0⟩ = -1 by decide]
  replace HC := Lib.hid (HC.out.trans hc fun _ _ h => h)
  clear hc
  go_wp2_with fail
  refine (kright_any ⟨1, 1, 0⟩ _ F4.out).mono ?_
  rintro e w3 ⟨rfl, hc⟩
  rw [show decide (Ky.right ⟨1, 1, 0⟩) = true by decide]
  replace HC := Lib.hid (HC.out.trans hc fun _ _ h => h)
  clear hc
  go_wp2
  go_ret
  exact ⟨rfl, HC.out⟩

/-- a key of small numbers, by its parts -/
theorem made_k {i q s I Q S : Int} {m n u : Nat} (w : World) (hm : m < 65536) (hn : n < 65536) (hu : u < 256) (hi : i = (m : Int)) (hq : q = (n : Int)) (hs : s = (u : Int)) (hk : madeK m n u = ⟨I, Q, S⟩) :
    Calls Try.prog 14 #[.int .u16 i, .int .u16 q, .int .u8 s] w fun e w' => e = .returned (.agg #[.int .i64 I, .int .i64 Q, .int .i64 S]) ∧ Chg (fun _ => False) w w' := by
  subst hi hq hs
  have h := r9made_any m n u w hm hn hu
  rw [hk] at h
  exact h
theorem key_k {I Q S : Int} (w : World) (hf : Ky.fits ⟨I, Q, S⟩) : Calls Try.prog 10 #[.agg #[.int .i64 I, .int .i64 Q, .int .i64 S]] w fun e w' => e = .returned (.agg #[.int .i64 I, .int .i64 Q, .int .i64 S]) ∧ Chg (fun _ => False) w w' := key_any ⟨I, Q, S⟩ w hf
theorem cmp_k {I Q S J R T : Int} (w : World) (h1 : Ky.right ⟨I, Q, S⟩) (h2 : Ky.right ⟨J, R, T⟩) : Calls Try.prog 12 #[.agg #[.int .i64 I, .int .i64 Q, .int .i64 S], .agg #[.int .i64 J, .int .i64 R, .int .i64 T]] w fun e w' => e = .returned (.int .i64 (cmpR ⟨I, Q, S⟩ ⟨J, R, T⟩)) ∧ Chg (fun _ => False) w w' := by
  have h := kcmp_any ⟨I, Q, S⟩ ⟨J, R, T⟩ w h1.fits h2.fits
  rw [show cmpK ⟨I, Q, S⟩ ⟨J, R, T⟩ = cmpR ⟨I, Q, S⟩ ⟨J, R, T⟩ by unfold cmpK; rw [if_pos ⟨h1, h2⟩]] at h
  exact h
theorem madeK_get (m n u : Nat) (hu : u < 256) : ∃ I Q S, madeK m n u = ⟨I, Q, S⟩ ∧ Ky.right ⟨I, Q, S⟩ := ⟨_, _, _, rfl, madeK_right m n u hu⟩

end Go.Proofs.Ytglejohoikobbaa
