/- What puncheonlaw06.awake tells: the chapter's example holds. -/
import Derived.Test.YtjddaneafmdeeaaCxProgB
import Derived.Test.YtjddaneafmdeeaaCxProgC
namespace Go.Proofs.Ytjddaneafmdeeaa
open Go.RowKit

theorem xat_c (v : Value) (xs : List Nat) (i : Int) (w : World) (h : RdB w v xs) (hx : ∀ x ∈ xs, x < 256) (hl : xs.length < 10000000000) (hi : -9223372036854775808 ≤ i ∧ i ≤ 9223372036854775807) :
    Calls Try.prog 9 #[v, .int .i64 i] w fun e w' => e = .returned (.int .i64 (atI xs i)) ∧ Chg (fun _ => False) w w' :=
  (xat_any v xs i w h hx hl hi).mono fun e w' ⟨h1, m, h2⟩ => ⟨h1, by rw [h2]; exact (Chg.refl _ _).drewN m⟩

theorem ex_for : ∃ C : List Int, cnt (sel [1, 1, 2] 1) = C ∧ C.length = 256 ∧ C.getD 1 0 = 1 ∧ C.getD 2 0 = 1 := by
  refine ⟨_, rfl, cnt_length _, ?_, ?_⟩ <;> decide +kernel
theorem ex_at0 : atI [1, 1, 2] 0 = 0 := by decide +kernel
theorem ex_at2 : atI [1, 1, 2] 2 = 1 := by decide +kernel
theorem ex_pres : pres [1, 1, 2] = [0, 1] := by decide +kernel
theorem ex_widest : widest [1, 1, 2] = 2 := by decide +kernel

set_option maxHeartbeats 1000000 in
set_option maxRecDepth 100000 in
theorem awake6_any (w : World) : Calls Try.prog 8 #[] w fun e w' => e = .returned (.bool true) ∧ Chg (fun _ => False) w w' := by
  obtain ⟨C, hC, hlen, e1, e2⟩ := ex_for
  have HLEN := Lib.hid hlen
  have hrd := rdb_new w [1, 1, 2] #[.int .u8 1, .int .u8 1, .int .u8 2] 3 (0, 0) rfl rfl
  have hca := Chg.alloc (fun _ => False) w (.cells #[.int .u8 1, .int .u8 1, .int .u8 2] 5)
  have HR := Lib.hid hrd; have HCA := Lib.hid hca; have HC := Lib.hid hC; have E1 := Lib.hid e1; have E2 := Lib.hid e2
  clear hrd hca hC hlen e1 e2
  go_enter Try.func8, Try.ntmps8
  go_wp2_with fail
  refine (xfor_any _ [1, 1, 2] 1 _ HR.out (by decide) (by decide) (by decide)).mono ?_
  rintro e w1 ⟨v1, rfl, ho1, hc1⟩
  rw [HC.out] at ho1
  have hr1 := HR.out.kept hc1 (by simp)
  have hc1' := HCA.out.trans hc1 (fun _ _ h => h)
  clear hc1 HR HCA HC
  obtain ⟨g, off, cap, rfl, _, hgl, hcell, _⟩ := ho1
  have k1 := hcell 1 (by rw [HLEN.out]; omega)
  have k2 := hcell 2 (by rw [HLEN.out]; omega)
  rw [E1.out] at k1
  rw [E2.out] at k2
  rw [HLEN.out]
  have HR1 := Lib.hid hr1
  have KEEP : Hid (∀ W : World, Chg (fun _ => False) w1 W → W.cell? ⟨g, off + 1, none⟩ = some (.int .i64 1) ∧ W.cell? ⟨g, off + 2, none⟩ = some (.int .i64 1)) := Lib.hid fun W hW => by
    constructor
    · rw [World.cell?_of_block (w := w1) (hW.block g hgl (by simp))]; exact k1
    · rw [World.cell?_of_block (w := w1) (hW.block g hgl (by simp))]; exact k2
  clear hcell hr1 HLEN k1 k2 hgl
  go_wp2_with fail
  refine (xat_c _ [1, 1, 2] 0 w1 HR1.out (by decide) (by decide) (by decide)).mono ?_
  rintro e w2 ⟨rfl, hc2⟩
  rw [ex_at0]
  have hr2 := Lib.hid (HR1.out.kept hc2 (by simp))
  have q2 := hc2
  clear HR1
  go_wp2_with fail
  refine (xat_c _ [1, 1, 2] 2 w2 hr2.out (by decide) (by decide) (by decide)).mono ?_
  rintro e w3 ⟨rfl, hc3⟩
  rw [ex_at2]
  have hr3 := Lib.hid (hr2.out.kept hc3 (by simp))
  have q3 := q2.trans hc3 (fun _ _ h => h)
  clear hr2 q2 hc2 hc3
  go_wp2_with fail
  refine (xpresent_any _ [1, 1, 2] w3 hr3.out (by decide) (by decide) (RoomOk.of (by decide))).mono ?_
  rintro e w4 ⟨v4, rfl, hp4, hc4⟩
  rw [ex_pres] at hp4
  have hr4 := hr3.out.kept hc4 (by simp)
  have q4 := q3.trans hc4 (fun _ _ h => h)
  have hca := Chg.alloc (fun _ => False) w4 (.cells #[.int .i64 0, .int .i64 1] 3)
  have hrn := rdi_new w4 [0, 1] #[.int .i64 0, .int .i64 1] 2 (0, 0) rfl rfl
  have hp4a := Lib.hid (hp4.kept hca (by simp))
  have hr4a := Lib.hid (hr4.kept hca (by simp))
  have q4a := Lib.hid (q4.trans hca (fun _ _ h => h))
  have HRN := Lib.hid hrn
  clear hr3 q3 hc4 hca hrn hp4 hr4 q4
  go_wp2_with fail
  refine (ints_c _ _ [0, 1] [0, 1] _ hp4a.out HRN.out (by decide) (by decide)).mono ?_
  rintro e w5 ⟨rfl, hc5⟩
  rw [decide_eq_true rfl]
  have hr5 := Lib.hid (hr4a.out.kept hc5 (by simp))
  have q5 := q4a.out.trans hc5 (fun _ _ h => h)
  clear hr4a q4a hc5 HRN hp4a
  go_wp2_with fail
  refine (xwidest_any _ [1, 1, 2] w5 hr5.out (by decide) (by decide)).mono ?_
  rintro e w6 ⟨rfl, hc6⟩
  rw [ex_widest]
  have q6 := q5.trans hc6 (fun _ _ h => h)
  have hc6' := hc1'.trans q6 (fun _ _ h => h)
  obtain ⟨k1, k2⟩ := KEEP.out w6 q6
  clear hr5 q5 hc6 q6 hc1' KEEP
  go_wp2
  go_ret
  exact ⟨rfl, hc6'⟩

end Go.Proofs.Ytjddaneafmdeeaa
