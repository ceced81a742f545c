/- What puncheonlaw07.awake tells: the chapter's examples hold. -/
import Derived.Test.YtkdgfnaelekjoaaLgProg
namespace Go.Proofs.Ytkdgfnaelekjoaa
open Go.RowKit

theorem ex_f9 : floorI 9 = 3 := by decide +kernel
theorem ex_c9 : ceilI 9 = 4 := by decide +kernel
theorem ex_w9 : widthI 9 = 4 := by decide +kernel
theorem ex_p3 : pickI 1000 3 11 = 7 := by decide +kernel
theorem ex_p200 : pickI 1000 200 11 = 8 := by decide +kernel

set_option maxHeartbeats 1000000 in
theorem awake7_any (w : World) : Calls Try.prog 8 #[] w fun e w' => e = .returned (.bool true) ∧ Chg (fun _ => False) w w' := by
  go_enter Try.func8, Try.ntmps8
  go_wp2_with fail
  refine (lfloor_any 9 w (by decide) (by decide)).mono ?_
  rintro e w1 ⟨rfl, q1⟩
  rw [ex_f9]
  go_wp2_with fail
  refine (lceil_any 9 w1 (by decide) (by decide)).mono ?_
  rintro e w2 ⟨rfl, hc2⟩
  rw [ex_c9]
  have q2 := q1.trans hc2 (fun _ _ h => h)
  clear q1 hc2
  go_wp2_with fail
  refine (lwidth_any 9 w2 (by decide) (by decide)).mono ?_
  rintro e w3 ⟨rfl, hc3⟩
  rw [ex_w9]
  have q3 := q2.trans hc3 (fun _ _ h => h)
  clear q2 hc3
  go_wp2_with fail
  refine (lpick_any 1000 3 11 w3 (by decide) (by decide) (by decide) (by decide) (by decide) (by decide)).mono ?_
  rintro e w4 ⟨rfl, hc4⟩
  rw [ex_p3]
  have q4 := q3.trans hc4 (fun _ _ h => h)
  clear q3 hc4
  go_wp2_with fail
  refine (lpick_any 1000 200 11 w4 (by decide) (by decide) (by decide) (by decide) (by decide) (by decide)).mono ?_
  rintro e w5 ⟨rfl, hc5⟩
  rw [ex_p200]
  have q5 := q4.trans hc5 (fun _ _ h => h)
  clear q4 hc5
  go_wp2
  go_ret
  exact ⟨rfl, q5⟩

end Go.Proofs.Ytkdgfnaelekjoaa
