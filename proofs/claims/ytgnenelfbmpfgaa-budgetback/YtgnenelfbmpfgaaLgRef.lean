/- What the document's own logs (puncheonref07) tell. -/
import Derived.Test.YtgnenelfbmpfgaaBwBase
import Derived.Test.YtgnenelfbmpfgaaLgMath
namespace Go.Proofs.Ytgnenelfbmpfgaa
open Go.RowKit

set_option maxHeartbeats 1000000 in
theorem r7width_any (n : Int) (w : World) (hn : n ≤ 1099511627776) (hlo : -9223372036854775808 ≤ n) :
    Calls Try.prog 28 #[.int .i64 n] w fun e w' => e = .returned (.int .i64 ((widthI n : Nat) : Int)) ∧ w' = w := by
  have hwl := width_le41 hn
  obtain ⟨W, hW⟩ : ∃ W, widthI n = W := ⟨_, rfl⟩
  rw [hW] at hwl ⊢
  have HW := Lib.hid hW; have HWL := Lib.hid hwl; have HN := Lib.hid (And.intro hn hlo)
  clear hW hwl hn hlo
  go_enter Try.func28, Try.ntmps28
  go_wp2
  go_loopw [0, 3] (fun o0 o3 wr => ∃ (x : Int) (k : Nat), o0 = .int .i64 x ∧ o3 = .int .i64 (k : Int) ∧ -9223372036854775808 ≤ x ∧ x ≤ 1099511627776 ∧ widthI x + k = W ∧ wr = w) (fun o0 _ _ => (intOf o0).toNat)
  case atStart => exact ⟨n, 0, rfl, rfl, HN.out.2, HN.out.1, HW.out, rfl⟩
  case round =>
    obtain ⟨x, k, rfl, rfl, hx0, hx1, hs, rfl⟩ := hrel
    by_cases hlt : 0 < x
    · have hh := width_half (n := x) (by omega)
      have hs2 : widthI (x / 2) + (k + 1) = W := by omega
      have hk : (k : Int) ≤ 41 := by have := HWL.out; omega
      have hd : x.tdiv 2 = x / 2 := Int.tdiv_eq_ediv_of_nonneg (by omega)
      have HS := Lib.hid hs2
      clear hs hh hs2
      go_wp2
      go_roundw
      case rel => exact ⟨x / 2, k + 1, by go_num, by go_num, by omega, by omega, HS.out, trivial⟩
      case measure => simp [intOf]; omega
    · rw [width_small (by omega)] at hs
      have hk : k = W := by omega
      subst hk
      clear hs
      go_wp2
      go_ret
      exact ⟨rfl, rfl⟩

end Go.Proofs.Ytgnenelfbmpfgaa
