/- What math/bits.Len64 and math/bits.Len tell of any number. -/
import Derived.Test.YtgnenelfbmpfgaaBwBase
import Derived.Laws.MathBits
namespace Go.Proofs.Ytgnenelfbmpfgaa
open Go.RowKit

theorem len_fin {x y c : Int} (b : Nat) (hc : c = (b : Int)) (hb : b ≤ 56) (hy : y.toNat = x.toNat / 2 ^ b) (hy1 : 1 ≤ y) (hy2 : y < 256) : wrap64 (c + wrap64 ((bitLen y.toNat : Nat) : Int)) = ((bitLen x.toNat : Nat) : Int) := by
  have h8 := bitLen_le8 y.toNat (by omega)
  have hs := bitLen_shift x.toNat b (by omega)
  rw [← hy] at hs
  rw [hs, hc]
  generalize bitLen y.toNat = l at *
  unfold wrap64
  omega

set_option maxRecDepth 100000 in
set_option maxHeartbeats 4000000 in
theorem len64_any (x : Int) (h0 : 0 ≤ x) (hx : x ≤ 18446744073709551615) (w : World) : Calls Try.prog 43 #[.int .u64 x] w fun e w' => e = .returned (.int .i64 (bitLen x.toNat : Int)) ∧ w' = w := by
  go_enter Try.func43, Try.ntmps43
  go_wp2
  all_goals rw [len8tab_get]
  all_goals go_ret
  all_goals refine ⟨congrArg (fun z => Ending.returned (Value.int .i64 z)) ?_, rfl⟩
  · exact len_fin 56 rfl (by decide) (by omega) (by omega) (by omega)
  · exact len_fin 48 rfl (by decide) (by omega) (by omega) (by omega)
  · exact len_fin 40 rfl (by decide) (by omega) (by omega) (by omega)
  · exact len_fin 32 rfl (by decide) (by omega) (by omega) (by omega)
  · exact len_fin 24 rfl (by decide) (by omega) (by omega) (by omega)
  · exact len_fin 16 rfl (by decide) (by omega) (by omega) (by omega)
  · exact len_fin 8 rfl (by decide) (by omega) (by omega) (by omega)
  · have h8 := bitLen_le8 x.toNat (by omega)
    generalize bitLen x.toNat = l at *
    unfold wrap64
    omega

theorem len_any (x : Int) (h0 : 0 ≤ x) (hx : x ≤ 18446744073709551615) (w : World) : Calls Try.prog 38 #[.int .u64 x] w fun e w' => e = .returned (.int .i64 (bitLen x.toNat : Int)) ∧ w' = w := by
  have H := fun w => len64_any x h0 hx w
  go_enter Try.func38, Try.ntmps38
  go_wp2_with fail
  refine (H _).mono ?_
  rintro e w' ⟨rfl, rfl⟩
  go_wp2
  go_ret
  exact ⟨rfl, rfl⟩

end Go.Proofs.Ytgnenelfbmpfgaa
