/- What logs' Floor, Ceil, Width and Pick tell. THIS ALONE SPEAKS OF THE PROGRAM'S OWN TEXT. -/
import Derived.Test.YtgnenelfbmpfgaaHsBase
import Derived.Test.YtgnenelfbmpfgaaLgMath
import Derived.Test.YtgnenelfbmpfgaaLgLen
namespace Go.Proofs.Ytgnenelfbmpfgaa
open Go.RowKit

theorem bitLen_width {n : Int} (h : 1 ≤ n) : bitLen n.toNat = widthI n := by
  unfold bitLen widthI
  rw [if_neg (by omega), if_neg (by omega)]

theorem lwidth_w (n : Int) (w : World) (hn : n ≤ 1099511627776) (hlo : -9223372036854775808 ≤ n) :
    Calls Try.prog 25 #[.int .i64 n] w fun e w' => e = .returned (.int .i64 ((widthI n : Nat) : Int)) ∧ w' = w := by
  by_cases h1 : n < 1
  · have hw := width_small h1
    go_enter Try.func25, Try.ntmps25
    go_wp2
    go_ret
    rw [hw]
    exact ⟨rfl, rfl⟩
  · have hw := bitLen_width (n := n) (by omega)
    have H := fun w => len_any n (by omega) (by omega) w
    have hm : n % 18446744073709551616 = n := by omega
    go_enter Try.func25, Try.ntmps25
    go_wp2_with fail
    refine (H _).mono ?_
    rintro e w' ⟨rfl, rfl⟩
    go_wp2
    go_ret
    exact ⟨rfl, rfl⟩

theorem lwidth_any (n : Int) (w : World) (hn : n ≤ 1099511627776) (hlo : -9223372036854775808 ≤ n) :
    Calls Try.prog 25 #[.int .i64 n] w fun e w' => e = .returned (.int .i64 ((widthI n : Nat) : Int)) ∧ Chg (fun _ => False) w w' :=
  (lwidth_w n w hn hlo).mono fun _ _ h => ⟨h.1, h.2 ▸ Chg.refl _ _⟩
theorem foldl_take_succ (a : Int) (zs : List Int) (k : Nat) (hk : k < zs.length) : (zs.take (k + 1)).foldl max a = max ((zs.take k).foldl max a) (zs.getD k 0) := by
  rw [List.take_add_one, List.foldl_append]
  simp [List.getElem?_eq_getElem hk]

end Go.Proofs.Ytgnenelfbmpfgaa
