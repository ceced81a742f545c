/- SpreadPlaces' walk. -/
import Derived.Test.YtecnkbneelafkaaBase3
namespace Go.Proofs.Ytecnkbneelafkaa
open Go.RowKit

set_option maxHeartbeats 2000000 in
theorem spreadPlaces_walk (v : Value) (xs : List Nat) (r : Nat) (s i : Int) (w : World) (h : RdH w v xs) (hx : ∀ x ∈ xs, x < 65536) (hr : r < 256) (hs : -9223372036854775808 ≤ s ∧ s ≤ 9223372036854775807) (hi : -9223372036854775808 ≤ i ∧ i ≤ 9223372036854775807) :
    Calls Try.prog 4 #[v, .int .u8 (r : Int), .int .i64 s, .int .i64 i] w fun e w' => e = .returned (.bool true) ∧ Chg (fun _ => False) w w' := by
  obtain ⟨ao, cap, rfl⟩ := h.form
  have H := Lib.hid h; have HX := Lib.hid hx; have HS := Lib.hid hs; have HI := Lib.hid hi
  clear h hx hs hi
  go_enter Try.func4, Try.ntmps4
  go_wp2_with fail
  refine (awake10_any _).mono ?_
  rintro e w1 ⟨rfl, hc⟩
  have HC := Lib.hid hc
  clear hc
  by_cases h80 : 80 < xs.length
  · have d3 : decide (80 < (xs.length : Int)) = true := decide_eq_true (by omega)
    go_wp2
    go_ret
    exact ⟨rfl, HC.out⟩
  · have d3 : decide (80 < (xs.length : Int)) = false := decide_eq_false (by omega)
    go_wp2_with fail
    refine (r8some_any _ xs r _ (H.out.kept HC.out (by simp)) HX.out (by omega) hr).mono ?_
    rintro e w2 ⟨v2, q, k, rfl, ho, hq, hk5, hk9, hc2⟩
    replace HC := Lib.hid (HC.out.trans hc2 fun _ _ h => h)
    have HRQ := Lib.hid ho.rd; have HQ := Lib.hid hq; have HBD := Lib.hid hq.bnd
    obtain ⟨g, off, cap2, rfl, -⟩ := ho
    have h256 := hq.1
    obtain ⟨n, hn⟩ : ∃ n, q.length = n := ⟨_, rfl⟩
    rw [hn] at HRQ h256 ⊢
    have HN := Lib.hid h256; have HNQ := Lib.hid hn
    clear hq hc2 hk5 hk9 hn h256
    go_wp2_with fail
    refine (splace_any _ q s i _ HRQ.out HBD.out (by rw [HNQ.out, HN.out]; omega) HS.out HI.out).mono ?_
    rintro e w3 ⟨rfl, hc3⟩
    replace HC := Lib.hid (HC.out.trans hc3 fun _ _ h => h)
    replace HRQ := Lib.hid (HRQ.out.kept hc3 (by simp))
    clear hc3
    have hlg : logI (totalI q) ≠ 0 := by rw [HQ.out.log]; have := HQ.out.2.2.2.1; omega
    by_cases hs0 : 0 ≤ s
    · by_cases hs1 : s ≤ 255
      · obtain ⟨t, rfl⟩ := Int.eq_ofNat_of_zero_le hs0
        have ht : t < 256 := by omega
        have hat := HQ.out.at t
        have hle := HQ.out.le t
        have hcell : w3.cell? ⟨g, off + t, none⟩ = some (.int .i64 ((fq q t : Nat) : Int)) := by
          obtain ⟨g', off', he, hc⟩ := HRQ.out.at t (by rw [HNQ.out, HN.out]; exact ht)
          simp only [Option.some.injEq, Addr.mk.injEq] at he
          obtain ⟨rfl, rfl, -⟩ := he
          rw [hat] at hc
          exact hc
        have hkey : isKey q (t : Int) i ↔ ((fq q t : Nat) : Int) ≤ i ∧ i < 2 * ((fq q t : Nat) : Int) := by
          unfold isKey
          rw [Int.toNat_natCast, hat]
          exact ⟨fun h => h.2.2.2, fun h => ⟨hlg, by omega, by omega, h⟩⟩
        have hpl : isKey q (t : Int) i → placeI q (t : Int) i = placeF (fq q) 256 t i.toNat := fun h => by unfold placeI; rw [if_pos h, Int.toNat_natCast]
        have hpn : ¬ isKey q (t : Int) i → placeI q (t : Int) i = 0 := fun h => by unfold placeI; rw [if_neg h]
        have HKEY := Lib.hid hkey; have HPL := Lib.hid hpl; have HPN := Lib.hid hpn
        have htn : (t : Int) < (n : Int) := by have := HN.out; omega
        have hRP := Lib.hid fun (j : Nat) (hj : j ≤ 8192) => r10place_any _ q k t j w3 HRQ.out HQ.out ht hj
        obtain ⟨F, hF⟩ : ∃ F, fq q t = F := ⟨_, rfl⟩
        rw [hF] at hcell HKEY hle
        clear hkey hpl hpn hat hF hlg hs0 hs1
        by_cases h0 : 0 < F
        · by_cases h1 : (F : Int) ≤ i
          · by_cases h2 : i < 2 * (F : Int)
            · have hk := HKEY.out.2 ⟨h1, h2⟩
              rw [HPL.out hk, decide_eq_true hk]
              obtain ⟨j, rfl⟩ := Int.eq_ofNat_of_zero_le (show 0 ≤ i by omega)
              rw [Int.toNat_natCast]
              have hrp := hRP.out j (by omega)
              have HRP := Lib.hid hrp
              obtain ⟨P, hP⟩ : ∃ P, placeF (fq q) 256 t j = P := ⟨_, rfl⟩
              rw [hP] at HRP ⊢
              clear hk hrp hP hRP HKEY HPL HPN
              go_wp2_with fail
              refine HRP.out.mono ?_
              rintro e w4 ⟨rfl, m, rfl⟩
              go_wp2
              go_ret
              exact ⟨rfl, HC.out.drewN m⟩
            · have hk : ¬ isKey q (t : Int) i := fun hh => h2 (HKEY.out.1 hh).2
              have d5 : decide (i < 2 * (F : Int)) = false := decide_eq_false h2
              rw [HPN.out hk, decide_eq_false hk]
              clear hk hRP HKEY HPL HPN
              go_wp2
              go_ret
              exact ⟨rfl, HC.out⟩
          · have hk : ¬ isKey q (t : Int) i := fun hh => h1 (HKEY.out.1 hh).1
            have d5 : decide ((F : Int) ≤ i) = false := decide_eq_false h1
            rw [HPN.out hk, decide_eq_false hk]
            clear hk hRP HKEY HPL HPN
            go_wp2
            go_ret
            exact ⟨rfl, HC.out⟩
        · have hk : ¬ isKey q (t : Int) i := fun hh => by have := HKEY.out.1 hh; omega
          have h0' : F = 0 := by omega
          rw [HPN.out hk, decide_eq_false hk]
          clear hk hRP HKEY HPL HPN
          subst h0'
          go_wp2
          go_ret
          exact ⟨rfl, HC.out⟩
      · have hk : ¬ isKey q s i := fun hh => hs1 hh.2.2.1
        have d5 : decide (s ≤ 255) = false := decide_eq_false hs1
        rw [show placeI q s i = 0 by unfold placeI; rw [if_neg hk], decide_eq_false hk]
        clear hk hlg
        go_wp2
        go_ret
        exact ⟨rfl, HC.out⟩
    · have hk : ¬ isKey q s i := fun hh => hs0 hh.2.1
      have d5 : decide (0 ≤ s) = false := decide_eq_false hs0
      rw [show placeI q s i = 0 by unfold placeI; rw [if_neg hk], decide_eq_false hk]
      clear hk hlg
      go_wp2
      go_ret
      exact ⟨rfl, HC.out⟩

end Go.Proofs.Ytecnkbneelafkaa
