/- SpreadNear's walk. -/
import Derived.Test.YtecnkbneelafkaaSpPlaces
namespace Go.Proofs.Ytecnkbneelafkaa
open Go.RowKit

theorem key_at {q : List Int} {k t j : Nat} (hq : NormQ q k) (ht : t < 256) (h1 : fq q t ≤ j) (h2 : j < 2 * fq q t) : isKey q (t : Int) (j : Int) ∧ placeI q (t : Int) (j : Int) = placeF (fq q) 256 t j := by
  have hk : isKey q (t : Int) (j : Int) := by
    refine ⟨by rw [hq.log]; have := hq.2.2.2.1; omega, by omega, by omega, ?_, ?_⟩ <;> rw [Int.toNat_natCast, hq.at t] <;> omega
  exact ⟨hk, by unfold placeI; rw [if_pos hk, Int.toNat_natCast, Int.toNat_natCast]⟩
set_option maxHeartbeats 2000000 in
theorem spreadNear_walk (v : Value) (xs : List Nat) (r s i : Nat) (w : World) (h : RdH w v xs) (hx : ∀ x ∈ xs, x < 65536) (hr : r < 256) (hs : s < 256) (hi : i < 65536) :
    Calls Try.prog 6 #[v, .int .u8 (r : Int), .int .u8 (s : Int), .int .u16 (i : Int)] w fun e w' => e = .returned (.bool true) ∧ Chg (fun _ => False) w w' := by
  obtain ⟨ao, cap, rfl⟩ := h.form
  have H := Lib.hid h; have HX := Lib.hid hx
  clear h hx
  go_enter Try.func6, Try.ntmps6
  go_wp2_with fail
  refine (awake10_any _).mono ?_
  rintro e w1 ⟨rfl, hc⟩
  have HC := Lib.hid hc
  clear hc
  by_cases h80 : 80 < xs.length
  · have d3 : decide (80 < (xs.length : Int)) = true := decide_eq_true (by omega)
    go_wp2
    go_ret
    exact ⟨rfl, HC.out⟩
  · have d3 : decide (80 < (xs.length : Int)) = false := decide_eq_false (by omega)
    go_wp2_with fail
    refine (r8some_any _ xs r _ (H.out.kept HC.out (by simp)) HX.out (by omega) hr).mono ?_
    rintro e w2 ⟨v2, q, k, rfl, ho, hq, hk5, hk9, hc2⟩
    replace HC := Lib.hid (HC.out.trans hc2 fun _ _ h => h)
    have HRQ := Lib.hid ho.rd; have HQ := Lib.hid hq; have HBD := Lib.hid hq.bnd
    obtain ⟨g, off, cap2, rfl, -⟩ := ho
    have h256 := hq.1
    obtain ⟨n, hn⟩ : ∃ n, q.length = n := ⟨_, rfl⟩
    rw [hn] at HRQ h256 ⊢
    have hsum := hq.sum
    have hsz := hq.size
    obtain ⟨L, hL⟩ : ∃ L, 2 ^ k = L := ⟨_, rfl⟩
    rw [hL] at hsum hsz
    have hLI : (2 : Int) ^ k = (L : Int) := by rw [← hL]; simp
    have HN := Lib.hid h256; have HNQ := Lib.hid hn; have HSUM := Lib.hid hsum
    have HK9 := Lib.hid hk9; have HK5 := Lib.hid hk5
    have hk64 : (k : Int) < 64 := by omega
    clear hq hc2 hk5 hk9 hn h256 hL hsum
    go_wp2
    clear hLI
    obtain ⟨p, hp⟩ : ∃ p : Nat → Bool, p = fun t => decide (0 < fq q t) := ⟨_, rfl⟩
    have hpa : ∀ t, p t = decide (0 < fq q t) := fun t => by rw [hp]
    have HP := Lib.hid hp; have HPA := Lib.hid hpa
    clear hp hpa
    go_loopw [13, 14] (fun o13 o14 wr => ∃ t : Nat, t ≤ 256 ∧ o14 = .int .i64 (t : Int) ∧ o13 = .int .i64 ((countTo p t : Nat) : Int) ∧ wr = w2) (fun _ o14 _ => 256 - (intOf o14).toNat)
    case atStart => exact ⟨0, Nat.zero_le _, rfl, rfl, rfl⟩
    case round =>
      obtain ⟨t, ht, rfl, rfl, rfl⟩ := hrel
      have hcl := countTo_le p t
      have hcs : countTo p (t + 1) = countTo p t + if p t then 1 else 0 := rfl
      rw [HPA.out t] at hcs
      obtain ⟨c, hc⟩ : ∃ c, countTo p t = c := ⟨_, rfl⟩
      rw [hc] at hcl hcs ⊢
      have HCC := Lib.hid hc
      clear hc
      by_cases hlt : t < 256
      · have hcell := HQ.out.cell HRQ.out t hlt
        have dl : decide ((t : Int) < 256) = true := decide_eq_true (by omega)
        have htn : (t : Int) < (n : Int) := by have := HN.out; omega
        obtain ⟨F, hF⟩ : ∃ F, fq q t = F := ⟨_, rfl⟩
        rw [hF] at hcell hcs
        clear hF
        by_cases h0 : 0 < F
        · rw [decide_eq_true h0] at hcs
          have HCS := Lib.hid hcs
          clear hcs
          go_wp2
          go_roundw
          case rel => exact ⟨t + 1, by omega, by go_num, by rw [HCS.out]; go_num, trivial⟩
          case measure => simp [intOf]; omega
        · rw [decide_eq_false h0] at hcs
          have HCS := Lib.hid hcs
          have d0 : F = 0 := by omega
          clear hcs
          subst d0
          go_wp2
          go_roundw
          case rel => exact ⟨t + 1, by omega, by go_num, by rw [HCS.out]; go_num, trivial⟩
          case measure => simp [intOf]; omega
      · have ht6 : t = 256 := by omega
        have dl : decide ((t : Int) < 256) = false := decide_eq_false (by omega)
        have hM : countTo p 256 = c := by rw [← ht6]; exact HCC.out
        have HM := Lib.hid hM
        have hcell := HQ.out.cell HRQ.out s hs
        have hle := HQ.out.le s
        have hsn : (s : Int) < (n : Int) := by have := HN.out; omega
        have hnear := fun d hd => place_near (f := fq q) (N := 256) (s := s) (d := d) hs hd
        have hkey := fun j h1 h2 => key_at (j := j) HQ.out hs h1 h2
        have hroom := fun d hd => place_room (f := fq q) (N := 256) (s := s) (d := d) hs hd
        rw [HSUM.out] at hnear hroom
        rw [show countTo (fun t => decide (0 < fq q t)) 256 = c by rw [← HP.out]; exact hM] at hnear
        have hpos : 0 < fq q s → 0 < c := fun h => by
          rw [← hM]
          exact countTo_some hs (by rw [HPA.out]; exact decide_eq_true h)
        obtain ⟨F, hF⟩ : ∃ F, fq q s = F := ⟨_, rfl⟩
        rw [hF] at hcell hle hnear hkey hpos hroom
        have HF := Lib.hid hF
        have HNEAR := Lib.hid hnear; have HKEY := Lib.hid hkey; have HROOM := Lib.hid hroom
        clear hF hnear hkey hM ht6 hcs hroom
        by_cases h0 : F = 0
        · subst h0
          go_wp2
          go_ret
          exact ⟨rfl, HC.out⟩
        · have hc1 := hpos (by omega)
          have h0' : ((F : Int) == 0) = false := by simp; omega
          have hFne : ¬ (F : Int) = 0 := by omega
          obtain ⟨d, hd⟩ : ∃ d, i % F = d := ⟨_, rfl⟩
          have hdF : d < F := by rw [← hd]; exact Nat.mod_lt _ (by omega)
          have hdI : (i : Int) % (F : Int) = (d : Int) := by rw [← hd]; rfl
          have hdT : (i : Int).tmod (F : Int) = (d : Int) := by rw [Int.tmod_eq_emod_of_nonneg (by omega)]; exact hdI
          obtain ⟨N, hN⟩ : ∃ N, F + d = N := ⟨_, rfl⟩
          have hNI : (F : Int) + (d : Int) = (N : Int) := by omega
          have hN8 : N ≤ 8192 := by omega
          have hkey := HKEY.out N (by omega) (by omega)
          have hnear := HNEAR.out d hdF
          have hroom := HROOM.out d hdF
          rw [hN] at hnear hroom
          have HK1 := Lib.hid hkey.1; have HK2 := Lib.hid hkey.2
          obtain ⟨P, hP⟩ : ∃ P, placeF (fq q) 256 s N = P := ⟨_, rfl⟩
          rw [hP] at HK2 hnear hroom
          clear hkey HKEY HNEAR HROOM hpos hd hN
          have hspl := fun m => splace_any _ q (s : Int) (N : Int) (wr.drewN m) (HRQ.out.kept ((Chg.refl (fun _ => False) wr).drewN m) (by simp)) HBD.out (by rw [HNQ.out, HN.out]; omega) (by omega) (by omega)
          rw [decide_eq_true HK1.out, HK2.out] at hspl
          have HSPL := Lib.hid hspl
          have HNE := Lib.hid hnear
          clear hspl hnear hP HK1 HK2
          obtain ⟨A, hA⟩ : ∃ A, L + P = A := ⟨_, rfl⟩
          have hAI : (L : Int) + (P : Int) = (A : Int) := by omega
          obtain ⟨X, hX⟩ : ∃ X, A * F = X := ⟨_, rfl⟩
          have hXI : (A : Int) * (F : Int) = (X : Int) := by rw [← hX]; simp
          obtain ⟨Y, hY⟩ : ∃ Y, N * L = Y := ⟨_, rfl⟩
          have hYI : (N : Int) * (L : Int) = (Y : Int) := by rw [← hY]; simp
          obtain ⟨c1, hc1e⟩ : ∃ c1, c - 1 = c1 := ⟨_, rfl⟩
          have hc1I : (c : Int) - 1 = (c1 : Int) := by omega
          obtain ⟨B, hB⟩ : ∃ B, c1 * F = B := ⟨_, rfl⟩
          have hBI : (c1 : Int) * (F : Int) = (B : Int) := by rw [← hB]; simp
          have hXb : X ≤ 33554432 := by rw [← hX]; exact Nat.le_trans (Nat.mul_le_mul (show A ≤ 8192 by omega) hle) (by decide)
          have hYb : Y ≤ 33554432 := by rw [← hY]; exact Nat.le_trans (Nat.mul_le_mul hN8 hsz) (by decide)
          have hBb : B ≤ 33554432 := by rw [← hB]; exact Nat.le_trans (Nat.mul_le_mul (show c1 ≤ 8192 by omega) hle) (by decide)
          have hcF : c * F = B + F := by
            rw [← hB, ← Nat.succ_mul, show c1.succ = c by omega]
          have hn1 := HNE.out.1
          have hn2 := HNE.out.2
          rw [hA, hX, hY] at hn1 hn2
          rw [hcF] at hn2
          obtain ⟨z, hz⟩ : ∃ z, Y + B = z := ⟨_, rfl⟩
          have hzI : (Y : Int) + (B : Int) = (z : Int) := by omega
          have hxz : X ≤ z := by omega
          have hzb : z ≤ 67108864 := by omega
          clear hA hX hY hB hc1e hn2 hcF HNE hz
          go_wp2
          go_quiet (fail)
          go_wp2_with fail
          refine (HSPL.out nq).mono ?_
          rintro e w3 ⟨rfl, hc3⟩
          replace HC := Lib.hid ((HC.out.drewN nq).trans hc3 fun _ _ h => h)
          have hcell3 := HQ.out.cell (HRQ.out.kept (((Chg.refl (fun _ => False) wr).drewN nq).trans hc3 fun _ _ h => h) (by simp)) s hs
          rw [HF.out] at hcell3
          clear hc3 HSPL hcell
          go_wp2
          go_ret
          exact ⟨rfl, HC.out⟩

end Go.Proofs.Ytecnkbneelafkaa
