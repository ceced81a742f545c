/- EtabBound's walk. -/
import Derived.Test.YtkdfifkmgpogfaaEtTells
namespace Go.Proofs.Ytkdfifkmgpogfaa
open Go.RowKit

set_option maxHeartbeats 4000000 in
theorem etabBound_walk (v : Value) (xs : List Nat) (r x s : Nat) (w : World) (h : RdH w v xs) (hx : ∀ x ∈ xs, x < 65536) (hr : r < 256) (hx2 : x < 65536) (hs : s < 256) :
    Calls Try.prog 7 #[v, .int .u8 (r : Int), .int .u16 (x : Int), .int .u8 (s : Int)] w fun e w' => e = .returned (.bool true) ∧ Chg (fun _ => False) w w' := by
  obtain ⟨ao, cap, rfl⟩ := h.form
  have H := Lib.hid h; have HX := Lib.hid hx
  clear h hx
  go_enter Try.func7, Try.ntmps7
  go_wp2_with fail
  refine (awake12_any _).mono ?_
  rintro e w1 ⟨rfl, hc⟩
  have HC := Lib.hid hc
  clear hc
  by_cases h80 : 80 < xs.length
  · have d3 : decide (80 < (xs.length : Int)) = true := decide_eq_true (by omega)
    go_wp2
    go_ret
    exact ⟨rfl, HC.out⟩
  · have d3 : decide (80 < (xs.length : Int)) = false := decide_eq_false (by omega)
    go_wp2_with fail
    refine (r8some_any _ xs r _ (H.out.kept HC.out (by simp)) HX.out (by omega) hr).mono ?_
    rintro e w2 ⟨v2, q, k, rfl, ho, hq, hk5, hk9, hc2⟩
    replace HC := Lib.hid (HC.out.trans hc2 fun _ _ h => h)
    have HQ := Lib.hid hq
    have HNW := Lib.hid (enew_any _ q w2 ho.rd hq.bnd (by rw [hq.1]; omega))
    have HRQ := Lib.hid ho.rd
    obtain ⟨g, off, cap2, rfl, -⟩ := ho
    have hn6 := hq.1
    obtain ⟨n, hn⟩ : ∃ n, q.length = n := ⟨_, rfl⟩
    rw [hn] at HNW HRQ hn6 ⊢
    have HK9 := Lib.hid hk9; have HK5 := Lib.hid hk5; have HN6 := Lib.hid hn6
    have hk64 : (k : Int) < 64 := by omega
    have hlog := hq.log
    have HK0 := Lib.hid (show logI (totalI q) ≠ 0 by rw [hlog]; omega)
    clear hq hc2 hk5 hk9 hn hn6
    go_wp2_with fail
    refine (HNW.out).mono ?_
    rintro e w3 ⟨-, hyes, hc3⟩
    obtain ⟨a, rfl, hok⟩ := hyes HK0.out
    replace HC := Lib.hid (HC.out.trans hc3 fun _ _ h => h)
    replace HRQ := Lib.hid (HRQ.out.kept hc3 (by simp))
    have HOK := Lib.hid hok
    clear hyes hok hc3 HNW
    have hsum := HQ.out.sum
    have hk12 : k ≤ 12 := by have := HK9.out; omega
    have hsz := HQ.out.size
    have hfl := f_le (f := fq q) (R := k) hsum hs
    have hfle := HQ.out.le s
    have hnear := fun d hd => place_near (f := fq q) (N := 256) (s := s) (d := d) hs hd
    have hroom := fun d hd => place_room (f := fq q) (N := 256) (s := s) (d := d) hs hd
    rw [hsum] at hnear hroom
    have hsn : (s : Int) < (n : Int) := by have := HN6.out; omega
    have hpos : 0 < fq q s → 0 < countTo (fun t => decide (0 < fq q t)) 256 := fun h => countTo_some hs (decide_eq_true h)
    have hcle := countTo_le (fun t => decide (0 < fq q t)) 256
    obtain ⟨L, hL⟩ : ∃ L, 2 ^ k = L := ⟨_, rfl⟩
    have hL0 : 0 < L := by rw [← hL]; exact Nat.two_pow_pos k
    have hLI : (2 : Int) ^ k = (L : Int) := by rw [← hL]; simp
    rw [hL] at hsz hnear hroom hfl
    obtain ⟨y, hy⟩ : ∃ y, x % L = y := ⟨_, rfl⟩
    have hyL : y < L := by rw [← hy]; exact Nat.mod_lt _ hL0
    have hyI : (x : Int) % (L : Int) = (y : Int) := by rw [← hy]; rfl
    have hyT : (x : Int).tmod (L : Int) = (y : Int) := by rw [Int.tmod_eq_emod_of_nonneg (by omega)]; exact hyI
    have hLne : ((L : Int) == 0) = false := by simp; omega
    have hLne2 : ¬ (L : Int) = 0 := by omega
    have hL4 : (L : Int) ≤ 4096 := by omega
    have hxI : (x : Int) < 65536 := by omega
    have hyL4 : (y : Int) < 4096 := by omega
    have HST := Lib.hid (estep_any a q k (y : Int) s w3 HOK.out HQ.out hs (by omega))
    have HMY := Lib.hid fun W (hW : Chg (fun _ => False) w3 W) => r12many_any _ q k W (HRQ.out.kept hW (by simp)) HQ.out
    have HCELL := Lib.hid fun W (hW : Chg (fun _ => False) w3 W) => HQ.out.cell (HRQ.out.kept hW (by simp)) s hs
    obtain ⟨M, hM⟩ : ∃ M, countTo (fun t => decide (0 < fq q t)) 256 = M := ⟨_, rfl⟩
    obtain ⟨F, hF⟩ : ∃ F, fq q s = F := ⟨_, rfl⟩
    rw [hM] at HMY hcle hnear hpos
    rw [hF] at HCELL hfl hfle hnear hroom hpos
    have HNEAR := Lib.hid hnear; have HROOM := Lib.hid hroom; have HL := Lib.hid hL; have HF := Lib.hid hF; have HYL := Lib.hid hyL; have HFL := Lib.hid hfl; have HPOS := Lib.hid hpos
    have hM6 : (M : Int) ≤ 256 := by omega
    have hF4 : (F : Int) ≤ 4096 := by omega
    clear hsum hL hL0 hsz hy hyL hfl hlog hnear hroom hM hF hcle hpos hfle
    go_wp2_with fail
    refine (HST.out).mono ?_
    rintro e w4 ⟨he, hc4⟩
    have hcell := HCELL.out w4 hc4
    replace HC := Lib.hid (HC.out.trans hc4 fun _ _ h => h)
    have HMY4 := Lib.hid (HMY.out w4 hc4)
    clear hc4 HST HCELL HMY
    by_cases h0 : F = 0
    · have hno : ¬ eCan q k (y : Int) s := fun hh => by have := hh.2.2; rw [HF.out] at this; omega
      obtain rfl := he.1 hno
      subst h0
      clear he hno
      go_wp2
      go_ret
      exact ⟨rfl, HC.out⟩
    · have hyes : eCan q k (y : Int) s := ⟨by omega, by rw [HL.out]; have := HYL.out; omega, by rw [HF.out]; omega⟩
      obtain ⟨m, hm, rfl⟩ := he.2 hyes
      rw [Int.toNat_natCast, HF.out, HL.out] at hm
      rw [Int.toNat_natCast, HL.out]
      have hml : m ≤ k := by
        refine lefts_le (R := k) (q := F) (x := y) (n := m) (by omega) (by rw [HL.out]; exact HFL.out) (by rw [HL.out]; exact HYL.out) (by rw [HL.out]; exact hm)
      have hMp := HPOS.out (by omega)
      have hdm := Nat.div_add_mod (L + y) (2 ^ m)
      have hdl := Nat.div_le_self (L + y) (2 ^ m)
      have hmdl := Nat.mod_le (L + y) (2 ^ m)
      obtain ⟨h1, h2⟩ := hm
      obtain ⟨A, hA⟩ : ∃ A, L + y = A := ⟨_, rfl⟩
      have hAI : (L : Int) + (y : Int) = (A : Int) := by omega
      rw [hA] at hdm h1 h2 hdl hmdl ⊢
      have hA8 : (A : Int) < 8192 := by have := HYL.out; omega
      have hdivI : (A : Int) / 2 ^ m = ((A / 2 ^ m : Nat) : Int) := by simp
      obtain ⟨i, hi⟩ : ∃ i, A / 2 ^ m = i := ⟨_, rfl⟩
      obtain ⟨lo, hlo⟩ : ∃ lo, A % 2 ^ m = lo := ⟨_, rfl⟩
      rw [hi] at hdm h1 h2 hdl hdivI ⊢
      rw [hlo] at hdm hmdl ⊢
      obtain ⟨B, hB⟩ : ∃ B, 2 ^ m = B := ⟨_, rfl⟩
      rw [hB] at hdm
      have hBI : (2 : Int) ^ m = (B : Int) := by rw [← hB]; simp
      obtain ⟨iB, hiB⟩ : ∃ iB, i * B = iB := ⟨_, rfl⟩
      have hiBI : (i : Int) * (B : Int) = (iB : Int) := by rw [← hiB]; simp
      have hiBA : (iB : Int) + (lo : Int) = (A : Int) := by rw [← hiB, Nat.mul_comm]; omega
      obtain ⟨nr1, nr2⟩ := HNEAR.out (i - F) (by omega)
      have hrm := HROOM.out (i - F) (by omega)
      rw [show F + (i - F) = i by omega] at nr1 nr2 hrm
      obtain ⟨P, hP⟩ : ∃ P, placeF (fq q) 256 s i = P := ⟨_, rfl⟩
      rw [hP] at nr1 nr2 hrm ⊢
      obtain ⟨C, hC⟩ : ∃ C, L + P = C := ⟨_, rfl⟩
      have hCI : (L : Int) + (P : Int) = (C : Int) := by omega
      obtain ⟨X, hX⟩ : ∃ X, C * F = X := ⟨_, rfl⟩
      have hXI : (C : Int) * (F : Int) = (X : Int) := by rw [← hX]; simp
      obtain ⟨Y, hY⟩ : ∃ Y, i * L = Y := ⟨_, rfl⟩
      have hYI : (i : Int) * (L : Int) = (Y : Int) := by rw [← hY]; simp
      obtain ⟨D, hD⟩ : ∃ D, L + M - 1 = D := ⟨_, rfl⟩
      have hDI : (L : Int) + (M : Int) - 1 = (D : Int) := by omega
      obtain ⟨Z, hZ⟩ : ∃ Z, i * D = Z := ⟨_, rfl⟩
      have hZI : (i : Int) * (D : Int) = (Z : Int) := by rw [← hZ]; simp
      have hXZ : X ≤ Z := by
        rw [hC, hX, hY] at nr2
        have e1 : i * D = Y + i * (M - 1) := by rw [← hY, ← Nat.mul_add]; congr 1; omega
        have e2 : F * (M - 1) ≤ i * (M - 1) := Nat.mul_le_mul_right _ h1
        have e3 : M * F = F * (M - 1) + F := by
          have : M = (M - 1) + 1 := by omega
          rw [this, Nat.succ_mul, Nat.mul_comm]; simp
        omega
      have hYX : Y ≤ X := by rw [hC, hX, hY] at nr1; exact nr1
      have hXb : X ≤ 33554432 := by rw [← hX]; exact Nat.le_trans (Nat.mul_le_mul (show C ≤ 8192 by omega) (show F ≤ 4096 by omega)) (by decide)
      have hZb : Z ≤ 134217728 := by rw [← hZ]; exact Nat.le_trans (Nat.mul_le_mul (show i ≤ 8192 by omega) (show D ≤ 16384 by omega)) (by decide)
      have hmI : (m : Int) ≤ (k : Int) := by omega
      have hk12I : (k : Int) ≤ 12 := by omega
      have hmN : ¬ k < m := by omega
      have h0' : ((F : Int) == 0) = false := by simp; omega
      have hi8 : (i : Int) < 8192 := by omega
      have hlo8 : (lo : Int) < 8192 := by omega
      have d1 : decide ((m : Int) < 0) = false := decide_eq_false (by omega)
      have d2 : decide ((k : Int) < (m : Int)) = false := decide_eq_false (by omega)
      have d3 : F ≤ i := h1
      have d4 : decide ((i : Int) < 2 * (F : Int)) = true := decide_eq_true (by omega)
      have hP4 : (P : Int) < 4096 := by omega
      have hC8 : (C : Int) < 8192 := by omega
      have hD8 : (D : Int) < 8192 := by omega
      have hXb' : (X : Int) ≤ 33554432 := by omega
      have hYb' : (Y : Int) ≤ 33554432 := by omega
      have hZb' : (Z : Int) ≤ 134217728 := by omega
      have hiBb : (iB : Int) < 8192 := by omega
      clear he hyes hml hdm hdl hmdl h1 h2 hA hi hlo hB hiB nr1 nr2 hrm hP hC hX hY hD hZ HNEAR HROOM HPOS hMp hXb hZb h0
      rw [hBI] at hdivI
      have hm64 : (m : Int) < 64 := by omega
      go_wp2_with fail
      refine (HMY4.out).mono ?_
      rintro e w5 ⟨rfl, rfl⟩
      clear HMY4
      go_wp2
      go_ret
      exact ⟨rfl, HC.out⟩

end Go.Proofs.Ytkdfifkmgpogfaa
