/- EtabBack's walk. -/
import Derived.Test.YtkdfifkmgpogfaaEtTells
import Derived.Test.YtkdfifkmgpogfaaDtAwake
namespace Go.Proofs.Ytkdfifkmgpogfaa
open Go.RowKit

/-- a table's cell at a key's place -/
theorem IsDtab.key {f : Nat → Nat} {R s i : Nat} {l : List Cl} (h : IsDtab f R l) (hsum : sumTo f 256 = 2 ^ R) (hs : s < 256) (h1 : f s ≤ i) (h2 : i < 2 * f s) : placeF f 256 s i < 2 ^ R ∧ l.getD (placeF f 256 s i) cl0 = cellOf R s i := by
  have hr := place_room (f := f) (N := 256) (s := s) (d := i - f s) hs (by omega)
  have ha := h.at' s (i - f s) hs (by omega)
  rw [show f s + (i - f s) = i by omega] at hr ha
  rw [hsum] at hr
  exact ⟨hr, ha⟩

set_option maxHeartbeats 4000000 in
theorem etabBack_walk (v : Value) (xs : List Nat) (r x s : Nat) (w : World) (h : RdH w v xs) (hx : ∀ x ∈ xs, x < 65536) (hr : r < 256) (hx2 : x < 65536) (hs : s < 256) :
    Calls Try.prog 5 #[v, .int .u8 (r : Int), .int .u16 (x : Int), .int .u8 (s : Int)] w fun e w' => e = .returned (.bool true) ∧ Chg (fun _ => False) w w' := by
  obtain ⟨ao, cap, rfl⟩ := h.form
  have H := Lib.hid h; have HX := Lib.hid hx
  clear h hx
  go_enter Try.func5, Try.ntmps5
  go_wp2_with fail
  refine (awake12_any _).mono ?_
  rintro e w1 ⟨rfl, hc⟩
  have HC := Lib.hid hc
  clear hc
  by_cases h80 : 80 < xs.length
  · have d3 : decide (80 < (xs.length : Int)) = true := decide_eq_true (by omega)
    go_wp2
    go_ret
    exact ⟨rfl, HC.out⟩
  · have d3 : decide (80 < (xs.length : Int)) = false := decide_eq_false (by omega)
    go_wp2_with fail
    refine (r8some_any _ xs r _ (H.out.kept HC.out (by simp)) HX.out (by omega) hr).mono ?_
    rintro e w2 ⟨v2, q, k, rfl, ho, hq, hk5, hk9, hc2⟩
    replace HC := Lib.hid (HC.out.trans hc2 fun _ _ h => h)
    have HQ := Lib.hid hq
    have HNW := Lib.hid (enew_any _ q w2 ho.rd hq.bnd (by rw [hq.1]; omega))
    have HOF := Lib.hid fun W (hW : Chg (fun _ => False) w2 W) => dof_any _ q W (ho.rd.kept hW (by simp)) hq.bnd (by rw [hq.1]; omega)
    have HRQ := Lib.hid ho.rd
    obtain ⟨g, off, cap2, rfl, -⟩ := ho
    have hn6 := hq.1
    obtain ⟨n, hn⟩ : ∃ n, q.length = n := ⟨_, rfl⟩
    rw [hn] at HNW HOF HRQ hn6 ⊢
    have HK9 := Lib.hid hk9; have HK5 := Lib.hid hk5; have HN6 := Lib.hid hn6
    have hk64 : (k : Int) < 64 := by omega
    have hlog := hq.log
    have HK0 := Lib.hid (show logI (totalI q) ≠ 0 by rw [hlog]; omega)
    clear hq hc2 hk5 hk9 hn hn6
    go_wp2_with fail
    refine (HNW.out).mono ?_
    rintro e w3 ⟨-, hyes, hc3⟩
    obtain ⟨a, rfl, hok⟩ := hyes HK0.out
    have HOF3 := Lib.hid (HOF.out w3 hc3)
    have HC23 := Lib.hid hc3
    have HOK := Lib.hid hok
    clear hyes hok hc3 HNW HOF
    go_wp2_with fail
    refine (HOF3.out).mono ?_
    rintro e w4 ⟨v4, rfl, hyes, -, hc4⟩
    rw [if_neg HK0.out]
    obtain ⟨c, hrd, hdt⟩ := hyes HK0.out
    rw [hlog] at hdt
    have hc24 := HC23.out.trans hc4 fun _ _ h => h
    replace HC := Lib.hid (HC.out.trans hc24 fun _ _ h => h)
    replace HRQ := Lib.hid (HRQ.out.kept hc24 (by simp))
    replace HOK := Lib.hid (HOK.out.kept hc4)
    have hsum := HQ.out.sum
    have hk12 : k ≤ 12 := by have := HK9.out; omega
    have hsz := HQ.out.size
    have hft := hdt.fits hsum hk12
    have hlen := hdt.len
    have hbo := fun a => hdt.baseOk hsum hk12 a
    have hkey := fun i h1 h2 => hdt.key hsum (s := s) (i := i) hs h1 h2
    have hfl := f_le (f := fq q) (R := k) hsum hs
    have hcell := HQ.out.cell HRQ.out s hs
    have hsn : (s : Int) < (n : Int) := by have := HN6.out; omega
    obtain ⟨L, hL⟩ : ∃ L, 2 ^ k = L := ⟨_, rfl⟩
    have hL0 : 0 < L := by rw [← hL]; exact Nat.two_pow_pos k
    have hLI : (2 : Int) ^ k = (L : Int) := by rw [← hL]; simp
    obtain ⟨ao4, cap4, rfl⟩ := hrd.form
    rw [hL] at hlen hsz
    obtain ⟨g4, off4, rfl, -⟩ := hrd.at 0 (by rw [hlen]; exact hL0)
    rw [hlen] at hrd ⊢
    obtain ⟨y, hy⟩ : ∃ y, x % L = y := ⟨_, rfl⟩
    have hyL : y < L := by rw [← hy]; exact Nat.mod_lt _ hL0
    have hyI : (x : Int) % (L : Int) = (y : Int) := by rw [← hy]; rfl
    have hyT : (x : Int).tmod (L : Int) = (y : Int) := by rw [Int.tmod_eq_emod_of_nonneg (by omega)]; exact hyI
    have hLne : ((L : Int) == 0) = false := by simp; omega
    have hLne2 : ¬ (L : Int) = 0 := by omega
    have hL4 : (L : Int) ≤ 4096 := by omega
    have hxI : (x : Int) < 65536 := by omega
    have hyL4 : (y : Int) < 4096 := by omega
    have HST := Lib.hid (estep_any a q k (y : Int) s w4 HOK.out HQ.out hs (by omega))
    have HRD := Lib.hid hrd; have HLEN := Lib.hid hlen; have HFT := Lib.hid hft; have HBO := Lib.hid hbo; have HKEY := Lib.hid hkey; have HL := Lib.hid hL; have HYL := Lib.hid hyL; have HFL := Lib.hid hfl
    have HCELL := Lib.hid fun W (hW : Chg (fun _ => False) w4 W) => HQ.out.cell (HRQ.out.kept hW (by simp)) s hs
    clear hyes hc4 hc24 hrd hdt hsum hft hlen hbo hkey hL hL0 hsz hy hyL hfl hlog hcell
    go_wp2_with fail
    refine (HST.out).mono ?_
    rintro e w5 ⟨he, hc5⟩
    have hcell := HCELL.out w5 hc5
    replace HC := Lib.hid (HC.out.trans hc5 fun _ _ h => h)
    replace HRD := Lib.hid (HRD.out.kept hc5 (by simp))
    clear hc5 HST HCELL
    obtain ⟨F, hF⟩ : ∃ F, fq q s = F := ⟨_, rfl⟩
    rw [hF] at hcell
    have HF := Lib.hid hF
    clear hF
    by_cases h0 : F = 0
    · have hno : ¬ eCan q k (y : Int) s := fun hh => by have := hh.2.2; rw [HF.out] at this; omega
      obtain rfl := he.1 hno
      subst h0
      clear he hno
      go_wp2
      go_ret
      exact ⟨rfl, HC.out⟩
    · have hyes : eCan q k (y : Int) s := ⟨by omega, by rw [HL.out]; have := HYL.out; omega, by rw [HF.out]; omega⟩
      obtain ⟨m, hm, rfl⟩ := he.2 hyes
      rw [Int.toNat_natCast, HF.out] at hm
      rw [Int.toNat_natCast]
      have hx2k : y < 2 ^ k := by rw [HL.out]; exact HYL.out
      have hFk : F ≤ 2 ^ k := by have := HFL.out; rw [HF.out] at this; exact this
      obtain ⟨k1, k2⟩ := HKEY.out ((2 ^ k + y) / 2 ^ m) (by rw [HF.out]; exact hm.1) (by rw [HF.out]; exact hm.2)
      have hen := enc_cell (s := s) (by omega) hFk hx2k hm
      have hml := lefts_le (by omega) hFk hx2k hm
      have hlow : (2 ^ k + y) % 2 ^ m < 2 ^ m := Nat.mod_lt _ (Nat.two_pow_pos m)
      rw [← k2] at hen
      obtain ⟨P, hP⟩ : ∃ P, placeF (fq q) 256 s ((2 ^ k + y) / 2 ^ m) = P := ⟨_, rfl⟩
      obtain ⟨lo, hlo⟩ : ∃ lo, (2 ^ k + y) % 2 ^ m = lo := ⟨_, rfl⟩
      rw [hP] at k1 k2 hen ⊢
      rw [hlo] at hen hlow ⊢
      rw [HL.out] at k1
      have hsym : (c.getD P cl0).Sym = s := by rw [k2]; rfl
      have hPL : (P : Int) < (L : Int) := by omega
      have hPn : ¬ L ≤ P := by omega
      have ePN : ((P : Int)).toNat = P := Int.toNat_natCast P
      have hm12 : m ≤ 12 := by have := HK9.out; omega
      have hcan : canC c (P : Int) lo := by
        unfold canC
        rw [ePN, hen.1, Int.toNat_natCast]
        exact ⟨by omega, by rw [HLEN.out]; exact hPL, by omega, by omega, hlow⟩
      have hs1 : stepS c (P : Int) lo = s := by unfold stepS; rw [if_pos hcan, ePN, hsym]
      have hs2 : stepN c (P : Int) lo = (y : Int) := by unfold stepN; rw [if_pos hcan, ePN]; exact hen.2
      have hlow32 : lo < 4294967296 := by
        have := Nat.lt_of_lt_of_le hlow (pow12 hm12)
        omega
      have hds := dstep_any _ c (P : Int) lo w5 HRD.out HFT.out (by rw [HLEN.out]; omega) (by omega) hlow32 (HBO.out P)
      rw [hs1, hs2, decide_eq_true hcan] at hds
      have HDS := Lib.hid hds
      have HBT := Lib.hid fun W (hW : Chg (fun _ => False) w5 W) => (show W.cell? ⟨g4, off4 + P * 3 + 1, none⟩ = some (.int .i64 (m : Int)) by
        have := ((HRD.out.kept hW (by simp)).at' P (by rw [HLEN.out]; omega)).2.1
        rw [hen.1] at this; exact this)
      have h0' : ((F : Int) == 0) = false := by simp; omega
      clear he hyes hm hx2k hFk k1 k2 hen hml hlow hP hlo hsym ePN hcan hs1 hs2 hlow32 hds h0 HKEY
      have d1 : decide ((P : Int) < 0) = false := decide_eq_false (by omega)
      go_wp2_with fail
      refine (HDS.out).mono ?_
      rintro e w6 ⟨rfl, hc6⟩
      have hbt := HBT.out w6 hc6
      replace HC := Lib.hid (HC.out.trans hc6 fun _ _ h => h)
      clear hc6 HBT HDS hcell
      go_wp2
      go_ret
      exact ⟨rfl, HC.out⟩

end Go.Proofs.Ytkdfifkmgpogfaa
