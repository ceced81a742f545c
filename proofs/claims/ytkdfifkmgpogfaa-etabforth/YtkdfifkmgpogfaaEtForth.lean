/- EtabForth's walk. -/
import Derived.Test.YtkdfifkmgpogfaaEtBack
namespace Go.Proofs.Ytkdfifkmgpogfaa
open Go.RowKit

theorem mask32 (x b : Nat) (hx : x < 4294967296) (hb : b ≤ 12) : bits BinOp.and IntKind.u32 (x : Int) (((2 ^ b : Nat) : Int) - 1) = ((x % 2 ^ b : Nat) : Int) := by
  have h := bits_mask .u32 32 (by decide) wraps_u32 b (by omega) (x : Int) (by omega) (by omega)
  rw [show (((2 ^ b : Nat) : Int) - 1) = 2 ^ b - 1 by simp, h]
  simp

set_option maxHeartbeats 4000000 in
theorem etabForth_walk (v : Value) (xs : List Nat) (r x mo : Nat) (w : World) (h : RdH w v xs) (hx : ∀ x ∈ xs, x < 65536) (hr : r < 256) (hx2 : x < 65536) (hmo : mo < 4294967296) :
    Calls Try.prog 6 #[v, .int .u8 (r : Int), .int .u16 (x : Int), .int .u32 (mo : Int)] w fun e w' => e = .returned (.bool true) ∧ Chg (fun _ => False) w w' := by
  obtain ⟨ao, cap, rfl⟩ := h.form
  have H := Lib.hid h; have HX := Lib.hid hx
  clear h hx
  go_enter Try.func6, Try.ntmps6
  go_wp2_with fail
  refine (awake12_any _).mono ?_
  rintro e w1 ⟨rfl, hc⟩
  have HC := Lib.hid hc
  clear hc
  by_cases h80 : 80 < xs.length
  · have d3 : decide (80 < (xs.length : Int)) = true := decide_eq_true (by omega)
    go_wp2
    go_ret
    exact ⟨rfl, HC.out⟩
  · have d3 : decide (80 < (xs.length : Int)) = false := decide_eq_false (by omega)
    go_wp2_with fail
    refine (r8some_any _ xs r _ (H.out.kept HC.out (by simp)) HX.out (by omega) hr).mono ?_
    rintro e w2 ⟨v2, q, k, rfl, ho, hq, hk5, hk9, hc2⟩
    replace HC := Lib.hid (HC.out.trans hc2 fun _ _ h => h)
    have HQ := Lib.hid hq
    have HNW := Lib.hid (enew_any _ q w2 ho.rd hq.bnd (by rw [hq.1]; omega))
    have HOF := Lib.hid fun W (hW : Chg (fun _ => False) w2 W) => dof_any _ q W (ho.rd.kept hW (by simp)) hq.bnd (by rw [hq.1]; omega)
    have HRQ := Lib.hid ho.rd
    obtain ⟨g, off, cap2, rfl, -⟩ := ho
    have hn6 := hq.1
    obtain ⟨n, hn⟩ : ∃ n, q.length = n := ⟨_, rfl⟩
    rw [hn] at HNW HOF HRQ hn6 ⊢
    have HK9 := Lib.hid hk9; have HK5 := Lib.hid hk5; have HN6 := Lib.hid hn6
    have hk64 : (k : Int) < 64 := by omega
    have hlog := hq.log
    have HK0 := Lib.hid (show logI (totalI q) ≠ 0 by rw [hlog]; omega)
    clear hq hc2 hk5 hk9 hn hn6
    go_wp2_with fail
    refine (HNW.out).mono ?_
    rintro e w3 ⟨-, hyes, hc3⟩
    obtain ⟨a, rfl, hok⟩ := hyes HK0.out
    have HOF3 := Lib.hid (HOF.out w3 hc3)
    have HC23 := Lib.hid hc3
    have HOK := Lib.hid hok
    clear hyes hok hc3 HNW HOF
    go_wp2_with fail
    refine (HOF3.out).mono ?_
    rintro e w4 ⟨v4, rfl, hyes, -, hc4⟩
    rw [if_neg HK0.out]
    obtain ⟨c, hrd, hdt⟩ := hyes HK0.out
    rw [hlog] at hdt
    have hc24 := HC23.out.trans hc4 fun _ _ h => h
    replace HC := Lib.hid (HC.out.trans hc24 fun _ _ h => h)
    replace HRQ := Lib.hid (HRQ.out.kept hc24 (by simp))
    replace HOK := Lib.hid (HOK.out.kept hc4)
    have hsum := HQ.out.sum
    have hk12 : k ≤ 12 := by have := HK9.out; omega
    have hsz := HQ.out.size
    have hft := hdt.fits hsum hk12
    have hlen := hdt.len
    have hbo := fun a => hdt.baseOk hsum hk12 a
    obtain ⟨L, hL⟩ : ∃ L, 2 ^ k = L := ⟨_, rfl⟩
    have hL0 : 0 < L := by rw [← hL]; exact Nat.two_pow_pos k
    have hLI : (2 : Int) ^ k = (L : Int) := by rw [← hL]; simp
    obtain ⟨ao4, cap4, rfl⟩ := hrd.form
    rw [hL] at hlen hsz
    obtain ⟨g4, off4, rfl, -⟩ := hrd.at 0 (by rw [hlen]; exact hL0)
    rw [hlen] at hrd ⊢
    obtain ⟨y, hy⟩ : ∃ y, x % L = y := ⟨_, rfl⟩
    have hyL : y < L := by rw [← hy]; exact Nat.mod_lt _ hL0
    have hyI : (x : Int) % (L : Int) = (y : Int) := by rw [← hy]; rfl
    have hyT : (x : Int).tmod (L : Int) = (y : Int) := by rw [Int.tmod_eq_emod_of_nonneg (by omega)]; exact hyI
    have hLne : ((L : Int) == 0) = false := by simp; omega
    have hLne2 : ¬ (L : Int) = 0 := by omega
    have hL4 : (L : Int) ≤ 4096 := by omega
    have hxI : (x : Int) < 65536 := by omega
    have hyL4 : (y : Int) < (L : Int) := by omega
    obtain ⟨s, d, hs, hd, hpl, he⟩ := hdt.is hsum (a := y) (by rw [hL]; exact hyL)
    have hfl := f_le (f := fq q) (R := k) hsum hs
    obtain ⟨i, hi⟩ : ∃ i, fq q s + d = i := ⟨_, rfl⟩
    rw [hi] at hpl he
    have hbits : (c.getD y cl0).Bits = ((bitsN k i : Nat) : Int) := by rw [he]; rfl
    have hbase : (c.getD y cl0).Base = ((i * 2 ^ bitsN k i : Nat) : Int) - ((2 ^ k : Nat) : Int) := by rw [he]; rfl
    have hsym : (c.getD y cl0).Sym = s := by rw [he]; rfl
    have hb9 : bitsN k i ≤ 9 := by have := HK9.out; unfold bitsN; omega
    obtain ⟨z, hz1, hz2, hz3, hz4, hz5⟩ := dec_lefts (R := k) (q := fq q s) (i := i) (m := mo % 2 ^ bitsN k i) (by omega) (by omega) (by omega) hfl (Nat.mod_lt _ (Nat.two_pow_pos _))
    have hmask := mask32 mo (bitsN k i) hmo (by omega)
    obtain ⟨b, hb⟩ : ∃ b, bitsN k i = b := ⟨_, rfl⟩
    rw [hb] at hbits hbase hb9 hz2 hz3 hz4 hz5 hmask
    obtain ⟨B, hB⟩ : ∃ B, 2 ^ b = B := ⟨_, rfl⟩
    have hBI : (2 : Int) ^ b = (B : Int) := by rw [← hB]; simp
    have hB0 : 0 < B := by rw [← hB]; exact Nat.two_pow_pos b
    have hB4 : B ≤ 4096 := by rw [← hB]; exact pow12 (by omega)
    obtain ⟨lo, hlo⟩ : ∃ lo, mo % 2 ^ b = lo := ⟨_, rfl⟩
    have hlB : lo < B := by rw [← hlo, hB]; exact Nat.mod_lt _ hB0
    rw [hlo] at hz2 hz5 hmask
    have eY : ((y : Int)).toNat = y := Int.toNat_natCast y
    have hcan : canC c (y : Int) lo := by
      unfold canC
      rw [eY, hbits, Int.toNat_natCast, hB]
      exact ⟨by omega, by rw [hlen]; exact hyL4, by omega, by omega, hlB⟩
    have hs1 : stepS c (y : Int) lo = s := by unfold stepS; rw [if_pos hcan, eY, hsym]
    have hs2 : stepN c (y : Int) lo = (z : Int) := by unfold stepN; rw [if_pos hcan, eY, hbase]; omega
    have hds := fun W (hW : Chg (fun _ => False) w4 W) => dstep_any _ c (y : Int) lo W (hrd.kept hW (by simp)) hft (by rw [hlen]; omega) (by omega) (by omega) (hbo y)
    rw [hs1, hs2, decide_eq_true hcan] at hds
    have hes : EncSays q k (z : Int) s (.returned (.tuple #[.int .i64 (y : Int), .int .i64 (b : Int), .int .u32 (lo : Int), .bool true])) := by
      refine ⟨fun hh => absurd (show eCan q k (z : Int) s from ⟨by omega, by omega, by omega⟩) hh, fun _ => ⟨b, by rw [Int.toNat_natCast]; exact hz3, ?_⟩⟩
      rw [Int.toNat_natCast, hz4, hz5, hpl]
    have HBT := Lib.hid fun W (hW : Chg (fun _ => False) w4 W) => (show W.cell? ⟨g4, off4 + y * 3 + 1, none⟩ = some (.int .i64 (b : Int)) by
      have := ((hrd.kept hW (by simp)).at' y (by rw [hlen]; exact hyL)).2.1
      rw [hbits] at this; exact this)
    rw [hB] at hmask
    have HDS := Lib.hid hds; have HES := Lib.hid hes
    have hz4k : (z : Int) ≤ 4096 := by rw [hL] at hz1; omega
    have HSTE := Lib.hid fun W (hW : Chg (fun _ => False) w4 W) => estep_any a q k (z : Int) s W (HOK.out.kept hW) HQ.out hs (by omega)
    have hb64 : (b : Int) < 64 := by omega
    have hb32 : (b : Int) < 32 := by omega
    have db1 : decide ((b : Int) < 0) = false := decide_eq_false (by omega)
    have db2 : decide (12 < (b : Int)) = false := decide_eq_false (by omega)
    have hBb : (B : Int) ≤ 4096 := by omega
    have hB1 : (1 : Int) ≤ (B : Int) := by omega
    have hmd : (B : Int) % 4294967296 = (B : Int) := by omega
    have hmd2 : ((B : Int) - 1) % 4294967296 = (B : Int) - 1 := by omega
    have hbt := HBT.out w4 (Chg.refl _ _)
    clear hyes hc4 hc24 hrd hdt hsum hft hlen hbo hL hL0 hsz hy hyL hlog hd hpl he hfl hi hbits hbase hsym hb9 hz1 hz2 hz3 hz4 hz5 hb hB hB0 hB4 hlo hlB eY hcan hs1 hs2 hds hes
    go_wp2_with fail
    refine (HDS.out w4 (Chg.refl _ _)).mono ?_
    rintro e w5 ⟨rfl, hc5⟩
    have HSTE5 := Lib.hid (HSTE.out w5 hc5)
    have HC5 := Lib.hid hc5
    clear hc5 HSTE HDS hbt
    go_wp2_with fail
    refine (HSTE5.out).mono ?_
    rintro e w6 ⟨he, hc6⟩
    obtain rfl := HES.out.one he
    have hc46 := HC5.out.trans hc6 fun _ _ h => h
    have hbt := HBT.out w6 hc46
    replace HC := Lib.hid (HC.out.trans hc46 fun _ _ h => h)
    clear he hc6 hc46 HBT HES
    go_wp2
    go_ret
    exact ⟨rfl, HC.out⟩

end Go.Proofs.Ytkdfifkmgpogfaa
