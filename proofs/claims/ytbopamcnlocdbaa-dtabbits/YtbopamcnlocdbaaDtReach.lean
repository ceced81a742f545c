/- DtabReaches' walk. -/
import Derived.Test.YtbopamcnlocdbaaDtWhole
namespace Go.Proofs.Ytbopamcnlocdbaa
open Go.RowKit

/-- a cell of s holds x just where it may be gone on with the rest -/
theorem can_in {l : List Cl} {a s x : Nat} {m : Nat} (ha : a < l.length) (hb : 0 ≤ (l.getD a cl0).Bits ∧ (l.getD a cl0).Bits ≤ 12) (hs : (l.getD a cl0).Sym = s) (hm : (x : Int) - (l.getD a cl0).Base = (m : Int)) :
    (canC l (a : Int) m ↔ inC (l.getD a cl0) s x) ∧ (inC (l.getD a cl0) s x → stepS l (a : Int) m = s ∧ stepN l (a : Int) m = (x : Int)) := by
  have e : ((a : Int)).toNat = a := Int.toNat_natCast a
  have h1 : canC l (a : Int) m ↔ inC (l.getD a cl0) s x := by
    unfold canC inC
    rw [e]
    constructor
    · rintro ⟨-, -, -, -, h⟩
      exact ⟨hs, by omega, by omega⟩
    · rintro ⟨-, h2, h3⟩
      exact ⟨by omega, by omega, hb.1, by omega, by omega⟩
  refine ⟨h1, fun h => ?_⟩
  unfold stepS stepN
  rw [if_pos (h1.2 h), if_pos (h1.2 h), e]
  exact ⟨hs, by omega⟩

set_option maxHeartbeats 4000000 in
theorem dtabReaches_walk (v : Value) (xs : List Nat) (r s x : Nat) (w : World) (h : RdH w v xs) (hx : ∀ x ∈ xs, x < 65536) (hr : r < 256) (hs : s < 256) (hx2 : x < 65536) :
    Calls Try.prog 5 #[v, .int .u8 (r : Int), .int .u8 (s : Int), .int .u16 (x : Int)] w fun e w' => e = .returned (.bool true) ∧ Chg (fun _ => False) w w' := by
  obtain ⟨ao, cap, rfl⟩ := h.form
  have H := Lib.hid h; have HX := Lib.hid hx
  clear h hx
  go_enter Try.func5, Try.ntmps5
  go_wp2_with fail
  refine (awake11_any _).mono ?_
  rintro e w1 ⟨rfl, hc⟩
  have HC := Lib.hid hc
  clear hc
  by_cases h80 : 80 < xs.length
  · have d3 : decide (80 < (xs.length : Int)) = true := decide_eq_true (by omega)
    go_wp2
    go_ret
    exact ⟨rfl, HC.out⟩
  · have d3 : decide (80 < (xs.length : Int)) = false := decide_eq_false (by omega)
    go_wp2_with fail
    refine (r8some_any _ xs r _ (H.out.kept HC.out (by simp)) HX.out (by omega) hr).mono ?_
    rintro e w2 ⟨v2, q, k, rfl, ho, hq, hk5, hk9, hc2⟩
    replace HC := Lib.hid (HC.out.trans hc2 fun _ _ h => h)
    have HQ := Lib.hid hq
    have hof := dof_any _ q w2 ho.rd hq.bnd (by rw [hq.1]; omega)
    have HOF := Lib.hid hof
    have HRQ := Lib.hid ho.rd
    obtain ⟨g, off, cap2, rfl, -⟩ := ho
    have hn6 := hq.1
    obtain ⟨n, hn⟩ : ∃ n, q.length = n := ⟨_, rfl⟩
    rw [hn] at HOF HRQ hn6 ⊢
    have HK9 := Lib.hid hk9; have HK5 := Lib.hid hk5; have HN6 := Lib.hid hn6
    have hk64 : (k : Int) < 64 := by omega
    clear hq hc2 hk5 hk9 hn hof hn6
    go_wp2_with fail
    refine (HOF.out).mono ?_
    rintro e w3 ⟨v3, rfl, hyes, -, hc3⟩
    have hlog := HQ.out.log
    have hk0 : logI (totalI q) ≠ 0 := by rw [hlog]; have := HK5.out; omega
    rw [if_neg hk0]
    obtain ⟨c, hrd, hdt⟩ := hyes hk0
    rw [hlog] at hdt
    have hsum := HQ.out.sum
    have hk12 : k ≤ 12 := by have := HK9.out; omega
    have hsz := HQ.out.size
    have hft := hdt.fits hsum hk12
    have hlen := hdt.len
    have hbd := fun a ha => hdt.bounds hsum hk12 (a := a) ha
    have hbo := fun a => hdt.baseOk hsum hk12 a
    have hreach := fun y hy => hdt.reach hsum (s := s) (x := y) hs hy
    obtain ⟨L, hL⟩ : ∃ L, 2 ^ k = L := ⟨_, rfl⟩
    have hL0 : 0 < L := by rw [← hL]; exact Nat.two_pow_pos k
    have hLI : (2 : Int) ^ k = (L : Int) := by rw [← hL]; simp
    rw [hL] at hlen hsz hbd hreach
    obtain ⟨ao3, cap3, rfl⟩ := hrd.form
    obtain ⟨g3, off3, rfl, -⟩ := hrd.at 0 (by rw [hlen]; exact hL0)
    rw [hlen] at hrd ⊢
    replace HC := Lib.hid (HC.out.trans hc3 fun _ _ h => h)
    replace HRQ := Lib.hid (HRQ.out.kept hc3 (by simp))
    obtain ⟨y, hy⟩ : ∃ y, x % L = y := ⟨_, rfl⟩
    have hyL : y < L := by rw [← hy]; exact Nat.mod_lt _ hL0
    have hyI : (x : Int) % (L : Int) = (y : Int) := by rw [← hy]; rfl
    have hyT : (x : Int).tmod (L : Int) = (y : Int) := by rw [Int.tmod_eq_emod_of_nonneg (by omega)]; exact hyI
    have hre := hreach y hyL
    have hLne : ((L : Int) == 0) = false := by simp; omega
    have hLne2 : ¬ (L : Int) = 0 := by omega
    obtain ⟨p, hp⟩ : ∃ p : Nat → Bool, p = fun b => decide (inC (c.getD b cl0) s y) := ⟨_, rfl⟩
    have hpa : ∀ b, p b = decide (inC (c.getD b cl0) s y) := fun b => by rw [hp]
    rw [← hp] at hre
    have HPA := Lib.hid hpa; have HRE := Lib.hid hre
    have HRD := Lib.hid hrd; have HLEN := Lib.hid hlen; have HFT := Lib.hid hft; have HBD := Lib.hid hbd; have HBO := Lib.hid hbo
    have hL4 : (L : Int) ≤ 4096 := by omega
    have hxI : (x : Int) < 65536 := by omega
    have HYL := Lib.hid hyL; have HL0 := Lib.hid hL0; have HSZ := Lib.hid hsz
    clear hyes hc3 hrd hdt hsum hft hlen hbd hbo hreach hlog hk0 hL hL0 hsz hy hyL hre hp hpa
    have hyL4 : (y : Int) < 4096 := by have := HYL.out; omega
    go_wp2
    go_loopw [15, 16, 17, 18, 19, 20] (fun o15 o16 _ _ _ _ wr => ∃ a : Nat, a ≤ L ∧ o16 = .int .i64 (a : Int) ∧ o15 = .int .i64 ((countTo p a : Nat) : Int) ∧ Chg (fun _ => False) w3 wr) (fun _ o16 _ _ _ _ _ => L - (intOf o16).toNat)
    case atStart => exact ⟨0, Nat.zero_le _, rfl, rfl, Chg.refl _ _⟩
    case round =>
      obtain ⟨a, ha, rfl, rfl, hcr⟩ := hrel
      have hcl := countTo_le p a
      have hcs : countTo p (a + 1) = countTo p a + if p a then 1 else 0 := rfl
      rw [HPA.out a] at hcs
      have HCR := Lib.hid hcr
      by_cases hlt : a < L
      · obtain ⟨b0, b1, b2⟩ := (HRD.out.kept hcr (by simp)).at' a (by rw [HLEN.out]; exact hlt)
        have hbd := HBD.out a hlt
        have hcan := fun m hs hm => can_in (l := c) (a := a) (s := s) (x := y) (m := m) (by rw [HLEN.out]; exact hlt) ⟨hbd.2.1, by have := hbd.2.2.1; omega⟩ hs hm
        have hst := fun m hm => dstep_any _ c (a : Int) m wr (HRD.out.kept hcr (by simp)) HFT.out (by rw [HLEN.out]; omega) (by omega) hm (HBO.out a)
        obtain ⟨ca, hca⟩ : ∃ ca, c.getD a cl0 = ca := ⟨_, rfl⟩
        obtain ⟨cc, hcc⟩ : ∃ cc, countTo p a = cc := ⟨_, rfl⟩
        rw [hca] at b0 b1 b2 hbd hcan hcs
        rw [hcc] at hcl hcs ⊢
        have hpw := Nat.two_pow_pos ca.Bits.toNat
        have hbase : 0 ≤ ca.Base ∧ ca.Base ≤ 4096 := by omega
        have HBD1 := Lib.hid hbd
        have HCAN := Lib.hid hcan; have HST := Lib.hid hst; have HCS := Lib.hid hcs
        have hccb : (cc : Int) ≤ 4096 := by omega
        have hwr : wrap64 ((y : Int) - ca.Base) = (y : Int) - ca.Base := by unfold wrap64; omega
        clear hcr hbd hcan hst hca hcc hcs hpw
        have HLT := Lib.hid hlt
        by_cases hsym : ca.Sym = s
        · by_cases hneg : (y : Int) - ca.Base < 0
          · have hin : ¬ inC ca s y := fun hh => by have := hh.2.1; omega
            rw [decide_eq_false hin] at HCS
            subst hsym
            have d0 : decide ((y : Int) - ca.Base < 0) = true := decide_eq_true hneg
            clear HCAN HST HBD1 hin
            go_wp2
            go_roundw
            case rel => exact ⟨a + 1, by have := HLT.out; omega, by go_num, by rw [HCS.out]; go_num, HCR.out⟩
            case measure => simp [intOf]; have := HLT.out; omega
          · obtain ⟨m, hm⟩ : ∃ m : Nat, (y : Int) - ca.Base = (m : Int) := ⟨((y : Int) - ca.Base).toNat, by omega⟩
            have hm4 : (m : Int) ≤ 4096 := by omega
            have d0 : decide ((m : Int) < 0) = false := decide_eq_false (by omega)
            have hcn := HCAN.out m hsym hm
            have hst := HST.out m (by omega)
            have hmod : (m : Int) % 4294967296 = (m : Int) := by omega
            by_cases hin : inC ca s y
            · rw [decide_eq_true (hcn.1.2 hin), (hcn.2 hin).1, (hcn.2 hin).2] at hst
              rw [decide_eq_true hin] at HCS
              have HST2 := Lib.hid hst
              subst hsym
              rw [hm] at hwr
              clear hst hcn HCAN HST hin hneg
              go_wp2_with fail
              refine (HST2.out).mono ?_
              rintro e w5 ⟨rfl, hc5⟩
              have HC5 := Lib.hid (HCR.out.trans hc5 fun _ _ h => h)
              clear hc5
              go_wp2
              go_roundw
              case rel => exact ⟨a + 1, by have := HLT.out; omega, by go_num, by rw [HCS.out]; go_num, HC5.out⟩
              case measure => simp [intOf]; have := HLT.out; omega
            · have hnc : ¬ canC c (a : Int) m := fun hh => hin (hcn.1.1 hh)
              have e1 : stepS c (a : Int) m = 0 := by unfold stepS; rw [if_neg hnc]
              have e2 : stepN c (a : Int) m = 0 := by unfold stepN; rw [if_neg hnc]
              rw [decide_eq_false hnc, e1, e2] at hst
              rw [decide_eq_false hin] at HCS
              have HST2 := Lib.hid hst
              subst hsym
              rw [hm] at hwr
              clear hst hcn HCAN HST hin hneg hnc e1 e2
              go_wp2_with fail
              refine (HST2.out).mono ?_
              rintro e w5 ⟨rfl, hc5⟩
              have HC5 := Lib.hid (HCR.out.trans hc5 fun _ _ h => h)
              clear hc5
              go_wp2
              go_roundw
              case rel => exact ⟨a + 1, by have := HLT.out; omega, by go_num, by rw [HCS.out]; go_num, HC5.out⟩
              case measure => simp [intOf]; have := HLT.out; omega
        · have hin : ¬ inC ca s y := fun hh => hsym hh.1
          rw [decide_eq_false hin] at HCS
          have hne : ((ca.Sym : Int) != (s : Int)) = true := by simp; omega
          clear HCAN HST HBD1 hin hsym
          go_wp2
          go_roundw
          case rel => exact ⟨a + 1, by have := HLT.out; omega, by go_num, by rw [HCS.out]; go_num, HCR.out⟩
          case measure => simp [intOf]; have := HLT.out; omega
      · have haL : a = L := by omega
        have hre := HRE.out
        rw [← haL] at hre
        rw [hre]
        have hcell := HQ.out.cell (HRQ.out.kept hcr (by simp)) s hs
        have hsn : (s : Int) < (n : Int) := by have := HN6.out; omega
        obtain ⟨F, hF⟩ : ∃ F, fq q s = F := ⟨_, rfl⟩
        rw [hF] at hcell ⊢
        have HC9 := Lib.hid (HC.out.trans hcr fun _ _ h => h)
        clear hre hcl hcs hF hcr haL
        by_cases h0 : 0 < F
        · rw [if_pos h0]
          have e0 : ((F : Int) == 0) = false := by simp; omega
          go_wp2
          go_ret
          exact ⟨rfl, HC9.out⟩
        · rw [if_neg h0]
          have e0 : F = 0 := by omega
          subst e0
          go_wp2
          go_ret
          exact ⟨rfl, HC9.out⟩

end Go.Proofs.Ytbopamcnlocdbaa
