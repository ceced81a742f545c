/- SpreadCounts' walk. -/
import Derived.Test.YtecnkbneelafkaaSpNear
namespace Go.Proofs.Ytecnkbneelafkaa
open Go.RowKit

set_option maxHeartbeats 4000000 in
theorem spreadCounts_walk (v : Value) (xs : List Nat) (r s : Nat) (w : World) (h : RdH w v xs) (hx : ∀ x ∈ xs, x < 65536) (hr : r < 256) (hs : s < 256) :
    Calls Try.prog 5 #[v, .int .u8 (r : Int), .int .u8 (s : Int)] w fun e w' => e = .returned (.bool true) ∧ Chg (fun _ => False) w w' := by
  obtain ⟨ao, cap, rfl⟩ := h.form
  have H := Lib.hid h; have HX := Lib.hid hx
  clear h hx
  go_enter Try.func5, Try.ntmps5
  go_wp2_with fail
  refine (awake10_any _).mono ?_
  rintro e w1 ⟨rfl, hc⟩
  have HC := Lib.hid hc
  clear hc
  by_cases h80 : 80 < xs.length
  · have d3 : decide (80 < (xs.length : Int)) = true := decide_eq_true (by omega)
    go_wp2
    go_ret
    exact ⟨rfl, HC.out⟩
  · have d3 : decide (80 < (xs.length : Int)) = false := decide_eq_false (by omega)
    go_wp2_with fail
    refine (r8some_any _ xs r _ (H.out.kept HC.out (by simp)) HX.out (by omega) hr).mono ?_
    rintro e w2 ⟨v2, q, k, rfl, ho, hq, hk5, hk9, hc2⟩
    replace HC := Lib.hid (HC.out.trans hc2 fun _ _ h => h)
    have HRQ := Lib.hid ho.rd; have HQ := Lib.hid hq; have HBD := Lib.hid hq.bnd
    obtain ⟨g, off, cap2, rfl, -⟩ := ho
    have h256 := hq.1
    obtain ⟨n, hn⟩ : ∃ n, q.length = n := ⟨_, rfl⟩
    rw [hn] at HRQ h256 ⊢
    have HN := Lib.hid h256; have HNQ := Lib.hid hn
    have hlg : logI (totalI q) ≠ 0 := by rw [hq.log]; omega
    have HLG := Lib.hid hlg
    have hsum := hq.sum
    have hsz := hq.size
    obtain ⟨L, hL⟩ : ∃ L, 2 ^ k = L := ⟨_, rfl⟩
    rw [hL] at hsum hsz
    have hLI : (2 : Int) ^ k = (L : Int) := by rw [← hL]; simp
    have HSUM := Lib.hid hsum
    have hk64 : (k : Int) < 64 := by omega
    clear hq hc2 hk5 hk9 hn h256 hlg hL hsum
    go_wp2_with fail
    refine (sof_any _ q w2 HRQ.out HBD.out (by rw [HNQ.out, HN.out]; omega)).mono ?_
    rintro e w3 ⟨v3, rfl, hyes, -, hc3⟩
    rw [if_neg HLG.out]
    obtain ⟨l, ho, hsp⟩ := hyes HLG.out
    obtain ⟨g3, off3, cap3, rfl, -⟩ := id ho
    have hll : l.length = L := by rw [hsp.len, HSUM.out]
    have HRL := Lib.hid ho.rd; have HSP := Lib.hid hsp; have HLL := Lib.hid hll
    replace HRQ := Lib.hid (HRQ.out.kept hc3 (by simp))
    replace HC := Lib.hid (HC.out.trans hc3 fun _ _ h => h)
    rw [hll] at HRL ⊢
    clear hyes ho hsp hc3 hll
    have hF4 := HQ.out.le s
    have hcellq := HQ.out.cell HRQ.out s hs
    have hsn : (s : Int) < (n : Int) := by have := HN.out; omega
    have hall := HSP.out.all hs
    rw [HLL.out] at hall
    obtain ⟨p, hp⟩ : ∃ p : Nat → Bool, p = fun a => decide (l.getD a 0 = s) := ⟨_, rfl⟩
    have hpa : ∀ a, p a = decide (l.getD a 0 = s) := fun a => by rw [hp]
    rw [← hp] at hall
    have hnth : ∀ a, a < L → l.getD a 0 = s → countTo p a < fq q s ∧ isKey q (s : Int) ((fq q s + countTo p a : Nat) : Int) ∧ placeI q (s : Int) ((fq q s + countTo p a : Nat) : Int) = a := fun a ha he => by
      obtain ⟨_, d, hd, hpl⟩ := HSP.out.is (p := a) (s := s) (by rw [HLL.out]; exact ha) he
      have h1 := HSP.out.nth hs hd
      rw [hpl, ← hp] at h1
      rw [h1]
      have h2 := key_at (j := fq q s + d) HQ.out hs (by omega) (by omega)
      exact ⟨hd, h2.1, by rw [h2.2, hpl]⟩
    have HLC := Lib.hid fun W (hc : Chg (fun _ => False) w3 W) a (ha : a < L) => (show W.cell? ⟨g3, off3 + a, none⟩ = some (.int .u8 ((l.getD a 0 : Nat) : Int)) by
      obtain ⟨g', off', he, hc⟩ := (HRL.out.kept hc (by simp)).at a (by rw [HLL.out]; exact ha)
      simp only [Option.some.injEq, Addr.mk.injEq] at he
      obtain ⟨rfl, rfl, -⟩ := he
      exact hc)
    have HQC := Lib.hid fun W (hc : Chg (fun _ => False) w3 W) => HQ.out.cell (HRQ.out.kept hc (by simp)) s hs
    obtain ⟨F, hF⟩ : ∃ F, fq q s = F := ⟨_, rfl⟩
    rw [hF] at hF4 hcellq hall hnth HQC
    have HPL := Lib.hid fun W (hc : Chg (fun _ => False) w3 W) (j : Nat) (hj : j ≤ 8192) => splace_any _ q (s : Int) (j : Int) W (HRQ.out.kept hc (by simp)) HBD.out (by rw [HNQ.out, HN.out]; omega) (by omega) (by omega)
    have HALL := Lib.hid hall; have HPA := Lib.hid hpa; have HNTH := Lib.hid hnth
    clear hp hpa hall hnth hF
    have hne : ((L : Int) != (L : Int)) = false := by simp
    go_wp2
    clear hLI hne hcellq
    go_loopw [12, 13, 14, 15] (fun o12 o13 _ _ wr => ∃ a : Nat, a ≤ L ∧ o13 = .int .i64 (a : Int) ∧ o12 = .int .i64 ((F + countTo p a : Nat) : Int) ∧ (F ≤ 32 ∨ a = 0) ∧ Chg (fun _ => False) w3 wr) (fun _ o13 _ _ _ => L - (intOf o13).toNat)
    case atStart => exact ⟨0, Nat.zero_le _, rfl, rfl, .inr rfl, Chg.refl _ _⟩
    case round =>
      obtain ⟨a, ha, rfl, rfl, hfa, hcw⟩ := hrel
      have hcl := countTo_le p a
      have hcs : countTo p (a + 1) = countTo p a + if p a then 1 else 0 := rfl
      rw [HPA.out a] at hcs
      have hcq := HQC.out wr hcw
      have HW := Lib.hid hcw
      replace HC := Lib.hid (HC.out.trans hcw fun _ _ h => h)
      clear hcw
      by_cases hgo : a < L ∧ F ≤ 32
      · obtain ⟨hlt, h32⟩ := hgo
        have hcell := HLC.out wr HW.out a hlt
        have hnth := HNTH.out a hlt
        have d32 : decide ((F : Int) ≤ 32) = true := decide_eq_true (by omega)
        obtain ⟨y, hy⟩ : ∃ y, l.getD a 0 = y := ⟨_, rfl⟩
        obtain ⟨c, hc⟩ : ∃ c, countTo p a = c := ⟨_, rfl⟩
        rw [hy] at hcell hcs hnth
        rw [hc] at hcl hcs hnth ⊢
        obtain ⟨J, hJ⟩ : ∃ J, F + c = J := ⟨_, rfl⟩
        rw [hJ] at hnth ⊢
        have hJ8 : J ≤ 8192 := by omega
        have HJ := Lib.hid hJ
        clear hy hc hJ
        by_cases hys : y = s
        · rw [decide_eq_true hys] at hcs
          obtain ⟨h1, h2, h3⟩ := hnth hys
          subst hys
          have hpl := HPL.out wr HW.out J (by omega)
          rw [decide_eq_true h2, h3] at hpl
          have HPLC := Lib.hid hpl; have HCS := Lib.hid hcs
          clear hcs hnth hpl h2 h3
          go_wp2_with fail
          refine HPLC.out.mono ?_
          rintro e w4 ⟨rfl, hc4⟩
          have HW4 := Lib.hid (HW.out.trans hc4 fun _ _ h => h)
          clear hc4 HPLC
          go_wp2
          go_roundw
          case rel => exact ⟨a + 1, by omega, by go_num, by rw [HCS.out, ← HJ.out]; go_num, .inl h32, HW4.out⟩
          case measure => simp [intOf]; omega
        · rw [decide_eq_false hys] at hcs
          have hyI : ((y : Int) != (s : Int)) = true := by simp; omega
          have HCS := Lib.hid hcs
          clear hcs hnth
          go_wp2
          go_roundw
          case rel => exact ⟨a + 1, by omega, by go_num, by rw [HCS.out, ← HJ.out]; go_num, .inl h32, HW.out⟩
          case measure => simp [intOf]; omega
      · have hfin : 32 < F ∨ countTo p a = F := by
          by_cases h32 : 32 < F
          · exact .inl h32
          · right
            have : a = L := by omega
            rw [this]; exact HALL.out
        have hcl2 : countTo p a ≤ 4096 := by omega
        obtain ⟨c, hc⟩ : ∃ c, countTo p a = c := ⟨_, rfl⟩
        rw [hc] at hfin hcl2 ⊢
        have FIN := Lib.hid hfin
        clear hfin hc hcs hcl
        have hcast : ((F + c : Nat) : Int) = (F : Int) + (c : Int) := by omega
        rw [hcast]
        clear hcast
        by_cases hlt : a < L
        · have d32 : decide ((F : Int) ≤ 32) = false := decide_eq_false (by omega)
          go_wp2

          obtain ⟨wa, hwa⟩ : ∃ wa, wa = wr := ⟨_, rfl⟩
          subst hwa
          go_loopw [16, 17] (fun o16 o17 wr => ∃ a : Nat, a ≤ L ∧ o17 = .int .i64 (a : Int) ∧ o16 = .int .i64 ((countTo p a : Nat) : Int) ∧ wr = wa) (fun _ o17 _ => L - (intOf o17).toNat)
          case atStart => exact ⟨0, Nat.zero_le _, rfl, rfl, rfl⟩
          case round =>
            obtain ⟨a, ha, rfl, rfl, rfl⟩ := hrel
            have hcl := countTo_le p a
            have hcs : countTo p (a + 1) = countTo p a + if p a then 1 else 0 := rfl
            rw [HPA.out a] at hcs
            by_cases hlt : a < L
            · have hcell := HLC.out wr HW.out a hlt
              obtain ⟨y, hy⟩ : ∃ y, l.getD a 0 = y := ⟨_, rfl⟩
              obtain ⟨c2, hc2⟩ : ∃ c2, countTo p a = c2 := ⟨_, rfl⟩
              rw [hy] at hcell hcs
              rw [hc2] at hcl hcs ⊢
              clear hy hc2
              by_cases hys : y = s
              · rw [decide_eq_true hys] at hcs
                subst hys
                have HCS := Lib.hid hcs
                clear hcs
                go_wp2
                go_roundw
                case rel => exact ⟨a + 1, by omega, by go_num, by rw [HCS.out]; go_num, trivial⟩
                case measure => simp [intOf]; omega
              · rw [decide_eq_false hys] at hcs
                have hyI : ((y : Int) == (s : Int)) = false := by simp; omega
                have HCS := Lib.hid hcs
                clear hcs
                go_wp2
                go_roundw
                case rel => exact ⟨a + 1, by omega, by go_num, by rw [HCS.out]; go_num, trivial⟩
                case measure => simp [intOf]; omega
            · have haL : a = L := by omega
              have hcF : countTo p a = F := by rw [haL]; exact HALL.out
              rw [hcF] at hcl ⊢
              have hcq := HQC.out wr HW.out
              clear hcs hcF haL
              by_cases h32 : 32 < F
              · have d32 : decide (32 < (F : Int)) = true := decide_eq_true (by omega)
                go_wp2
                go_ret
                exact ⟨rfl, HC.out⟩
              · have hcF2 : c = F := by
                  rcases FIN.out with h | h
                  · exact absurd h h32
                  · exact h
                have d32 : decide (32 < (F : Int)) = false := decide_eq_false (by omega)
                clear FIN
                subst hcF2
                have hcc : (c : Int) + (c : Int) = 2 * (c : Int) := by omega
                go_wp2
                go_ret
                exact ⟨rfl, HC.out⟩
        · clear hfa
          go_wp2

          obtain ⟨wa, hwa⟩ : ∃ wa, wa = wr := ⟨_, rfl⟩
          subst hwa
          go_loopw [16, 17] (fun o16 o17 wr => ∃ a : Nat, a ≤ L ∧ o17 = .int .i64 (a : Int) ∧ o16 = .int .i64 ((countTo p a : Nat) : Int) ∧ wr = wa) (fun _ o17 _ => L - (intOf o17).toNat)
          case atStart => exact ⟨0, Nat.zero_le _, rfl, rfl, rfl⟩
          case round =>
            obtain ⟨a, ha, rfl, rfl, rfl⟩ := hrel
            have hcl := countTo_le p a
            have hcs : countTo p (a + 1) = countTo p a + if p a then 1 else 0 := rfl
            rw [HPA.out a] at hcs
            by_cases hlt : a < L
            · have hcell := HLC.out wr HW.out a hlt
              obtain ⟨y, hy⟩ : ∃ y, l.getD a 0 = y := ⟨_, rfl⟩
              obtain ⟨c2, hc2⟩ : ∃ c2, countTo p a = c2 := ⟨_, rfl⟩
              rw [hy] at hcell hcs
              rw [hc2] at hcl hcs ⊢
              clear hy hc2
              by_cases hys : y = s
              · rw [decide_eq_true hys] at hcs
                subst hys
                have HCS := Lib.hid hcs
                clear hcs
                go_wp2
                go_roundw
                case rel => exact ⟨a + 1, by omega, by go_num, by rw [HCS.out]; go_num, trivial⟩
                case measure => simp [intOf]; omega
              · rw [decide_eq_false hys] at hcs
                have hyI : ((y : Int) == (s : Int)) = false := by simp; omega
                have HCS := Lib.hid hcs
                clear hcs
                go_wp2
                go_roundw
                case rel => exact ⟨a + 1, by omega, by go_num, by rw [HCS.out]; go_num, trivial⟩
                case measure => simp [intOf]; omega
            · have haL : a = L := by omega
              have hcF : countTo p a = F := by rw [haL]; exact HALL.out
              rw [hcF] at hcl ⊢
              have hcq := HQC.out wr HW.out
              clear hcs hcF haL
              by_cases h32 : 32 < F
              · have d32 : decide (32 < (F : Int)) = true := decide_eq_true (by omega)
                go_wp2
                go_ret
                exact ⟨rfl, HC.out⟩
              · have hcF2 : c = F := by
                  rcases FIN.out with h | h
                  · exact absurd h h32
                  · exact h
                have d32 : decide (32 < (F : Int)) = false := decide_eq_false (by omega)
                clear FIN
                subst hcF2
                have hcc : (c : Int) + (c : Int) = 2 * (c : Int) := by omega
                go_wp2
                go_ret
                exact ⟨rfl, HC.out⟩

end Go.Proofs.Ytecnkbneelafkaa
