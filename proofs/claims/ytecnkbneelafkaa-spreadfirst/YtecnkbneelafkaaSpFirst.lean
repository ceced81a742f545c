/- SpreadFirst's walk. -/
import Derived.Test.YtecnkbneelafkaaSpNear
namespace Go.Proofs.Ytecnkbneelafkaa
open Go.RowKit

set_option maxHeartbeats 2000000 in
theorem spreadFirst_walk (v : Value) (xs : List Nat) (r : Nat) (w : World) (h : RdH w v xs) (hx : ∀ x ∈ xs, x < 65536) (hr : r < 256) :
    Calls Try.prog 7 #[v, .int .u8 (r : Int)] w fun e w' => e = .returned (.bool true) ∧ Chg (fun _ => False) w w' := by
  obtain ⟨ao, cap, rfl⟩ := h.form
  have H := Lib.hid h; have HX := Lib.hid hx
  clear h hx
  go_enter Try.func7, Try.ntmps7
  go_wp2_with fail
  refine (awake10_any _).mono ?_
  rintro e w1 ⟨rfl, hc⟩
  have HC := Lib.hid hc
  clear hc
  by_cases h80 : 80 < xs.length
  · have d3 : decide (80 < (xs.length : Int)) = true := decide_eq_true (by omega)
    go_wp2
    go_ret
    exact ⟨rfl, HC.out⟩
  · have d3 : decide (80 < (xs.length : Int)) = false := decide_eq_false (by omega)
    go_wp2_with fail
    refine (r8some_any _ xs r _ (H.out.kept HC.out (by simp)) HX.out (by omega) hr).mono ?_
    rintro e w2 ⟨v2, q, k, rfl, ho, hq, hk5, hk9, hc2⟩
    replace HC := Lib.hid (HC.out.trans hc2 fun _ _ h => h)
    have HRQ := Lib.hid ho.rd; have HQ := Lib.hid hq; have HBD := Lib.hid hq.bnd
    obtain ⟨g, off, cap2, rfl, -⟩ := ho
    have h256 := hq.1
    obtain ⟨n, hn⟩ : ∃ n, q.length = n := ⟨_, rfl⟩
    rw [hn] at HRQ h256 ⊢
    have HN := Lib.hid h256; have HNQ := Lib.hid hn
    have hlg : logI (totalI q) ≠ 0 := by rw [hq.log]; omega
    have HLG := Lib.hid hlg
    clear hq hc2 hk5 hk9 hn h256 hlg
    go_wp2_with fail
    refine (sof_any _ q w2 HRQ.out HBD.out (by rw [HNQ.out, HN.out]; omega)).mono ?_
    rintro e w3 ⟨v3, rfl, hyes, -, hc3⟩
    rw [if_neg HLG.out]
    obtain ⟨l, ho, hsp⟩ := hyes HLG.out
    obtain ⟨g3, off3, cap3, rfl, -⟩ := id ho
    have HRL := Lib.hid ho.rd; have HSP := Lib.hid hsp
    replace HRQ := Lib.hid (HRQ.out.kept hc3 (by simp))
    replace HC := Lib.hid (HC.out.trans hc3 fun _ _ h => h)
    clear hyes ho hsp hc3
    obtain ⟨p, hp⟩ : ∃ p : Nat → Bool, p = fun t => decide (0 < fq q t) := ⟨_, rfl⟩
    have hpa : ∀ t, p t = decide (0 < fq q t) := fun t => by rw [hp]
    have HP := Lib.hid hp; have HPA := Lib.hid hpa
    clear hp hpa
    go_wp2
    go_loopw [10, 11] (fun o10 o11 wr => ∃ s : Nat, s ≤ 256 ∧ o11 = .int .i64 (s : Int) ∧ o10 = .int .i64 ((countTo p s : Nat) : Int) ∧ wr = w3) (fun _ o11 _ => 256 - (intOf o11).toNat)
    case atStart => exact ⟨0, Nat.zero_le _, rfl, rfl, rfl⟩
    case round =>
      obtain ⟨s, hs, rfl, rfl, rfl⟩ := hrel
      have hcl := countTo_le p s
      have hcs : countTo p (s + 1) = countTo p s + if p s then 1 else 0 := rfl
      rw [HPA.out s] at hcs
      by_cases hlt : s < 256
      · have hcell := HQ.out.cell HRQ.out s hlt
        have dl : decide ((s : Int) < 256) = true := decide_eq_true (by omega)
        have hsn : (s : Int) < (n : Int) := by have := HN.out; omega
        have hfst := fun h0 => place_first (f := fq q) (N := 256) (s := s) hlt h0
        rw [show (fun t => decide (0 < fq q t)) = p from HP.out.symm] at hfst
        have hrm := fun h0 => place_room (f := fq q) (N := 256) (s := s) (d := 0) hlt h0
        have hat := fun h0 => HSP.out.at' s 0 hlt h0
        obtain ⟨c, hc⟩ : ∃ c, countTo p s = c := ⟨_, rfl⟩
        rw [hc] at hcl hcs hfst ⊢
        obtain ⟨F, hF⟩ : ∃ F, fq q s = F := ⟨_, rfl⟩
        rw [hF] at hcell hcs hfst hrm hat
        rw [← HSP.out.len] at hrm
        clear hF hc
        by_cases h0 : 0 < F
        · rw [decide_eq_true h0] at hcs
          have hcL := hrm h0
          have hcA := hat h0
          rw [Nat.add_zero, hfst h0] at hcL hcA
          have hcl3 : wr.cell? ⟨g3, off3 + c, none⟩ = some (.int .u8 (s : Int)) := by
            obtain ⟨g', off', he, hc⟩ := HRL.out.at c hcL
            simp only [Option.some.injEq, Addr.mk.injEq] at he
            obtain ⟨rfl, rfl, -⟩ := he
            rw [hcA] at hc
            exact hc
          have HCS := Lib.hid hcs
          have h0' : ((F : Int) == 0) = false := by simp; omega
          have hge : ¬ l.length ≤ c := by omega
          clear hcs hfst hrm hat hcA
          go_wp2
          go_roundw
          case rel => exact ⟨s + 1, by omega, by go_num, by rw [HCS.out]; go_num, trivial⟩
          case measure => simp [intOf]; omega
        · rw [decide_eq_false h0] at hcs
          have HCS := Lib.hid hcs
          have d0 : F = 0 := by omega
          clear hcs hfst hrm hat
          subst d0
          go_wp2
          go_roundw
          case rel => exact ⟨s + 1, by omega, by go_num, by rw [HCS.out]; go_num, trivial⟩
          case measure => simp [intOf]; omega
      · have dl : decide ((s : Int) < 256) = false := decide_eq_false (by omega)
        clear hcs hcl
        go_wp2
        go_ret
        exact ⟨rfl, HC.out⟩

end Go.Proofs.Ytecnkbneelafkaa
