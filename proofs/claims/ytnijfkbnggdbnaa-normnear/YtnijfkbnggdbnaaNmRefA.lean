/- What the document's own norm (puncheonref08) tells: power, sum, neediest, richest. -/
import Derived.Test.YtnijfkbnggdbnaaHsRef
import Derived.Test.YtnijfkbnggdbnaaNmMathB
import Derived.Test.YtnijfkbnggdbnaaLgMath
import Derived.Test.YtnijfkbnggdbnaaBoolRow
import Derived.Test.YtnijfkbnggdbnaaRowBo
namespace Go.Proofs.Ytnijfkbnggdbnaa
open Go.RowKit

set_option maxHeartbeats 1000000 in
theorem r8power_any (r : Nat) (w : World) (hr : r ≤ 40) : Calls Try.prog 25 #[.int .i64 (r : Int)] w fun e w' => e = .returned (.int .i64 ((2 ^ r : Nat) : Int)) ∧ w' = w := by
  have HR := Lib.hid hr
  have hrI : (r : Int) ≤ 40 := by omega
  clear hr
  go_enter Try.func25, Try.ntmps25
  go_wp2
  go_loopw [3, 4] (fun o3 o4 wr => ∃ k P : Nat, k ≤ r ∧ o4 = .int .i64 (k : Int) ∧ o3 = .int .i64 (P : Int) ∧ P = 2 ^ k ∧ wr = w) (fun _ o4 _ => r - (intOf o4).toNat)
  case atStart => exact ⟨0, 1, Nat.zero_le _, rfl, rfl, rfl, rfl⟩
  case round =>
    obtain ⟨k, P, hk, rfl, rfl, hP, rfl⟩ := hrel
    have hP2 : P ≤ 2 ^ 40 := by rw [hP]; exact pow_le (by have := HR.out; omega)
    have hP3 : (P : Int) ≤ 1099511627776 := by
      have : (2 : Nat) ^ 40 = 1099511627776 := by decide
      omega
    by_cases hlt : k < r
    · have hsu : 2 * P = 2 ^ (k + 1) := by rw [hP, two_pow_succ k]
      have HS := Lib.hid hsu
      clear hsu hP hP2
      go_wp2
      go_roundw
      case rel => exact ⟨k + 1, 2 * P, by omega, by go_num, by go_num, HS.out, trivial⟩
      case measure => simp [intOf]; omega
    · obtain rfl : k = r := by omega
      have HP := Lib.hid hP
      clear hP hP2
      go_wp2
      go_ret
      rw [← HP.out]
      exact ⟨rfl, rfl⟩

set_option maxHeartbeats 1000000 in
theorem r8sum_any (v : Value) (q : List Int) (w : World) (h : RdI w v q) (hb : ∀ z ∈ q, 0 ≤ z ∧ z ≤ 4294967296) (hl : q.length ≤ 1000) :
    Calls Try.prog 27 #[v] w fun e w' => e = .returned (.int .i64 (tot q)) ∧ w' = w := by
  obtain ⟨ao, cap, rfl⟩ := h.form
  have H := Lib.hid h; have HB := Lib.hid hb
  have hlI : (q.length : Int) ≤ 1000 := by omega
  have HL := Lib.hid hl
  clear h hb hl
  go_enter Try.func27, Try.ntmps27
  go_wp2
  go_loopw [3, 4] (fun o3 o4 wr => ∃ k : Nat, k ≤ q.length ∧ o4 = .int .i64 (k : Int) ∧ o3 = .int .i64 (tot (q.take k)) ∧ 0 ≤ tot (q.take k) ∧ tot (q.take k) ≤ 4294967296 * (k : Int) ∧ wr = w) (fun _ o4 _ => q.length - (intOf o4).toNat)
  case atStart => exact ⟨0, Nat.zero_le _, rfl, rfl, by simp [tot], by simp [tot], rfl⟩
  case round =>
    obtain ⟨k, hk, rfl, rfl, h0, h1, rfl⟩ := hrel
    by_cases hlt : k < q.length
    · obtain ⟨g, off, rfl, hc⟩ := H.out.at k hlt
      have hsu := tot_take_succ q k hlt
      have hbk := HB.out _ (getD_mem hlt)
      obtain ⟨x, hx⟩ : ∃ x, q.getD k 0 = x := ⟨_, rfl⟩
      obtain ⟨t, ht⟩ : ∃ t, tot (q.take k) = t := ⟨_, rfl⟩
      rw [hx] at hc hsu hbk
      rw [ht] at hsu h0 h1 ⊢
      have hkl := HL.out
      have ht2 : t ≤ 4294967296000 := by omega
      obtain ⟨hx0, hx1⟩ := hbk
      have HSU := Lib.hid hsu; have H1 := Lib.hid h1
      clear hx ht hsu h1 hkl
      go_wp2
      go_roundw
      case rel => exact ⟨k + 1, by omega, by go_num, by rw [HSU.out], by rw [HSU.out]; omega, by rw [HSU.out]; have := H1.out; omega, trivial⟩
      case measure => simp [intOf]; omega
    · obtain rfl : k = q.length := by omega
      rw [List.take_length]
      clear h0 h1
      go_wp2
      go_ret
      exact ⟨rfl, rfl⟩

/-- an index, or -1 -/
def idx : Option Nat → Int
  | none => -1
  | some b => (b : Int)

set_option maxHeartbeats 2000000 in
set_option maxRecDepth 100000 in
theorem r8neediest_any (g h : Nat) (t u : TypeId) (rest : List Int) (had : List Bool) (w : World) (hr : RowI w g t rest) (hh : RowT w h u had) (hl : rest.length = 256) (hl2 : had.length = 256) :
    Calls Try.prog 28 #[.slice (some ⟨g, 0, none⟩) 256 256, .slice (some ⟨h, 0, none⟩) 256 256] w fun e w' => e = .returned (.int .i64 (idx (needyTo rest had 256))) ∧ ∃ m, w' = w.drewN m := by
  obtain ⟨N, hN⟩ : ∃ N, needyTo rest had 256 = N := ⟨_, rfl⟩
  rw [hN]
  have HN := Lib.hid hN; have HR := Lib.hid hr; have HH := Lib.hid hh; have HL := Lib.hid hl; have HL2 := Lib.hid hl2
  clear hN hr hh hl hl2
  go_enter Try.func28, Try.ntmps28
  go_wp2
  go_loopw [5, 6] (fun o5 o6 wr => ∃ s : Nat, s ≤ 256 ∧ o6 = .int .i64 (s : Int) ∧ o5 = .int .i64 (idx (needyTo rest had s)) ∧ ∃ m, wr = w.drewN m) (fun _ o6 _ => 256 - (intOf o6).toNat)
  case atStart => exact ⟨0, Nat.zero_le _, rfl, rfl, 0, rfl⟩
  case round =>
    obtain ⟨s, hs, rfl, rfl, m, rfl⟩ := hrel
    by_cases hlt : s < 256
    · have d8 : decide ((s : Int) < 256) = true := by simp; omega
      have hsI : (s : Int) < 256 := by omega
      have c1 := HH.out.cell s (by rw [HL2.out]; exact hlt)
      have c2 := HR.out.cell s (by rw [HL.out]; exact hlt)
      have hst : needyTo rest had (s + 1) = match needyTo rest had s with
        | none => if had.getD s false then none else some s
        | some b => if had.getD s false = false ∧ rest.getD b 0 < rest.getD s 0 then some s else some b := rfl
      cases hn : needyTo rest had s with
      | none =>
        rw [hn] at hst
        simp only at hst
        cases hhs : had.getD s false with
        | true =>
          rw [hhs] at hst c1
          have HST := Lib.hid hst
          clear hst hn hhs
          simp only [idx]
          go_wp2
          go_quiet (fail)
          go_wp2
          go_roundw
          case rel => exact ⟨s + 1, by omega, by go_num, by rw [HST.out] <;> rfl, m + nq, rfl⟩
          case measure => simp [intOf]; omega
        | false =>
          rw [hhs] at hst c1
          have HST := Lib.hid hst
          clear hst hn hhs
          simp only [idx]
          go_wp2
          go_quiet (fail)
          go_wp2
          go_roundw
          case rel => exact ⟨s + 1, by omega, by go_num, by rw [HST.out] <;> rfl, m + nq, rfl⟩
          case measure => simp [intOf]; omega
      | some b =>
        have hb := (needy_some rest had s b hn).1
        have hb256 : b < 256 := by omega
        have hbI : (b : Int) < 256 := by omega
        have c3 := HR.out.cell b (by rw [HL.out]; exact hb256)
        rw [hn] at hst
        simp only at hst
        have hneg : decide ((b : Int) < 0) = false := by simp
        obtain ⟨x, hx⟩ : ∃ x, rest.getD s 0 = x := ⟨_, rfl⟩
        obtain ⟨y, hy⟩ : ∃ y, rest.getD b 0 = y := ⟨_, rfl⟩
        rw [hx] at hst c2
        rw [hy] at hst c3
        clear hx hy hn
        cases hhs : had.getD s false with
        | true =>
          rw [hhs] at hst c1
          rw [if_neg (by simp)] at hst
          have HST := Lib.hid hst
          clear hst hhs
          simp only [idx]
          go_wp2
          go_quiet (fail)
          go_wp2
          go_roundw
          case rel => exact ⟨s + 1, by omega, by go_num, by rw [HST.out] <;> rfl, m + nq, rfl⟩
          case measure => simp [intOf]; omega
        | false =>
          rw [hhs] at hst c1
          by_cases hyx : y < x
          · have d1 : decide (y < x) = true := decide_eq_true hyx
            rw [if_pos ⟨rfl, hyx⟩] at hst
            have HST := Lib.hid hst
            clear hst hhs
            simp only [idx]
            go_wp2
            go_quiet (fail)
            go_wp2
            go_roundw
            case rel => exact ⟨s + 1, by omega, by go_num, by rw [HST.out] <;> rfl, m + nq, rfl⟩
            case measure => simp [intOf]; omega
          · have d1 : decide (y < x) = false := decide_eq_false hyx
            rw [if_neg (fun hh => hyx hh.2)] at hst
            have HST := Lib.hid hst
            clear hst hhs
            simp only [idx]
            go_wp2
            go_quiet (fail)
            go_wp2
            go_roundw
            case rel => exact ⟨s + 1, by omega, by go_num, by rw [HST.out] <;> rfl, m + nq, rfl⟩
            case measure => simp [intOf]; omega
    · obtain rfl : s = 256 := by omega
      rw [HN.out]
      go_wp2
      go_ret
      exact ⟨rfl, m, rfl⟩

set_option maxHeartbeats 2000000 in
set_option maxRecDepth 100000 in
theorem r8richest_any (g h o cap : Nat) (t : TypeId) (q c : List Int) (w : World) (hr : RowI w g t q) (hh : RdI w (.slice (some ⟨h, o, none⟩) 256 cap) c) (hl : q.length = 256) (hl2 : c.length = 256) :
    Calls Try.prog 29 #[.slice (some ⟨g, 0, none⟩) 256 256, .slice (some ⟨h, o, none⟩) 256 cap] w fun e w' => e = .returned (.int .i64 ((richTo q c 255 : Nat) : Int)) ∧ ∃ m, w' = w.drewN m := by
  obtain ⟨N, hN⟩ : ∃ N, richTo q c 255 = N := ⟨_, rfl⟩
  rw [hN]
  have hcell : ∀ k, k < 256 → w.cell? ⟨h, o + k, none⟩ = some (.int .i64 (c.getD k 0)) := fun k hk => by
    obtain ⟨g', o', he, hc⟩ := hh.at k (by omega)
    simp only [Option.some.injEq, Addr.mk.injEq] at he
    obtain ⟨rfl, rfl, -⟩ := he
    exact hc
  have HN := Lib.hid hN; have HR := Lib.hid hr; have HC := Lib.hid hcell; have HL := Lib.hid hl
  clear hN hr hh hl hl2 hcell
  go_enter Try.func29, Try.ntmps29
  go_wp2
  go_loopw [5, 6] (fun o5 o6 wr => ∃ s : Nat, s ≤ 255 ∧ o6 = .int .i64 ((s + 1 : Nat) : Int) ∧ o5 = .int .i64 ((richTo q c s : Nat) : Int) ∧ ∃ m, wr = w.drewN m) (fun _ o6 _ => 256 - (intOf o6).toNat)
  case atStart => exact ⟨0, Nat.zero_le _, rfl, rfl, 0, rfl⟩
  case round =>
    obtain ⟨s, hs, rfl, rfl, m, rfl⟩ := hrel
    have hb := (rich_spec q c s).1
    by_cases hlt : s < 255
    · have d8 : decide ((((s + 1 : Nat)) : Int) < 256) = true := by simp; omega
      have hsI : (s : Int) + 1 < 256 := by omega
      have hst : richTo q c (s + 1) = if q.getD (richTo q c s) 0 < q.getD (s + 1) 0 ∨ (q.getD (s + 1) 0 = q.getD (richTo q c s) 0 ∧ c.getD (s + 1) 0 ≤ c.getD (richTo q c s) 0) then s + 1 else richTo q c s := rfl
      have c1 := HR.out.cell (s + 1) (by rw [HL.out]; omega)
      have c2 := HR.out.cell (richTo q c s) (by rw [HL.out]; omega)
      have c3 := HC.out (s + 1) (by omega)
      have c4 := HC.out (richTo q c s) (by omega)
      obtain ⟨b, hbe⟩ : ∃ b, richTo q c s = b := ⟨_, rfl⟩
      rw [hbe] at hst c2 c4 hb ⊢
      clear hbe
      obtain ⟨x, hx⟩ : ∃ x, q.getD (s + 1) 0 = x := ⟨_, rfl⟩
      obtain ⟨y, hy⟩ : ∃ y, q.getD b 0 = y := ⟨_, rfl⟩
      obtain ⟨x2, hx2⟩ : ∃ x2, c.getD (s + 1) 0 = x2 := ⟨_, rfl⟩
      obtain ⟨y2, hy2⟩ : ∃ y2, c.getD b 0 = y2 := ⟨_, rfl⟩
      rw [hx] at hst c1
      rw [hy] at hst c2
      rw [hx2] at hst c3
      rw [hy2] at hst c4
      have hbI : (b : Int) < 256 := by omega
      clear hx hy hx2 hy2
      by_cases h1 : y < x
      · have d1 : decide (y < x) = true := decide_eq_true h1
        rw [if_pos (.inl h1)] at hst
        have HST := Lib.hid hst
        clear hst
        go_wp2
        go_quiet (fail)
        go_wp2
        go_roundw
        case rel => exact ⟨s + 1, by omega, by go_num, by rw [HST.out] <;> go_num, m + nq, rfl⟩
        case measure => simp [intOf]; omega
      · have d1 : decide (y < x) = false := decide_eq_false h1
        by_cases h2 : x = y
        · subst h2
          by_cases h3 : x2 ≤ y2
          · have d3 : decide (x2 ≤ y2) = true := decide_eq_true h3
            rw [if_pos (.inr ⟨rfl, h3⟩)] at hst
            have HST := Lib.hid hst
            clear hst
            go_wp2
            go_quiet (fail)
            go_wp2
            go_roundw
            case rel => exact ⟨s + 1, by omega, by go_num, by rw [HST.out] <;> go_num, m + nq, rfl⟩
            case measure => simp [intOf]; omega
          · have d3 : decide (x2 ≤ y2) = false := decide_eq_false h3
            rw [if_neg (fun hh => hh.elim h1 (fun hh => h3 hh.2))] at hst
            have HST := Lib.hid hst
            clear hst
            go_wp2
            go_quiet (fail)
            go_wp2
            go_roundw
            case rel => exact ⟨s + 1, by omega, by go_num, by rw [HST.out], m + nq, rfl⟩
            case measure => simp [intOf]; omega
        · have d2 : (x == y) = false := by simp [h2]
          rw [if_neg (fun hh => hh.elim h1 (fun hh => h2 hh.1))] at hst
          have HST := Lib.hid hst
          clear hst
          go_wp2
          go_quiet (fail)
          go_wp2
          go_roundw
          case rel => exact ⟨s + 1, by omega, by go_num, by rw [HST.out], m + nq, rfl⟩
          case measure => simp [intOf]; omega
    · obtain rfl : s = 255 := by omega
      rw [HN.out]
      go_wp2
      go_ret
      exact ⟨rfl, m, rfl⟩

end Go.Proofs.Ytnijfkbnggdbnaa
