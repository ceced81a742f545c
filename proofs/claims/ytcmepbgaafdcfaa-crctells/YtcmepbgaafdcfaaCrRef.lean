/- What the document's own Add and Of (puncheonref04) tell. -/
import Derived.Test.YtcmepbgaafdcfaaCrTab
namespace Go.Proofs.Ytcmepbgaafdcfaa
open Go.RowKit

theorem crcBits_lt (x : Nat) (bs : List Bool) (hx : x < 4294967296) : crcBits x bs < 4294967296 := by
  induction bs generalizing x with
  | nil => exact hx
  | cons b r ih => exact ih _ (stepL_lt (xor_lt32 hx (by cases b <;> decide)))

theorem step_bit (x b : Nat) (hb : b < 2) : stepL (x ^^^ b) = if x % 2 = b then x / 2 else x / 2 ^^^ poly := by
  have h1 := xor_mod_two x b
  have h2 := xor_div_two x b
  rw [Nat.mod_eq_of_lt hb] at h1
  rw [Nat.div_eq_of_lt hb, Nat.xor_zero] at h2
  have hx := Nat.mod_two_eq_zero_or_one x
  unfold stepL
  rw [h2, h1]
  by_cases h : x % 2 = b
  · rw [if_pos h, if_neg (by omega)]
  · rw [if_neg h, if_pos (by omega)]

theorem crcBits_step (x y j : Nat) : crcBits x (bitsOf y (j + 1)) = stepL (crcBits x (bitsOf y j) ^^^ (y / 2 ^ j % 2)) := by
  rw [bitsOf, crcBits_append]
  show stepL (crcBits x (bitsOf y j) ^^^ (decide (y / 2 ^ j % 2 = 1)).toNat) = _
  rw [← toNat_bit (y / 2 ^ j) _ rfl]

theorem crcBits_byte (x y : Nat) (hy : y < 256) : crcBits x (bitsOf y 8) = iterL 8 (x ^^^ y) := by
  rw [crcBits_val, bitsOf_length, val_bitsOf, Nat.mod_eq_of_lt (by omega)]

set_option maxHeartbeats 1000000 in
theorem r4add_any (v : Value) (s : Nat) (xs : List Nat) (w : World) (h : RdB w v xs) (hx : ∀ x ∈ xs, x < 256) (hs : s < 4294967296) (hl : xs.length < 100000000000) :
    Calls Try.prog 13 #[.int .u32 (s : Int), v] w fun e w' => e = .returned (.int .u32 ((crcAdd s xs : Nat) : Int)) ∧ w = w' := by
  obtain ⟨ao, cap, rfl⟩ := h.form
  have H := Lib.hid h; have HX := Lib.hid hx
  clear h hx
  obtain ⟨T, hT⟩ : ∃ T, 4294967295 - s = T := ⟨_, rfl⟩
  have hT' : (4294967295 : Int) - (s : Int) = (T : Int) := by omega
  have hT2 : T < 4294967296 := by omega
  have HT := Lib.hid hT
  clear hT
  go_enter Try.func13, Try.ntmps13
  go_wp2
  go_loopw [5, 6] (fun o5 o6 wr => ∃ k : Nat, k ≤ xs.length ∧ o6 = .int .i64 (k : Int) ∧ o5 = .int .u32 ((crcBytes T (xs.take k) : Nat) : Int) ∧ wr = w) (fun _ o6 _ => xs.length - (intOf o6).toNat)
  case atStart => exact ⟨0, Nat.zero_le _, rfl, rfl, rfl⟩
  case round =>
    obtain ⟨k, hk, rfl, rfl, rfl⟩ := hrel
    obtain ⟨wa, hwa⟩ : ∃ wa, wa = wr := ⟨_, rfl⟩
    subst hwa
    have hX := crcBytes_lt T (xs.take k) hT2 (take_lt HX.out k)
    by_cases hlt : k < xs.length
    · obtain ⟨g, off, hao, hcell⟩ : ∃ g off, ao = some ⟨g, off, none⟩ ∧ wa.cell? ⟨g, off + k, none⟩ = some (.int .u8 ((xs.getD k 0 : Nat) : Int)) := by
        rcases H.out with ⟨h0, _⟩ | ⟨g, off, cap', he, hc⟩
        · rw [h0] at hlt; simp at hlt
        · simp only [Value.slice.injEq] at he
          exact ⟨g, off, he.1, hc _ hlt⟩
      subst hao
      have hsu := crcBytes_take T xs k hlt
      have hy := getD_lt xs HX.out k
      obtain ⟨X, hXe⟩ : ∃ X, crcBytes T (xs.take k) = X := ⟨_, rfl⟩
      obtain ⟨y, hye⟩ : ∃ y, xs.getD k 0 = y := ⟨_, rfl⟩
      rw [hXe] at hsu hX ⊢
      rw [hye] at hcell hsu hy
      have HSU := Lib.hid hsu
      clear hsu hXe hye
      go_wp2
      go_loopw [5, 7] (fun o5 o7 wr => ∃ j : Nat, j ≤ 8 ∧ o7 = .int .i64 (j : Int) ∧ o5 = .int .u32 ((crcBits X (bitsOf y j) : Nat) : Int) ∧ wr = wa) (fun _ o7 _ => 8 - (intOf o7).toNat)
      case atStart => exact ⟨0, Nat.zero_le _, rfl, rfl, rfl⟩
      case round =>
        obtain ⟨j, hj, rfl, rfl, rfl⟩ := hrel
        by_cases hj8 : j < 8
        · have hx := crcBits_lt X (bitsOf y j) hX
          have hst := crcBits_step X y j
          have hb2 : y / 2 ^ j % 2 < 2 := Nat.mod_lt _ (by omega)
          rw [step_bit _ _ hb2] at hst
          have hd := Nat.div_le_self y (2 ^ j)
          obtain ⟨x, hxe⟩ : ∃ x, crcBits X (bitsOf y j) = x := ⟨_, rfl⟩
          rw [hxe] at hx hst ⊢
          obtain ⟨q, hq⟩ : ∃ q, y / 2 ^ j = q := ⟨_, rfl⟩
          rw [hq] at hst hd hb2
          have hq' : (y : Int) / 2 ^ j = (q : Int) := by rw [← hq]; simp
          clear hxe hq
          by_cases hbit : x % 2 = q % 2
          · rw [if_pos hbit] at hst
            have hne : ((x : Int) % 2 != (q : Int) % 2) = false := by rw [bne_eq_false_iff_eq]; omega
            have HST := Lib.hid hst
            clear hst
            go_wp2
            go_roundw
            case rel => exact ⟨j + 1, by omega, by go_num, by rw [HST.out]; go_num, trivial⟩
            case measure => simp [intOf]; omega
          · rw [if_neg hbit] at hst
            have hne : ((x : Int) % 2 != (q : Int) % 2) = true := by rw [bne_iff_ne]; omega
            have hxor : bits .xor .u32 ((x : Int) / 2) 3988292384 = ((x / 2 ^^^ poly : Nat) : Int) := by
              rw [← xor_u32 (x / 2) poly (by omega) (by decide)]; simp [poly]
            have HST := Lib.hid hst
            clear hst
            go_wp2
            go_roundw
            case rel => exact ⟨j + 1, by omega, by go_num, by rw [HST.out], trivial⟩
            case measure => simp [intOf]; omega
        · obtain rfl : j = 8 := by omega
          rw [crcBits_byte X y hy, ← HSU.out]
          go_wp2
          go_roundw
          case rel => exact ⟨k + 1, by omega, by go_num, rfl, trivial⟩
          case measure => simp [intOf]; omega
    · obtain rfl : k = xs.length := by omega
      rw [List.take_length] at hX ⊢
      have hca : crcAdd s xs = 4294967295 - crcBytes T xs := by unfold crcAdd; rw [HT.out]
      obtain ⟨X, hXe⟩ : ∃ X, crcBytes T xs = X := ⟨_, rfl⟩
      rw [hXe] at hca hX ⊢
      have HCA := Lib.hid hca
      clear hca hXe
      go_wp2
      go_ret
      exact ⟨congrArg (fun z => Ending.returned (Value.int .u32 z)) (by rw [HCA.out]; omega), rfl⟩

theorem r4of_any (v : Value) (xs : List Nat) (w : World) (h : RdB w v xs) (hx : ∀ x ∈ xs, x < 256) (hl : xs.length < 100000000000) :
    Calls Try.prog 11 #[v] w fun e w' => e = .returned (.int .u32 ((crcAdd 0 xs : Nat) : Int)) ∧ w = w' := by
  obtain ⟨ao, cap, rfl⟩ := h.form
  have H := Lib.hid (r4add_any _ 0 xs w h hx (by omega) hl)
  clear h hx
  go_enter Try.func11, Try.ntmps11
  go_wp2_with fail
  refine H.out.mono ?_
  rintro e w' ⟨rfl, rfl⟩
  go_wp2
  go_ret
  exact ⟨rfl, rfl⟩

end Go.Proofs.Ytcmepbgaafdcfaa
