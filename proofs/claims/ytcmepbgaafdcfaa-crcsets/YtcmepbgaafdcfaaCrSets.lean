/- The walk of CrcSets. -/
import Derived.Test.YtcmepbgaafdcfaaCrAwake
namespace Go.Proofs.Ytcmepbgaafdcfaa
open Go.RowKit

theorem iterU_succ (n x : Nat) : iterU (n + 1) x = unL (iterU n x) := by
  induction n generalizing x with
  | zero => rfl
  | succ n ih => rw [iterU, ih]; rfl

set_option maxHeartbeats 2000000 in
theorem csets_any (v : Value) (xs : List Nat) (s : Nat) (w : World) (h : RdB w v xs) (hx : ∀ x ∈ xs, x < 256) (hs : s < 4294967296) :
    Calls Try.prog 7 #[v, .int .u32 (s : Int)] w fun e w' => Says w e w' := by
  obtain ⟨ao, cap, rfl⟩ := h.form
  have H := Lib.hid h; have HX := Lib.hid hx
  clear h hx
  by_cases hbig : 300 < xs.length
  · have hb' : decide (300 < (xs.length : Int)) = true := by simp; omega
    go_enter Try.func7, Try.ntmps7
    go_wp2_with fail
    refine (awake4_any w).mono ?_
    rintro e w1 ⟨rfl, hc1⟩
    go_wp2_with fail
    refine (cnew_any w1).mono ?_
    rintro e w2 ⟨b, rfl, t2, hb, hc2⟩
    have hc2' := hc1.trans hc2 (fun _ _ h => h)
    clear hc1 hc2 t2
    go_wp2
    go_ret
    exact ⟨rfl, hc2'⟩
  have hb' : decide (300 < (xs.length : Int)) = false := by simp; omega
  obtain ⟨T, hT⟩ : ∃ T, 4294967295 - s = T := ⟨_, rfl⟩
  have hT' : (4294967295 : Int) - (s : Int) = (T : Int) := by omega
  have hT2 : T < 4294967296 := by omega
  have HT := Lib.hid hT
  clear hT
  go_enter Try.func7, Try.ntmps7
  go_wp2_with fail
  refine (awake4_any w).mono ?_
  rintro e w1 ⟨rfl, hc1⟩
  go_wp2_with fail
  refine (cnew_any w1).mono ?_
  rintro e w2 ⟨b, rfl, t2, hb, hc2⟩
  have hc2' := hc1.trans hc2 (fun _ _ h => h)
  clear hc1 hc2
  go_wp2_with fail
  refine (cof_c b _ xs w2 t2 (H.out.kept hc2' (by simp)) HX.out (by omega)).mono ?_
  rintro e w3 ⟨rfl, hc3⟩
  have t3 := t2.kept hc3 (by simp)
  have hc3' := hc2'.trans hc3 (fun _ _ h => h)
  clear t2 hc3 hc2'
  have hA2 := crcAdd_lt 0 xs
  obtain ⟨A, hA⟩ : ∃ A, crcAdd 0 xs = A := ⟨_, rfl⟩
  rw [hA] at hA2 ⊢
  clear hA
  go_wp2
  go_loopw [8, 9] (fun o8 o9 wr => ∃ k : Nat, k ≤ 32 ∧ o9 = .int .i64 (k : Int) ∧ o8 = .int .u32 ((iterU k T : Nat) : Int) ∧ wr = w3) (fun _ o9 _ => 32 - (intOf o9).toNat)
  case atStart => exact ⟨0, Nat.zero_le _, rfl, rfl, rfl⟩
  case round =>
    obtain ⟨k, hk, rfl, rfl, rfl⟩ := hrel
    have hx := iterU_lt k hT2
    by_cases hlt : k < 32
    · have hsu := iterU_succ k T
      obtain ⟨x, hxe⟩ : ∃ x, iterU k T = x := ⟨_, rfl⟩
      rw [hxe] at hx hsu ⊢
      clear hxe
      by_cases htop : x / 2147483648 = 1
      · have htop' : (x : Int) / 2147483648 = 1 := by omega
        have hxor : bits .xor .u32 (x : Int) 3988292384 = ((x ^^^ poly : Nat) : Int) := by
          rw [← xor_u32 x poly hx (by decide)]; simp [poly]
        have hlt31 := top_lt hx htop
        have hu : unL x = 2 * (x ^^^ poly) + 1 := by unfold unL; rw [if_pos htop]
        obtain ⟨z, hz⟩ : ∃ z, x ^^^ poly = z := ⟨_, rfl⟩
        rw [hz] at hxor hlt31 hu
        rw [hu] at hsu
        have HSU := Lib.hid hsu
        clear hsu hu hz
        go_wp2
        go_roundw
        case rel => exact ⟨k + 1, by omega, by go_num, by rw [HSU.out]; go_num, trivial⟩
        case measure => simp [intOf]; omega
      · have h0 : x / 2147483648 = 0 := by omega
        have htop' : (x : Int) / 2147483648 = 0 := by omega
        have hu : unL x = 2 * x := by unfold unL; rw [if_neg htop]
        rw [hu] at hsu
        have HSU := Lib.hid hsu
        clear hsu hu
        go_wp2
        go_roundw
        case rel => exact ⟨k + 1, by omega, by go_num, by rw [HSU.out]; go_num, trivial⟩
        case measure => simp [intOf]; omega
    · obtain rfl : k = 32 := by omega
      have hset := crc_sets A s hA2 hs
      rw [HT.out] at hset
      have hxor := xor_u32 (iterU 32 T) (4294967295 - A) hx (by omega)
      rw [show ((4294967295 - A : Nat) : Int) = 4294967295 - (A : Int) from by omega] at hxor
      have hY := xor_lt32 hx (show 4294967295 - A < 4294967296 by omega)
      obtain ⟨Y, hYe⟩ : ∃ Y, iterU 32 T ^^^ (4294967295 - A) = Y := ⟨_, rfl⟩
      obtain ⟨U, hUe⟩ : ∃ U, iterU 32 T = U := ⟨_, rfl⟩
      rw [hYe] at hset hxor hY
      rw [hUe] at hxor hx ⊢
      clear hYe hUe
      have HSET := Lib.hid hset
      clear hset
      have hfour : bv (four Y) = [.int .u8 ((Y : Int) % 256), .int .u8 ((Y : Int) / 256 % 256), .int .u8 ((Y : Int) / 65536 % 256), .int .u8 ((Y : Int) / 16777216)] := by
        have e4 : (((Y / 16777216 % 256 : Nat)) : Int) = (Y : Int) / 16777216 := by omega
        simp only [bv, four, List.map_cons, List.map_nil, e4]
        simp
      have hrd := rdb_alloc wr (four Y) #[.int .u8 ((Y : Int) % 256), .int .u8 ((Y : Int) / 256 % 256), .int .u8 ((Y : Int) / 65536 % 256), .int .u8 ((Y : Int) / 16777216)] 4 (0, 0) hfour.symm rfl
      have hca := Chg.alloc (fun _ => False) wr (.cells #[.int .u8 ((Y : Int) % 256), .int .u8 ((Y : Int) / 256 % 256), .int .u8 ((Y : Int) / 65536 % 256), .int .u8 ((Y : Int) / 16777216)] 5)
      have t4 := t3.kept hca (by simp)
      have hc4' := hc3'.trans hca (fun _ _ h => h)
      have HR := Lib.hid hrd; have HT4 := Lib.hid t4; have HC := Lib.hid hc4'
      clear hrd hca t4 hc4' hfour t3 hc3'
      go_wp2_with fail
      refine (cadd_c b _ A (four Y) _ HT4.out HR.out (by unfold four; intro y hy; simp at hy; omega) hA2 (by unfold four; simp)).mono ?_
      rintro e w5 ⟨rfl, hc5⟩
      rw [HSET.out]
      have hc5' := HC.out.trans hc5 (fun _ _ h => h)
      clear hc5 HC HT4 HR
      go_wp2
      go_ret
      exact ⟨rfl, hc5'⟩

end Go.Proofs.Ytcmepbgaafdcfaa
