/- The walk of BitrSplits. -/
import Derived.Test.YtdejfoemofhpdaaBrAwake
namespace Go.Proofs.Ytdejfoemofhpdaa
open Go.RowKit

theorem RdB.form {w : World} {v : Value} {xs : List Nat} (h : RdB w v xs) : ∃ ao cap, v = .slice ao xs.length cap := by
  rcases h with ⟨rfl, ao, c, rfl⟩ | ⟨g, off, cap, rfl, _⟩
  · exact ⟨ao, c, rfl⟩
  · exact ⟨_, cap, rfl⟩

theorem or_high (hi lo j : Nat) (hlo : lo < 2 ^ j) (hb : lo + 2 ^ j * hi < 4294967296) : bits .or .u32 ((hi : Int) * 2 ^ j % 4294967296) (lo : Int) = ((lo + 2 ^ j * hi : Nat) : Int) := by
  have e : ((hi : Int) * 2 ^ j % 4294967296) = ((2 ^ j * hi : Nat) : Int) := by
    have e1 : ((hi : Int) * 2 ^ j) = ((2 ^ j * hi : Nat) : Int) := by simp [Int.mul_comm]
    rw [e1]
    generalize 2 ^ j * hi = z at *
    omega
  rw [e, bits_or_nat .u32 wraps_u32 _ lo (by simp only [IntKind.bits]; omega) (by simp only [IntKind.bits]; omega)]
  congr 1
  have := Nat.two_pow_add_eq_or_of_lt hlo hi
  omega

/-- two Readers side by side: one is taken from, the other stays -/
theorem Rr.apart {w w' : World} {b g b' g' : Nat} {bs : List Bool} (h : Rr w b' g' bs) (hc : Chg (fun k => k = b) w w') (h1 : b' ≠ b) (h2 : g' ≠ b) : Rr w' b' g' bs := h.kept hc h1 h2

set_option maxHeartbeats 2000000 in
set_option maxRecDepth 100000 in
theorem rsplits_any (v : Value) (xs : List Nat) (n a : Nat) (w : World) (h : RdB w v xs) (hx : ∀ x ∈ xs, x < 256) (hn : n < 256) (ha : a < 256) :
    Calls Try.prog 5 #[v, .int .u8 (n : Int), .int .u8 (a : Int)] w fun e w' => Says w e w' := by
  obtain ⟨ao, cap, hv⟩ := h.form
  subst hv
  have H := Lib.hid h
  clear h
  by_cases hbig : 200 < xs.length
  · go_enter Try.func5, Try.ntmps5
    go_wp2_with fail
    refine (awake2_any w).mono ?_
    rintro e w1 ⟨rfl, hc1⟩
    go_wp2
    go_ret
    exact ⟨rfl, hc1⟩
  · obtain ⟨k, hk, hk24⟩ : ∃ k : Nat, (n : Int) % 25 = (k : Int) ∧ k ≤ 24 := ⟨n % 25, by omega, by omega⟩
    obtain ⟨c, hm, hck⟩ : ∃ c : Nat, (a : Int) % ((k : Int) + 1) = (c : Int) ∧ c ≤ k := ⟨a % (k + 1), by simp, by have := Nat.mod_lt a (show k + 1 > 0 by omega); omega⟩
    obtain ⟨j, hj⟩ : ∃ j : Nat, (k : Int) - (c : Int) = (j : Int) := ⟨k - c, by omega⟩
    have HX := Lib.hid hx
    clear hx
    by_cases hmk : Marked xs
    · go_enter Try.func5, Try.ntmps5
      go_wp2_with fail
      refine (awake2_any w).mono ?_
      rintro e w1 ⟨rfl, hc1⟩
      have h1 := H.out.kept hc1 (by simp)
      go_wp2_with fail
      refine (rnew_ok _ xs w1 h1 hmk (by omega) HX.out).mono ?_
      rintro e w2 ⟨b, g, rfl, r2, zb, zg, hc2⟩
      have h2 := h1.kept hc2 (by simp)
      have z1 := hc1.size
      have hc2' := hc1.trans hc2 (fun _ _ h => h)
      go_wp2_with fail
      refine (rnew_ok _ xs w2 h2 hmk (by omega) HX.out).mono ?_
      rintro e w3 ⟨b', g', rfl, r3', zb', zg', hc3⟩
      have r3 := r2.kept hc3 (by simp) (by simp)
      have hl2 := r2.lt
      have hc3' := hc2'.trans hc3 (fun _ _ h => h)
      have hd1 : b' ≠ b ∧ g' ≠ b ∧ b ≠ b' ∧ g ≠ b' := by omega
      have hB : w.heap.size ≤ b ∧ w.heap.size ≤ b' := by omega
      clear h1 h2 hc1 hc2 hc3 hc2' r2 zb zg zb' zg' hl2 z1
      obtain ⟨bs, hbs⟩ : ∃ bs, openB xs = bs := ⟨_, rfl⟩
      rw [hbs] at r3 r3'
      have HD := Lib.hid hd1; have HBB := Lib.hid hB
      clear hd1 hB hbs
      go_wp2_with fail
      refine (left_any b g bs w3 r3).mono ?_
      rintro e w4 ⟨rfl, rfl⟩
      by_cases hle : bs.length < k
      · have hle' : (bs.length : Int) < (k : Int) := by omega
        go_wp2
        go_ret
        exact ⟨rfl, hc3'⟩
      · have hle' : ¬ (bs.length : Int) < (k : Int) := by omega
        go_wp2_with fail
        refine (take_in b g bs (k : Int) w3 r3 (by omega) (by omega) (by omega)).mono ?_
        rintro e w5 ⟨rfl, r5, hc5⟩
        have r5' := r3'.kept hc5 HD.out.1 HD.out.2.1
        have hc5' := hc3'.trans hc5 (S := fun _ => False) (fun i hi h => by have := HBB.out; omega)
        clear r3 r3' hc5 hc3'
        go_wp2_with fail
        refine (take_in b' g' bs (c : Int) w5 r5' (by omega) (by omega) (by omega)).mono ?_
        rintro e w6 ⟨rfl, r6', hc6⟩
        have r6 := r5.kept hc6 HD.out.2.2.1 HD.out.2.2.2
        have hc6' := hc5'.trans hc6 (S := fun _ => False) (fun i hi h => by have := HBB.out; omega)
        clear r5 r5' hc6 hc5'
        rw [Int.toNat_natCast] at r6 r6'
        go_wp2_with fail
        refine (take_in b' g' (takeR bs c) (j : Int) w6 r6' (by omega) (by omega) (by rw [takeR_length]; omega)).mono ?_
        rintro e w7 ⟨rfl, r7', hc7⟩
        have r7 := r6.kept hc7 HD.out.2.2.1 HD.out.2.2.2
        have hc7' := hc6'.trans hc7 (S := fun _ => False) (fun i hi h => by have := HBB.out; omega)
        clear r6 r6' hc7 hc6'
        rw [Int.toNat_natCast] at r7'
        simp only [Int.toNat_natCast]
        have hs := take_split bs k c (by omega) (by omega)
        rw [show k - c = j from by omega] at hs
        rw [← hs.2] at r7'
        have hor := or_high (takeV bs c) (takeV (takeR bs c) j) j (takeV_lt _ _) (by rw [← hs.1]; have := takeV_lt bs k; have : 2 ^ k ≤ 2 ^ 24 := Nat.pow_le_pow_right (by omega) hk24; omega)
        rw [← hs.1] at hor
        clear hs
        generalize takeV (takeR bs c) j = lo at *
        generalize takeV bs c = hi at *
        generalize takeV bs k = vv at *
        go_wp2_with fail
        refine (left_any b g _ w7 r7).mono ?_
        rintro e w8 ⟨rfl, rfl⟩
        go_wp2_with fail
        refine (left_any b' g' _ w7 r7').mono ?_
        rintro e w8 ⟨rfl, rfl⟩
        go_wp2
        go_ret
        exact ⟨rfl, hc7'⟩
    · go_enter Try.func5, Try.ntmps5
      go_wp2_with fail
      refine (awake2_any w).mono ?_
      rintro e w1 ⟨rfl, hc1⟩
      have h1 := H.out.kept hc1 (by simp)
      go_wp2_with fail
      refine (rnew_no _ xs w1 h1 hmk (by omega)).mono ?_
      rintro e w2 ⟨rfl, rfl⟩
      go_wp2_with fail
      refine (rnew_no _ xs w1 h1 hmk (by omega)).mono ?_
      rintro e w2 ⟨rfl, rfl⟩
      clear h1
      go_wp2
      go_ret
      exact ⟨rfl, hc1⟩

end Go.Proofs.Ytdejfoemofhpdaa
