/- The walk of BitfSplits. -/
import Derived.Test.YtbpfgmgbikagoaaBfAwake
namespace Go.Proofs.Ytbpfgmgbikagoaa
open Go.RowKit

/-- what Take tells, whether it does, and how many bits are taken then -/
def ftk (xs : List Nat) (p : Nat) (n : Int) : Nat × Bool × Nat := if 0 ≤ n ∧ n ≤ 24 ∧ (p : Int) + n ≤ 8 * xs.length then (fv xs p n.toNat, true, p + n.toNat) else (0, false, p)

theorem ftake_f (b : Nat) (o : Option Nat) (xs : List Nat) (p : Nat) (n : Int) (w : World) (h : Rf w b o xs p) :
    Calls Try.prog 12 #[.pointer (some ⟨b, 0, none⟩), .int .i64 n] w fun e w' => e = .returned (.tuple #[.int .u32 (((ftk xs p n).1 : Nat) : Int), .bool (ftk xs p n).2.1]) ∧ Rf w' b o xs (ftk xs p n).2.2 ∧ Chg (fun k => k = b) w w' := by
  have hp := h.2.2.1
  refine (ftake_any b o xs p n w h).mono ?_
  rintro e w' (⟨m, rfl, h1, h2, rfl, hr, hc⟩ | ⟨hn, rfl, hr, hc⟩)
  · have e1 : ftk xs p (m : Int) = (fv xs p m, true, p + m) := by unfold ftk; rw [if_pos (by omega)]; rfl
    rw [e1]; exact ⟨rfl, hr, hc⟩
  · have e1 : ftk xs p n = (0, false, p) := by unfold ftk; rw [if_neg (by omega)]
    rw [e1]; exact ⟨rfl, hr, hc.mono (fun _ _ h => h.elim)⟩

theorem fv_split (xs : List Nat) (p k c : Nat) (hc : c ≤ k) (hl : p + k ≤ 8 * xs.length) : fv xs p k = fv xs p c + 2 ^ c * fv xs (p + c) (k - c) := by
  unfold fv
  have e : ((bitsB xs).drop p).take k = ((bitsB xs).drop p).take c ++ ((bitsB xs).drop (p + c)).take (k - c) := by
    rw [← List.drop_drop, ← List.take_add]; congr 1; omega
  have el : (((bitsB xs).drop p).take c).length = c := by rw [List.length_take, List.length_drop, bitsB_length]; omega
  rw [e, val_append, el]

theorem ftk_le (xs : List Nat) (p : Nat) (n : Int) (h : p ≤ 8 * xs.length) : (ftk xs p n).2.2 ≤ 8 * xs.length := by
  unfold ftk; split
  · show p + n.toNat ≤ _; omega
  · exact h

set_option maxHeartbeats 2000000 in
set_option maxRecDepth 100000 in
theorem fsplits_any (v : Value) (xs : List Nat) (ah n a : Nat) (w : World) (h : RdB w v xs) (hx : ∀ x ∈ xs, x < 256) (hah : ah < 256) (hn : n < 256) (ha : a < 256) :
    Calls Try.prog 5 #[v, .int .u8 (ah : Int), .int .u8 (n : Int), .int .u8 (a : Int)] w fun e w' => Says w e w' := by
  obtain ⟨ao, cap, hv⟩ := h.form
  subst hv
  have H := Lib.hid h
  clear h
  by_cases hbig : 200 < xs.length
  · go_enter Try.func5, Try.ntmps5
    go_wp2_with fail
    refine (awake3_any w).mono ?_
    rintro e w1 ⟨rfl, hc1⟩
    go_wp2
    go_ret
    exact ⟨rfl, hc1⟩
  · obtain ⟨k, hk, hk24⟩ : ∃ k : Nat, (n : Int) % 25 = (k : Int) ∧ k ≤ 24 := ⟨n % 25, by omega, by omega⟩
    obtain ⟨q, hq, hq24⟩ : ∃ k : Nat, (ah : Int) % 25 = (k : Int) ∧ k ≤ 24 := ⟨ah % 25, by omega, by omega⟩
    obtain ⟨c, hm, hck⟩ : ∃ c : Nat, (a : Int) % ((k : Int) + 1) = (c : Int) ∧ c ≤ k := ⟨a % (k + 1), by simp, by have := Nat.mod_lt a (show k + 1 > 0 by omega); omega⟩
    obtain ⟨j, hj⟩ : ∃ j : Nat, (k : Int) - (c : Int) = (j : Int) := ⟨k - c, by omega⟩
    have HX := Lib.hid hx
    clear hx
    go_enter Try.func5, Try.ntmps5
    go_wp2_with fail
    refine (awake3_any w).mono ?_
    rintro e w1 ⟨rfl, hc1⟩
    have h1 := H.out.kept hc1 (by simp)
    go_wp2_with fail
    refine (fnew_any _ xs w1 h1 (by omega) HX.out).mono ?_
    rintro e w2 ⟨b, o, rfl, r2, ab, hc2⟩
    have h2 := h1.kept hc2 (by simp)
    have z1 := hc1.size
    have hc2' := hc1.trans hc2 (fun _ _ h => h)
    go_wp2_with fail
    refine (fnew_any _ xs w2 h2 (by omega) HX.out).mono ?_
    rintro e w3 ⟨b', o', rfl, r3', ab', hc3⟩
    have r3 := r2.kept hc3 (by simp) (by simp)
    have hl2 := r2.lt
    have hc3' := hc2'.trans hc3 (fun _ _ h => h)
    have HD : Hid (b' ≠ b ∧ (∀ q, o' = some q → ¬ q = b) ∧ b ≠ b' ∧ (∀ q, o = some q → ¬ q = b')) := by
      refine Lib.hid ⟨by have := ab'.1; omega, fun q hq => by have := ab'.2 q hq; omega, by have := ab'.1; omega, fun q hq => by have := (hl2.2 q hq).1; have := ab'.1; omega⟩
    have HB : Hid (w.heap.size ≤ b ∧ w.heap.size ≤ b') := Lib.hid ⟨by have := ab.1; omega, by have := ab'.1; have := hc2'.size; omega⟩
    clear h1 h2 hc1 hc2 hc3 hc2' r2 ab ab' hl2 z1
    go_wp2_with fail
    refine (ftake_f b o xs 0 (q : Int) w3 r3).mono ?_
    rintro e w4 ⟨rfl, r4, hc4⟩
    have r4' := r3'.kept hc4 HD.out.1 HD.out.2.1
    have hc4' := hc3'.trans hc4 (S := fun _ => False) (fun i hi h => by have := HB.out; omega)
    have hple := ftk_le xs 0 (q : Int) (Nat.zero_le _)
    clear r3 r3' hc4 hc3'
    generalize hF : ftk xs 0 (q : Int) = F at *
    obtain ⟨v0, ok0, p⟩ := F
    simp only at r4 hple ⊢
    have HF := Lib.hid hF
    clear hF
    go_wp2_with fail
    refine (ftake_f b' o' xs 0 (q : Int) w4 r4').mono ?_
    rintro e w5 ⟨rfl, r5', hc5⟩
    have r5 := r4.kept hc5 HD.out.2.2.1 HD.out.2.2.2
    have hc5' := hc4'.trans hc5 (S := fun _ => False) (fun i hi h => by have := HB.out; omega)
    clear r4 r4' hc5 hc4'
    rw [HF.out] at r5' ⊢
    simp only at r5' ⊢
    clear HF
    go_wp2_with fail
    refine (fleft_any b o xs p w5 r5).mono ?_
    rintro e w6 ⟨rfl, hc6⟩
    have r6 := r5.kept hc6 (by simp) (by simp)
    have r6' := r5'.kept hc6 (by simp) (by simp)
    have hc6' := hc5'.trans hc6 (fun _ _ h => h)
    clear r5 r5' hc6 hc5'
    obtain ⟨L, hL⟩ : ∃ L, 8 * xs.length - p = L := ⟨_, rfl⟩
    rw [hL]
    have HL := Lib.hid hL
    clear hL
    by_cases hle : L < k
    · have hle' : (L : Int) < (k : Int) := by omega
      go_wp2
      go_ret
      exact ⟨rfl, hc6'⟩
    · have hle' : ¬ (L : Int) < (k : Int) := by omega
      have hpk : p + k ≤ 8 * xs.length := by have := HL.out; omega
      go_wp2_with fail
      refine (ftake_in b o xs p (k : Int) w6 r6 (by omega) (by omega) (by omega)).mono ?_
      rintro e w7 ⟨rfl, r7, hc7⟩
      have r7' := r6'.kept hc7 HD.out.1 HD.out.2.1
      have hc7' := hc6'.trans hc7 (S := fun _ => False) (fun i hi h => by have := HB.out; omega)
      clear r6 r6' hc7 hc6'
      go_wp2_with fail
      refine (ftake_in b' o' xs p (c : Int) w7 r7' (by omega) (by omega) (by omega)).mono ?_
      rintro e w8 ⟨rfl, r8', hc8⟩
      have r8 := r7.kept hc8 HD.out.2.2.1 HD.out.2.2.2
      have hc8' := hc7'.trans hc8 (S := fun _ => False) (fun i hi h => by have := HB.out; omega)
      clear r7 r7' hc8 hc7'
      rw [Int.toNat_natCast] at r8 r8'
      go_wp2_with fail
      refine (ftake_in b' o' xs (p + c) (j : Int) w8 r8' (by omega) (by omega) (by omega)).mono ?_
      rintro e w9 ⟨rfl, r9', hc9⟩
      have r9 := r8.kept hc9 HD.out.2.2.1 HD.out.2.2.2
      have hc9' := hc8'.trans hc9 (S := fun _ => False) (fun i hi h => by have := HB.out; omega)
      clear r8 r8' hc9 hc8'
      rw [Int.toNat_natCast] at r9'
      simp only [Int.toNat_natCast]
      have hs := fv_split xs p k c hck hpk
      rw [show k - c = j from by omega] at hs
      rw [show p + c + j = p + k from by omega] at r9'
      have hor := or_high (fv xs (p + c) j) (fv xs p c) c (fv_lt _ _ _) (by rw [← hs]; have := fv_lt xs p k; have : 2 ^ k ≤ 2 ^ 24 := Nat.pow_le_pow_right (by omega) hk24; omega)
      rw [← hs] at hor
      clear hs
      generalize fv xs (p + c) j = hi at *
      generalize fv xs p c = lo at *
      generalize fv xs p k = vv at *
      go_wp2_with fail
      refine (fleft_any b o xs (p + k) w9 r9).mono ?_
      rintro e w10 ⟨rfl, hc10⟩
      have r10' := r9'.kept hc10 (by simp) (by simp)
      have hc10' := hc9'.trans hc10 (fun _ _ h => h)
      clear r9 r9' hc10 hc9'
      obtain ⟨M, hM⟩ : ∃ M, 8 * xs.length - (p + k) = M := ⟨_, rfl⟩
      rw [hM]
      have HM := Lib.hid hM
      clear hM
      go_wp2_with fail
      refine (fleft_any b' o' xs (p + k) w10 r10').mono ?_
      rintro e w11 ⟨rfl, hc11⟩
      have hc11' := hc10'.trans hc11 (fun _ _ h => h)
      rw [HM.out]
      go_wp2
      go_ret
      exact ⟨rfl, hc11'⟩

end Go.Proofs.Ytbpfgmgbikagoaa
