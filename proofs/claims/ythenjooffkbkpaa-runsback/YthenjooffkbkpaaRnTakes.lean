/- RunsTakes' walk. -/
import Derived.Test.YthenjooffkbkpaaRnAwake
import Derived.Test.YthenjooffkbkpaaHsBase
namespace Go.Proofs.Ythenjooffkbkpaa
open Go.RowKit

theorem xleft_x (b : Nat) (o : Option Nat) (xs : List Nat) (p : Nat) (w : World) (h : Xr w b o (bitsB xs) p) :
    Calls Try.prog 22 #[.pointer (some ⟨b, 0, none⟩)] w fun e w' => e = .returned (.int .i64 ((8 * xs.length - p : Nat) : Int)) ∧ Chg (fun _ => False) w w' := by
  have := xleft_any b o (bitsB xs) p w h
  rwa [bitsB_length] at this

set_option maxHeartbeats 2000000 in
theorem runsTakes_walk (v u : Value) (xs : List Nat) (zs : List Int) (w : World) (h : RdB w v xs) (hxs : ∀ y ∈ xs, y < 256) (hu : RdI w u zs) (hzs : ∀ z ∈ zs, -9223372036854775808 ≤ z ∧ z ≤ 9223372036854775807) :
    Calls Try.prog 4 #[v, u] w fun e w' => e = .returned (.bool true) ∧ Chg (fun _ => False) w w' := by
  obtain ⟨ao, cap, rfl⟩ := h.form
  obtain ⟨au, capu, rfl⟩ := hu.form
  have H := Lib.hid h; have HXS := Lib.hid hxs; have HU := Lib.hid hu; have HZS := Lib.hid hzs
  clear h hxs hu hzs
  by_cases hbig : 200 < xs.length
  · have hb' : decide (200 < (xs.length : Int)) = true := decide_eq_true (by omega)
    go_enter Try.func4, Try.ntmps4
    go_wp2_with fail
    refine (awake14_any w).mono ?_
    rintro e w1 ⟨rfl, hc1⟩
    go_wp2
    go_ret
    exact ⟨rfl, hc1⟩
  have hb' : decide (200 < (xs.length : Int)) = false := decide_eq_false (by omega)
  by_cases hbig2 : 30 < zs.length
  · have hb2' : decide (30 < (zs.length : Int)) = true := decide_eq_true (by omega)
    go_enter Try.func4, Try.ntmps4
    go_wp2_with fail
    refine (awake14_any w).mono ?_
    rintro e w1 ⟨rfl, hc1⟩
    go_wp2
    go_ret
    exact ⟨rfl, hc1⟩
  have hb2' : decide (30 < (zs.length : Int)) = false := decide_eq_false (by omega)
  go_enter Try.func4, Try.ntmps4
  go_wp2_with fail
  refine (awake14_any w).mono ?_
  rintro e w1 ⟨rfl, hc1⟩
  have h1 := H.out.kept hc1 (by simp)
  have z1 := hc1.size
  go_wp2_with fail
  refine (fnew_any _ xs w1 h1 (by omega) HXS.out).mono ?_
  rintro e w2 ⟨b, o, rfl, r2, ab, hc2⟩
  have h2 := h1.kept hc2 (by simp)
  have hc2' := hc1.trans hc2 (fun _ _ h => h)
  have hl2 := r2.lt
  go_wp2_with fail
  refine (xnew_any _ xs w2 h2 (by omega) HXS.out).mono ?_
  rintro e w3 ⟨b', o', rfl, x3, ab', hc3⟩
  have r3 := r2.kept hc3 (by simp) (by simp)
  have hc3' := hc2'.trans hc3 (fun _ _ h => h)
  have HD : Hid (b' ≠ b ∧ (∀ q, o' = some q → ¬ q = b) ∧ b ≠ b' ∧ (∀ q, o = some q → ¬ q = b')) := by
    refine Lib.hid ⟨by have := ab'.1; omega, fun q hq => by have := ab'.2 q hq; omega, by have := ab'.1; omega, fun q hq => by have := (hl2.2 q hq).1; have := ab'.1; omega⟩
  have HB : Hid (w.heap.size ≤ b ∧ w.heap.size ≤ b') := Lib.hid ⟨by have := ab.1; omega, by have := ab'.1; have := hc2'.size; omega⟩
  have R3 := Lib.hid r3; have X3 := Lib.hid x3; have C3 := Lib.hid hc3'
  clear h1 h2 hc1 hc2 hc3 hc2' r2 ab ab' hl2 z1 r3 x3 hc3'
  go_wp2
  go_loopw [8, 9, 10, 11, 12] (fun o8 _ _ _ _ wr => ∃ (k p : Nat), k ≤ zs.length ∧ o8 = .int .i64 (k : Int) ∧ Rf wr b o xs p ∧ Xr wr b' o' (bitsB xs) p ∧ Chg (fun _ => False) w wr) (fun o8 _ _ _ _ _ => zs.length - (intOf o8).toNat)
  case atStart => exact ⟨0, 0, Nat.zero_le _, rfl, R3.out, X3.out, C3.out⟩
  case round =>
    obtain ⟨k, p, hk, rfl, r, x, hc⟩ := hrel
    clear R3 X3 C3
    by_cases hlt : k < zs.length
    · obtain ⟨gu, offu, rfl, hcell⟩ := (HU.out.kept hc (by simp)).at k hlt
      have hz := HZS.out _ (getD_mem hlt)
      have HK : Hid (∀ W : World, Chg (fun _ => False) w W → W.cell? ⟨gu, offu + k, none⟩ = some (.int .i64 (zs.getD k 0))) := by
        refine Lib.hid fun W hW => ?_
        obtain ⟨g', off', he, hcc⟩ := (HU.out.kept hW (by simp)).at k hlt
        simp only [Option.some.injEq, Addr.mk.injEq, and_true] at he
        obtain ⟨rfl, rfl⟩ := he
        exact hcc
      obtain ⟨n, hn⟩ : ∃ n, zs.getD k 0 = n := ⟨_, rfl⟩
      rw [hn] at hcell HK hz
      have T1 := Lib.hid (rntake_any b o xs p n wr r hz)
      have T2 := Lib.hid fun W (hX : Xr W b' o' (bitsB xs) p) => r14take_any b' o' xs p n W hX
      have hle := rnTk_le xs p n r.2.2.1
      obtain ⟨f1, hf1⟩ : ∃ f1, (rnTk xs p n).1 = f1 := ⟨_, rfl⟩
      obtain ⟨f2, hf2⟩ : ∃ f2, (rnTk xs p n).2.1 = f2 := ⟨_, rfl⟩
      obtain ⟨q, hq⟩ : ∃ q, (rnTk xs p n).2.2 = q := ⟨_, rfl⟩
      rw [hf1, hf2, hq] at T1 T2
      rw [hq] at hle
      have X := Lib.hid x; have C := Lib.hid hc; have HLT := Lib.hid hlt
      clear hn hf1 hf2 hq r x hc
      go_wp2_with fail
      refine (T1.out).mono ?_
      rintro e w5 ⟨rfl, r5, hc5⟩
      have x5 := X.out.kept hc5 HD.out.1 HD.out.2.1
      have hc5' := C.out.trans hc5 (S := fun _ => False) (fun i hi (hh : i = b) => by have := HB.out.1; omega)
      have hcell := HK.out w5 hc5'
      have T3 := Lib.hid (T2.out w5 x5)
      have R5 := Lib.hid r5; have C5 := Lib.hid hc5'
      clear r5 x5 hc5 hc5' T1 T2 X C
      go_wp2_with fail
      refine (T3.out).mono ?_
      rintro e w6 ⟨rfl, x6, hc6⟩
      have r6 := R5.out.kept hc6 HD.out.2.2.1 HD.out.2.2.2
      have hc6' := C5.out.trans hc6 (S := fun _ => False) (fun i hi (hh : i = b') => by have := HB.out.2; omega)
      have X6 := Lib.hid x6; have R6 := Lib.hid r6; have C6 := Lib.hid hc6'
      clear x6 r6 hc6 hc6' R5 C5 T3 hcell
      obtain ⟨L, hL⟩ : ∃ L, 8 * xs.length - q = L := ⟨_, rfl⟩
      have HL := Lib.hid hL
      clear hL
      go_wp2_with fail
      refine (fleft_any b o xs q w6 R6.out).mono ?_
      rintro e w7 ⟨rfl, hc7⟩
      rw [HL.out]
      have X7 := Lib.hid (X6.out.kept hc7 (by simp) (by simp)); have R7 := Lib.hid (R6.out.kept hc7 (by simp) (by simp)); have C7 := Lib.hid (C6.out.trans hc7 (fun _ _ h => h))
      clear hc7 X6 R6 C6
      go_wp2_with fail
      refine (xleft_x b' o' xs q w7 X7.out).mono ?_
      rintro e w8 ⟨rfl, hc8⟩
      rw [HL.out]
      have X8 := Lib.hid (X7.out.kept hc8 (by simp) (by simp)); have R8 := Lib.hid (R7.out.kept hc8 (by simp) (by simp)); have C8 := Lib.hid (C7.out.trans hc8 (fun _ _ h => h))
      clear hc8 X7 R7 C7
      go_wp2
      go_roundw
      case rel => exact ⟨k + 1, q, by have := HLT.out; omega, by go_num, R8.out, X8.out, C8.out⟩
      case measure => simp [intOf]; have := HLT.out; omega
    · obtain rfl : k = zs.length := by omega
      have R := Lib.hid r; have X := Lib.hid x; have C := Lib.hid hc
      obtain ⟨L, hL⟩ : ∃ L, 8 * xs.length - p = L := ⟨_, rfl⟩
      have HL := Lib.hid hL
      clear r x hc hL
      go_wp2_with fail
      refine (fleft_any b o xs p wr R.out).mono ?_
      rintro e w7 ⟨rfl, hc7⟩
      rw [HL.out]
      have X7 := Lib.hid (X.out.kept hc7 (by simp) (by simp)); have C7 := Lib.hid (C.out.trans hc7 (fun _ _ h => h))
      clear hc7 X C
      go_wp2_with fail
      refine (xleft_x b' o' xs p w7 X7.out).mono ?_
      rintro e w8 ⟨rfl, hc8⟩
      rw [HL.out]
      have C8 := Lib.hid (C7.out.trans hc8 (fun _ _ h => h))
      clear hc8 X7 C7
      go_wp2
      go_ret
      exact ⟨rfl, C8.out⟩

end Go.Proofs.Ythenjooffkbkpaa
