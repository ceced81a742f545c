/- The walk of BitfPlays. -/
import Derived.Test.YtbpfgmgbikagoaaBfRef
import Derived.Test.YtbpfgmgbikagoaaOpGen
namespace Go.Proofs.Ytbpfgmgbikagoaa
open Go.RowKit

theorem RdI.form {w : World} {v : Value} {zs : List Int} (h : RdI w v zs) : ∃ ao cap, v = .slice ao zs.length cap := by
  rcases h with ⟨rfl, ao, c, rfl⟩ | ⟨g, off, cap, rfl, _⟩
  · exact ⟨ao, c, rfl⟩
  · exact ⟨_, cap, rfl⟩

theorem RdI.cellsK {w : World} {ao : Option Addr} {n cap : Nat} {zs : List Int} (h : RdI w (.slice ao n cap) zs) (k : Nat) (hk : k < zs.length) : ∃ g off, ao = some ⟨g, off, none⟩ ∧ w.cell? ⟨g, off + k, none⟩ = some (.int .i64 (zs.getD k 0)) := by
  rcases h with ⟨h0, _⟩ | ⟨g, off, cap', he, hc⟩
  · rw [h0] at hk; simp at hk
  · simp only [Value.slice.injEq] at he
    exact ⟨g, off, he.1, hc k hk⟩

theorem xleft_x (b : Nat) (o : Option Nat) (xs : List Nat) (p : Nat) (w : World) (h : Xr w b o (bitsB xs) p) :
    Calls Try.prog 15 #[.pointer (some ⟨b, 0, none⟩)] w fun e w' => e = .returned (.int .i64 ((8 * xs.length - p : Nat) : Int)) ∧ Chg (fun _ => False) w w' := by
  have := xleft_any b o (bitsB xs) p w h
  rwa [bitsB_length] at this

set_option maxHeartbeats 4000000 in
set_option maxRecDepth 100000 in
theorem fplays_any (v u : Value) (xs : List Nat) (zs : List Int) (w : World) (h : RdB w v xs) (hxs : ∀ y ∈ xs, y < 256) (hu : RdI w u zs) :
    Calls Try.prog 3 #[v, u] w fun e w' => Says w e w' := by
  obtain ⟨ao, cap, hv⟩ := h.form
  subst hv
  obtain ⟨au, capu, hvu⟩ := hu.form
  subst hvu
  have H := Lib.hid h; have HXS := Lib.hid hxs; have HU := Lib.hid hu
  clear h hxs hu
  by_cases hbig : 200 < xs.length
  · have hb' : decide (200 < (xs.length : Int)) = true := by simp; omega
    go_enter Try.func3, Try.ntmps3
    go_wp2_with fail
    refine (awake3_any w).mono ?_
    rintro e w1 ⟨rfl, hc1⟩
    go_wp2
    go_ret
    exact ⟨rfl, hc1⟩
  have hb' : decide (200 < (xs.length : Int)) = false := by simp; omega
  by_cases hbig2 : 60 < zs.length
  · have hb2' : decide (60 < (zs.length : Int)) = true := by simp; omega
    go_enter Try.func3, Try.ntmps3
    go_wp2_with fail
    refine (awake3_any w).mono ?_
    rintro e w1 ⟨rfl, hc1⟩
    go_wp2
    go_ret
    exact ⟨rfl, hc1⟩
  have hb2' : decide (60 < (zs.length : Int)) = false := by simp; omega
  go_enter Try.func3, Try.ntmps3
  go_wp2_with fail
  refine (awake3_any w).mono ?_
  rintro e w1 ⟨rfl, hc1⟩
  have h1 := H.out.kept hc1 (by simp)
  have z1 := hc1.size
  go_wp2_with fail
  refine (fnew_any _ xs w1 h1 (by omega) HXS.out).mono ?_
  rintro e w2 ⟨b, o, rfl, r2, ab, hc2⟩
  have h2 := h1.kept hc2 (by simp)
  have hc2' := hc1.trans hc2 (fun _ _ h => h)
  have hl2 := r2.lt
  go_wp2_with fail
  refine (xnew_any _ xs w2 h2 (by omega) HXS.out).mono ?_
  rintro e w3 ⟨b', o', rfl, x3, ab', hc3⟩
  have r3 := r2.kept hc3 (by simp) (by simp)
  have hc3' := hc2'.trans hc3 (fun _ _ h => h)
  have HD : Hid (b' ≠ b ∧ (∀ q, o' = some q → ¬ q = b) ∧ b ≠ b' ∧ (∀ q, o = some q → ¬ q = b')) := by
    refine Lib.hid ⟨by have := ab'.1; omega, fun q hq => by have := ab'.2 q hq; omega, by have := ab'.1; omega, fun q hq => by have := (hl2.2 q hq).1; have := ab'.1; omega⟩
  have HB : Hid (w.heap.size ≤ b ∧ w.heap.size ≤ b') := Lib.hid ⟨by have := ab.1; omega, by have := ab'.1; have := hc2'.size; omega⟩
  clear h1 h2 hc1 hc2 hc3 hc2' r2 ab ab' hl2 z1
  go_wp2
  go_loopw [8] (fun o8 wr => ∃ (k p : Nat), k ≤ zs.length ∧ o8 = .int .i64 (k : Int) ∧ Rf wr b o xs p ∧ Xr wr b' o' (bitsB xs) p ∧ Chg (fun _ => False) w wr) (fun o8 _ => zs.length - (intOf o8).toNat)
  case atStart => exact ⟨0, 0, Nat.zero_le _, rfl, r3, x3, hc3'⟩
  case round =>
    obtain ⟨k, p, hk, rfl, r, x, hc⟩ := hrel
    clear r3 x3 hc3'
    by_cases hlt : k < zs.length
    · obtain ⟨gu, offu, hau, hcell⟩ := (HU.out.kept hc (by simp)).cellsK k hlt
      subst hau
      have HK : Hid (∀ W : World, Chg (fun _ => False) w W → W.cell? ⟨gu, offu + k, none⟩ = some (.int .i64 (zs.getD k 0))) := by
        refine Lib.hid fun W hW => ?_
        obtain ⟨g', off', he, hcc⟩ := (HU.out.kept hW (by simp)).cellsK k hlt
        simp only [Option.some.injEq, Addr.mk.injEq, and_true] at he
        obtain ⟨rfl, rfl⟩ := he
        exact hcc
      obtain ⟨n, hn⟩ : ∃ n, zs.getD k 0 = n := ⟨_, rfl⟩
      rw [hn] at hcell HK
      clear hn
      by_cases hn2 : n = -2
      · subst hn2
        clear HK
        go_wp2_with fail
        refine (fpad_any b o xs p wr r).mono ?_
        rintro e w5 (⟨hcl, rfl, r5, hc5⟩ | ⟨hcl, rfl, rfl⟩)
        · have x5 := x.kept hc5 HD.out.1 HD.out.2.1
          have hc5' := hc.trans hc5 (S := fun _ => False) (fun i hi h => by have := HB.out; omega)
          clear r x hc5 hc hcell
          go_wp2_with fail
          refine (xpad_any b' o' xs p w5 x5).mono ?_
          rintro e w6 (⟨-, rfl, x6, hc6⟩ | ⟨hno, -, -⟩)
          · have r6 := r5.kept hc6 HD.out.2.2.1 HD.out.2.2.2
            have hc6' := hc5'.trans hc6 (S := fun _ => False) (fun i hi h => by have := HB.out; omega)
            clear r5 x5 hc6 hc5'
            generalize 8 * ((p + 7) / 8) = p' at *
            go_wp2_with fail
            refine (fleft_any b o xs p' w6 r6).mono ?_
            rintro e w7 ⟨rfl, hc7⟩
            have x7 := x6.kept hc7 (by simp) (by simp)
            have r7 := r6.kept hc7 (by simp) (by simp)
            have hc7' := hc6'.trans hc7 (fun _ _ h => h)
            clear r6 x6 hc7 hc6'
            obtain ⟨L, hL⟩ : ∃ L, 8 * xs.length - p' = L := ⟨_, rfl⟩
            rw [hL]
            have HL := Lib.hid hL
            clear hL
            go_wp2_with fail
            refine (xleft_x b' o' xs p' w7 x7).mono ?_
            rintro e w8 ⟨rfl, hc8⟩
            rw [HL.out]
            have x8 := x7.kept hc8 (by simp) (by simp)
            have r8 := r7.kept hc8 (by simp) (by simp)
            have hc8' := hc7'.trans hc8 (fun _ _ h => h)
            clear r7 x7 hc8 hc7' HL
            go_wp2_with fail
            refine (frest_q b o xs p' _ w8 r8 rfl).mono ?_
            rintro e w9 ⟨v9, rfl, rd9, hc9⟩
            have x9 := x8.kept hc9 (by simp) (by simp)
            have r9 := r8.kept hc9 (by simp) (by simp)
            have hc9' := hc8'.trans hc9 (fun _ _ h => h)
            clear r8 x8 hc9 hc8'
            go_wp2_with fail
            refine (xrest_any b' o' xs p' w9 x9 HXS.out).mono ?_
            rintro e w10 ⟨v10, rfl, rd10, hc10⟩
            have x10 := x9.kept hc10 (by simp) (by simp)
            have r10 := r9.kept hc10 (by simp) (by simp)
            have rd9' := rd9.kept hc10 (by simp)
            have hc10' := hc9'.trans hc10 (fun _ _ h => h)
            clear r9 x9 hc10 hc9' rd9
            go_wp2_with fail
            refine (same_eq _ _ _ w10 rd9' rd10 (drop_bytes HXS.out _)).mono ?_
            rintro e w11 ⟨rfl, rfl⟩
            clear rd9' rd10
            go_wp2
            go_roundw
            case rel => exact ⟨k + 1, p', by omega, by go_num, r10, x10, hc10'⟩
            case measure => simp [intOf]; omega
          · exact absurd hcl hno
        · go_wp2_with fail
          refine (xpad_any b' o' xs p wr x).mono ?_
          rintro e w6 (⟨hno, -, -, -⟩ | ⟨-, rfl, rfl⟩)
          · exact absurd hno hcl
          · have r6 := r
            have x6 := x
            have hc6' := hc
            clear r x hc hcell
            obtain ⟨p', hp'⟩ : ∃ p', p' = p := ⟨_, rfl⟩
            subst hp'
            go_wp2_with fail
            refine (fleft_any b o xs p' wr r6).mono ?_
            rintro e w7 ⟨rfl, hc7⟩
            have x7 := x6.kept hc7 (by simp) (by simp)
            have r7 := r6.kept hc7 (by simp) (by simp)
            have hc7' := hc6'.trans hc7 (fun _ _ h => h)
            clear r6 x6 hc7 hc6'
            obtain ⟨L, hL⟩ : ∃ L, 8 * xs.length - p' = L := ⟨_, rfl⟩
            rw [hL]
            have HL := Lib.hid hL
            clear hL
            go_wp2_with fail
            refine (xleft_x b' o' xs p' w7 x7).mono ?_
            rintro e w8 ⟨rfl, hc8⟩
            rw [HL.out]
            have x8 := x7.kept hc8 (by simp) (by simp)
            have r8 := r7.kept hc8 (by simp) (by simp)
            have hc8' := hc7'.trans hc8 (fun _ _ h => h)
            clear r7 x7 hc8 hc7' HL
            go_wp2_with fail
            refine (frest_q b o xs p' _ w8 r8 rfl).mono ?_
            rintro e w9 ⟨v9, rfl, rd9, hc9⟩
            have x9 := x8.kept hc9 (by simp) (by simp)
            have r9 := r8.kept hc9 (by simp) (by simp)
            have hc9' := hc8'.trans hc9 (fun _ _ h => h)
            clear r8 x8 hc9 hc8'
            go_wp2_with fail
            refine (xrest_any b' o' xs p' w9 x9 HXS.out).mono ?_
            rintro e w10 ⟨v10, rfl, rd10, hc10⟩
            have x10 := x9.kept hc10 (by simp) (by simp)
            have r10 := r9.kept hc10 (by simp) (by simp)
            have rd9' := rd9.kept hc10 (by simp)
            have hc10' := hc9'.trans hc10 (fun _ _ h => h)
            clear r9 x9 hc10 hc9' rd9
            go_wp2_with fail
            refine (same_eq _ _ _ w10 rd9' rd10 (drop_bytes HXS.out _)).mono ?_
            rintro e w11 ⟨rfl, rfl⟩
            clear rd9' rd10
            go_wp2
            go_roundw
            case rel => exact ⟨k + 1, p', by omega, by go_num, r10, x10, hc10'⟩
            case measure => simp [intOf]; omega
      · have hn2' : (n == -2) = false := by rw [beq_eq_false_iff_ne]; exact hn2
        go_wp2_with fail
        refine (ftake_f b o xs p n wr r).mono ?_
        rintro e w5 ⟨rfl, r5, hc5⟩
        have x5 := x.kept hc5 HD.out.1 HD.out.2.1
        have hc5' := hc.trans hc5 (S := fun _ => False) (fun i hi h => by have := HB.out; omega)
        have hcell5 := HK.out w5 hc5'
        clear r x hc5 hc hcell HK
        obtain ⟨v0, ok0, p', hF⟩ : ∃ v0 ok0 p', ftk xs p n = (v0, ok0, p') := ⟨_, _, _, rfl⟩
        rw [hF] at r5 ⊢
        simp only at r5 ⊢
        have HF := Lib.hid hF
        clear hF
        go_wp2_with fail
        refine (xtake_f b' o' xs p n w5 x5).mono ?_
        rintro e w6 ⟨rfl, x6, hc6⟩
        rw [HF.out] at x6 ⊢
        simp only at x6 ⊢
        have r6 := r5.kept hc6 HD.out.2.2.1 HD.out.2.2.2
        have hc6' := hc5'.trans hc6 (S := fun _ => False) (fun i hi h => by have := HB.out; omega)
        clear r5 x5 hc6 hc5' hcell5 HF
        go_wp2_with fail
        refine (fleft_any b o xs p' w6 r6).mono ?_
        rintro e w7 ⟨rfl, hc7⟩
        have x7 := x6.kept hc7 (by simp) (by simp)
        have r7 := r6.kept hc7 (by simp) (by simp)
        have hc7' := hc6'.trans hc7 (fun _ _ h => h)
        clear r6 x6 hc7 hc6'
        obtain ⟨L, hL⟩ : ∃ L, 8 * xs.length - p' = L := ⟨_, rfl⟩
        rw [hL]
        have HL := Lib.hid hL
        clear hL
        go_wp2_with fail
        refine (xleft_x b' o' xs p' w7 x7).mono ?_
        rintro e w8 ⟨rfl, hc8⟩
        rw [HL.out]
        have x8 := x7.kept hc8 (by simp) (by simp)
        have r8 := r7.kept hc8 (by simp) (by simp)
        have hc8' := hc7'.trans hc8 (fun _ _ h => h)
        clear r7 x7 hc8 hc7' HL
        go_wp2_with fail
        refine (frest_q b o xs p' _ w8 r8 rfl).mono ?_
        rintro e w9 ⟨v9, rfl, rd9, hc9⟩
        have x9 := x8.kept hc9 (by simp) (by simp)
        have r9 := r8.kept hc9 (by simp) (by simp)
        have hc9' := hc8'.trans hc9 (fun _ _ h => h)
        clear r8 x8 hc9 hc8'
        go_wp2_with fail
        refine (xrest_any b' o' xs p' w9 x9 HXS.out).mono ?_
        rintro e w10 ⟨v10, rfl, rd10, hc10⟩
        have x10 := x9.kept hc10 (by simp) (by simp)
        have r10 := r9.kept hc10 (by simp) (by simp)
        have rd9' := rd9.kept hc10 (by simp)
        have hc10' := hc9'.trans hc10 (fun _ _ h => h)
        clear r9 x9 hc10 hc9' rd9
        go_wp2_with fail
        refine (same_eq _ _ _ w10 rd9' rd10 (drop_bytes HXS.out _)).mono ?_
        rintro e w11 ⟨rfl, rfl⟩
        clear rd9' rd10
        go_wp2
        go_roundw
        case rel => exact ⟨k + 1, p', by omega, by go_num, r10, x10, hc10'⟩
        case measure => simp [intOf]; omega
    · obtain rfl : k = zs.length := by omega
      go_wp2_with fail
      refine (fleft_any b o xs p wr r).mono ?_
      rintro e w5 ⟨rfl, hc5⟩
      have x5 := x.kept hc5 (by simp) (by simp)
      have hc5' := hc.trans hc5 (fun _ _ h => h)
      clear r x hc5 hc
      obtain ⟨L, hL⟩ : ∃ L, 8 * xs.length - p = L := ⟨_, rfl⟩
      rw [hL]
      have HL := Lib.hid hL
      clear hL
      go_wp2_with fail
      refine (xleft_x b' o' xs p w5 x5).mono ?_
      rintro e w6 ⟨rfl, hc6⟩
      rw [HL.out]
      have hc6' := hc5'.trans hc6 (fun _ _ h => h)
      clear x5 hc6 hc5'
      go_wp2
      go_ret
      exact ⟨rfl, hc6'⟩

end Go.Proofs.Ytbpfgmgbikagoaa
