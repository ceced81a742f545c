/- LanesBack: what is encoded is decoded. -/
import Derived.Test.YtokeoebhmjefoaaLnDecode
import Derived.Test.YtokeoebhmjefoaaBase6
namespace Go.Proofs.Ytokeoebhmjefoaa
open Go.RowKit

/-- payloads that are one are of as many bits -/
theorem enc_bits {m : Md} {xs ys : List Nat} (h1 : lnOk m xs) (h2 : lnOk m ys) (h : lnEnc m xs = lnEnc m ys) : lnBits m xs = lnBits m ys := by
  unfold lnEnc at h
  rw [if_pos h1, if_pos h2] at h
  have := congrArg openB h
  rw [openB_close, openB_close] at this
  unfold lnBits
  rw [if_pos h1, if_pos h2, this]
theorem enc_len60 {m : Md} {xs : List Nat} (h : lnOk m xs) (hx : ∀ x ∈ xs, x < 256) (hl : xs.length ≤ 60000) : (lnEnc m xs).length < 1000000 ∧ ∀ x ∈ lnEnc m xs, x < 256 := by
  unfold lnEnc
  rw [if_pos h]
  refine ⟨?_, pack_lt _⟩
  rw [(close_last (payL m xs)).1]
  have := payL_len h.1 hx hl
  omega

set_option maxHeartbeats 8000000 in
theorem lnback_any (v : Value) (xs : List Nat) (one : Bool) (k : Nat) (w : World) (hb : RdB w v xs) (hx : ∀ x ∈ xs, x < 256) (hk8 : k < 256) :
    Calls Try.prog 5 #[v, .bool one, .int .u8 (k : Int)] w fun e w' => Says w e w' := by
  have HAW := Lib.hid (awake17_any w)
  obtain ⟨ab, pb, rfl⟩ := hb.form
  have HB0 := Lib.hid hb; have HX := Lib.hid hx
  obtain ⟨N, hN⟩ : ∃ N, xs.length = N := ⟨_, rfl⟩
  rw [hN] at HB0 ⊢
  have HN := Lib.hid hN
  clear hb hx hN
  go_enter Try.func5, Try.ntmps5
  go_wp2_with fail
  refine HAW.out.mono ?_
  rintro e w1 ⟨rfl, hc1⟩
  have HC1 := Lib.hid hc1
  clear hc1 HAW
  by_cases hbig : 60 < N
  · have d1 : decide (60 < (N : Int)) = true := decide_eq_true (by omega)
    go_wp2
    go_ret
    exact ⟨rfl, HC1.out⟩
  have d1 : decide (60 < (N : Int)) = false := decide_eq_false (by omega)
  by_cases h0 : N = 0
  · subst h0
    go_wp2
    go_ret
    exact ⟨rfl, HC1.out⟩
  have hne0 : ((N : Int) == 0) = false := by simp; omega
  have hNI : (N : Int) ≤ 60 := by omega
  have hof := r16of_any (.slice ab N pb) xs one w1 (HB0.out.kept HC1.out (by simp)) HX.out (by rw [HN.out]; omega) (by rw [HN.out]; omega)
  have hfit := ofM_fits xs one HX.out (by rw [HN.out]; omega) (by rw [HN.out]; omega)
  have hlg := ofM_log xs one HX.out (by rw [HN.out]; omega) (by rw [HN.out]; omega)
  obtain ⟨M, hM⟩ : ∃ M, ofM xs one = M := ⟨_, rfl⟩
  rw [hM] at hof hfit hlg
  have hok : lnOk M xs := ⟨hfit, by rw [HN.out]; omega⟩
  have HOF := Lib.hid hof; have HOK := Lib.hid hok; have HM := Lib.hid hM
  have hf64 := hfit.1.fit64
  have HLE := Lib.hid (show ∀ W cv u ys, RdLL W cv M.cs → RdB W u ys → (∀ y ∈ ys, y < 256) → ys.length < 1000000 → Calls Try.prog 11 #[mdv M cv, u] W fun e w' => ∃ p, e = .returned (.tuple #[p, .int .i64 (lnErr M ys)]) ∧ RdB w' p (lnEnc M ys) ∧ RoomOk p ∧ Chg (fun _ => False) W w' from fun W cv u ys hW hb hy hl => lencode_any _ _ M ys W ⟨cv, rfl, hW⟩ hf64 hb hy hl)
  have HLD := Lib.hid (show ∀ W cv u ys (k : Int), RdLL W cv M.cs → RdB W u ys → (∀ y ∈ ys, y < 256) → ys.length < 1000000 → (0 ≤ k ∧ k ≤ 1000000) → Calls Try.prog 16 #[mdv M cv, u, .int .i64 k] W fun e w' => ∃ y, e = .returned (.tuple #[y, .int .i64 ((errOf (lnRes M ys k) : Nat) : Int)]) ∧ RdB w' y (outOf (lnRes M ys k)) ∧ Chg (fun _ => False) W w' from fun W cv u ys k hW hb hy hl hk => ldecode_any _ _ M ys k W ⟨cv, rfl, hW⟩ hf64 hb hy hl (by omega))
  have HLB := Lib.hid (show ∀ W cv u ys, RdLL W cv M.cs → RdB W u ys → (∀ y ∈ ys, y < 256) → ys.length < 1000000 → Calls Try.prog 15 #[mdv M cv, u] W fun e w' => e = .returned (.int .i64 ((lnBits M ys : Nat) : Int)) ∧ Chg (fun _ => False) W w' from fun W cv u ys hW hb hy hl => lbits_any _ _ M ys W ⟨cv, rfl, hW⟩ hf64 hb hy hl)
  have hmdv : ∀ cv, mdv M cv = .agg #[.int .i64 M.log, .bool M.one, cv] := fun cv => rfl
  obtain ⟨log, hlog⟩ : ∃ log, M.log = log := ⟨_, rfl⟩
  obtain ⟨on, hon⟩ : ∃ on, M.one = on := ⟨_, rfl⟩
  obtain ⟨nc, hnc⟩ : ∃ nc, M.cs.length = nc := ⟨_, rfl⟩
  simp only [hmdv, hlog, hon] at HLE HLD HLB
  rw [hlog] at hlg
  obtain ⟨hlg0, hlg1⟩ := hlg
  have HLOG := Lib.hid hlog
  clear hof hfit hok hM hf64
  go_wp2_with fail
  refine HOF.out.mono ?_
  rintro e w2 ⟨u, rfl, hm2, hc2⟩
  obtain ⟨cv, rfl, hl2⟩ := hm2
  obtain ⟨am, pm, rfl⟩ := hl2.form
  rw [hmdv, hlog, hon, hnc]
  rw [hnc] at hl2
  have hca := Chg.alloc (fun _ => False) w2 (.cells #[.int .i64 log, .bool on, .slice am nc pm] 24)
  have hmb : Mb _ _ log on (.slice am nc pm) := heap_alloc_new w2 (.cells #[.int .i64 log, .bool on, .slice am nc pm] 24)
  obtain ⟨W2, hW2⟩ : ∃ W2, w2.alloc (.cells #[.int .i64 log, .bool on, .slice am nc pm] 24) = W2 := ⟨_, rfl⟩
  rw [hW2] at hca hmb
  obtain ⟨gm, hgm⟩ : ∃ gm, w2.heap.size = gm := ⟨_, rfl⟩
  rw [hgm] at hmb
  have HK := Lib.hid (show ∀ W W' : World, (Mb W gm log on (.slice am nc pm) ∧ RdLL W (.slice am nc pm) M.cs ∧ RdB W (.slice ab N pb) xs ∧ Chg (fun _ => False) w W) → Chg (fun _ => False) W W' → (Mb W' gm log on (.slice am nc pm) ∧ RdLL W' (.slice am nc pm) M.cs ∧ RdB W' (.slice ab N pb) xs ∧ Chg (fun _ => False) w W') from fun W W' ⟨h1, h2, h3, h4⟩ hc => ⟨h1.kept hc (by simp), h2.kept hc, h3.kept hc (by simp), h4.trans hc fun _ _ h => h⟩)
  have HS2 := Lib.hid (show Mb W2 gm log on (.slice am nc pm) ∧ RdLL W2 (.slice am nc pm) M.cs ∧ RdB W2 (.slice ab N pb) xs ∧ Chg (fun _ => False) w W2 from by
    have hcw := (HC1.out.trans hc2 fun _ _ h => h).trans hca fun _ _ h => h
    exact ⟨hmb, hl2.kept hca, HB0.out.kept hcw (by simp), hcw⟩)
  obtain ⟨b0, b1, b2⟩ := HS2.out.1.cells
  clear hl2 hc2 hca hmb hmdv hlog hon hnc HOF HC1 HB0
  have hkI : (k : Int) < 256 := by omega
  have hle := HLE.out W2 _ _ xs HS2.out.2.1 HS2.out.2.2.1 HX.out (by rw [HN.out]; omega)
  have hbk := ln_back HOK.out HX.out
  obtain ⟨hpl, hpx⟩ := enc_len60 HOK.out HX.out (by rw [HN.out]; omega)
  rw [HN.out] at hbk
  rw [show lnErr M xs = 0 from by unfold lnErr; rw [if_pos HOK.out]] at hle
  obtain ⟨P, hP⟩ : ∃ P, lnEnc M xs = P := ⟨_, rfl⟩
  rw [hP] at hle hbk hpl hpx
  have HLE2 := Lib.hid hle; have HBK := Lib.hid hbk; have HPL := Lib.hid hpl; have HPX := Lib.hid hpx; have HPE := Lib.hid hP
  clear hle hbk hpl hpx hP HLE HLOG
  go_wp2_with fail
  refine HLE2.out.mono ?_
  rintro e w3 ⟨p, rfl, hp, _, hc3⟩
  obtain ⟨ap, cp, rfl⟩ := hp.form
  have HS3 := Lib.hid (HK.out _ _ HS2.out hc3); have HP3 := Lib.hid hp
  have hld := HLD.out w3 _ _ P (N : Int) HS3.out.2.1 HP3.out HPX.out HPL.out (by omega)
  rw [HBK.out] at hld
  have HLD3 := Lib.hid hld
  clear hc3 hp hld HS2 HLE2 b0 b1 b2 hW2 hgm
  obtain ⟨b0, b1, b2⟩ := HS3.out.1.cells
  go_wp2_with fail
  refine HLD3.out.mono ?_
  rintro e w4 ⟨y, rfl, hy, hc4⟩
  simp only [outOf, errOf] at hy ⊢
  obtain ⟨ay, cy, rfl⟩ := hy.form
  rw [HN.out] at hy ⊢
  have HS4 := Lib.hid (HK.out _ _ HS3.out hc4); have HY4 := Lib.hid hy; have HP4 := Lib.hid (HP3.out.kept hc4 (by simp))
  have hld := HLD.out w4 _ _ P (k : Int) HS4.out.2.1 HP4.out HPX.out HPL.out (by omega)
  have HLD4 := Lib.hid hld
  clear hc4 hy hld HS3 HP3 HLD3 HLD b0 b1 b2
  obtain ⟨b0, b1, b2⟩ := HS4.out.1.cells
  go_wp2_with fail
  refine HLD4.out.mono ?_
  rintro e w5 ⟨z, rfl, hz, hc5⟩
  obtain ⟨az, cz, rfl⟩ := hz.form
  have HS5 := Lib.hid (HK.out _ _ HS4.out hc5); have HY5 := Lib.hid (HY4.out.kept hc5 (by simp)); have HZ5 := Lib.hid hz
  clear hc5 hz HS4 HY4 HP4 HLD4 b0 b1 b2
  obtain ⟨b0, b1, b2⟩ := HS5.out.1.cells
  by_cases he : errOf (lnRes M P (k : Int)) = 0
  · obtain ⟨ys, hys⟩ := errOf_zero he
    obtain ⟨h1, h2, h3, h4⟩ := ln_one HPX.out hys
    have hbe := enc_bits HOK.out h2 (by rw [HPE.out, h3])
    have hlen : ys.length = k := by omega
    rw [hys] at HZ5 ⊢
    simp only [outOf, errOf] at HZ5 ⊢
    rw [hlen] at HZ5 ⊢
    by_cases hkN : k = N
    · subst hkN
      clear hys h1 h2 h3 h4 hbe hlen he
      go_wp2
      go_quiet (fail)
      have HS6 := Lib.hid (HK.out _ _ HS5.out ((Chg.refl (fun _ => False) w5).drewN nq)); have HY6 := Lib.hid (HY5.out.kept ((Chg.refl (fun _ => False) w5).drewN nq) (by simp))
      go_wp2_with fail
      refine (same_any _ _ xs xs _ HY6.out HS6.out.2.2.1 HX.out HX.out).mono ?_
      rintro e w9 ⟨rfl, rfl⟩
      rw [decide_eq_true rfl]
      go_wp2
      go_ret
      exact ⟨rfl, HS6.out.2.2.2⟩
    · have hkb : ((k : Int) == (N : Int)) = false := by simp; omega
      have hkc : ((k : Int) != (N : Int)) = true := by simp; omega
      have hl1 := fun W hW hz => HLB.out W (.slice am nc pm) (.slice az k cz) ys hW hz h4 (by omega)
      have hl2 := fun W hW hz => HLB.out W (.slice am nc pm) (.slice ab N pb) xs hW hz HX.out (by rw [HN.out]; omega)
      rw [← hbe] at hl1
      obtain ⟨Bt, hBt⟩ : ∃ Bt, lnBits M xs = Bt := ⟨_, rfl⟩
      rw [hBt] at hl1 hl2
      have HL1 := Lib.hid hl1; have HL2 := Lib.hid hl2
      have HS6 := Lib.hid (HK.out _ _ HS5.out ((Chg.refl (fun _ => False) w5).drew)); have HZ6 := Lib.hid (HZ5.out.kept ((Chg.refl (fun _ => False) w5).drew) (by simp))
      have hwk : IntKind.i64.wrap (k : Int) = (k : Int) := by rw [IntKind.wrap_i64]; omega
      have d5 : (k == N) = false := by simp [hkN]
      have d6 : (k != N) = true := by simp [hkN]
      have d7 : decide (k = N) = false := decide_eq_false hkN
      clear hys h1 h2 h3 h4 hbe hlen he hl1 hl2 hBt
      go_wp2
      go_region_held3 (fun W => W.cell? ⟨gm, 0, none⟩ = some (.int .i64 log) ∧ W.cell? ⟨gm, 1, none⟩ = some (.bool on) ∧ W.cell? ⟨gm, 2, none⟩ = some (.slice am nc pm)) (first | exact ⟨b0, b1, b2⟩ | exact ⟨q0, q1, q2⟩ | exact ⟨r0, r1, r2⟩) (first
        | (go_at_call 15; with_reducible refine Calls.mono (HL1.out w5.drew HS6.out.2.1 HZ6.out) ?_; rintro e w6 ⟨rfl, hc6⟩; have HS7 := Lib.hid (HK.out _ _ HS6.out hc6); obtain ⟨q0, q1, q2⟩ := HS7.out.1.cells; have HC6 := Lib.hid hc6; clear hc6)
        | (go_at_call 15; with_reducible refine Calls.mono (HL2.out w6 HS7.out.2.1 HS7.out.2.2.1) ?_; rintro e w7 ⟨rfl, hc7⟩; have HS8 := Lib.hid (HK.out _ _ HS7.out hc7); obtain ⟨r0, r1, r2⟩ := HS8.out.1.cells; have HC7 := Lib.hid hc7; clear hc7))
      have HY8 := Lib.hid (HY5.out.kept ((((Chg.refl (fun _ => False) w5).drew).trans HC6.out fun _ _ h => h).trans HC7.out fun _ _ h => h) (by simp))
      clear b0 b1 b2 q0 q1 q2 r0 r1 r2 HC6 HC7 HS5 HS6 HS7 HL1 HL2 HY5 HZ5 HZ6
      go_wp2_with fail
      refine (same_any _ _ xs xs _ HY8.out HS8.out.2.2.1 HX.out HX.out).mono ?_
      rintro e w9 ⟨rfl, rfl⟩
      rw [decide_eq_true rfl]
      go_wp2
      go_ret
      exact ⟨rfl, HS8.out.2.2.2⟩
  · obtain ⟨E, hE⟩ : ∃ E, errOf (lnRes M P (k : Int)) = E := ⟨_, rfl⟩
    rw [hE] at he ⊢
    have hEb : ((E : Int) == 0) = false := by simp; omega
    have hEc : ((E : Int) != 0) = true := by simp; omega
    clear hE
    go_wp2
    go_quiet (fail)
    have HS6 := Lib.hid (HK.out _ _ HS5.out ((Chg.refl (fun _ => False) w5).drewN nq)); have HY6 := Lib.hid (HY5.out.kept ((Chg.refl (fun _ => False) w5).drewN nq) (by simp))
    go_wp2_with fail
    refine (same_any _ _ xs xs _ HY6.out HS6.out.2.2.1 HX.out HX.out).mono ?_
    rintro e w9 ⟨rfl, rfl⟩
    rw [decide_eq_true rfl]
    go_wp2
    go_ret
    exact ⟨rfl, HS6.out.2.2.2⟩

end Go.Proofs.Ytokeoebhmjefoaa
