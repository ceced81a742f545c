/- ModelLists: a list has just those bytes that come, and there is one just where some do; each has the log's sum. -/
import Derived.Test.YthghlfghdmifoaaMdMakes
import Derived.Test.YthghlfghdmifoaaBase4
namespace Go.Proofs.Ythghlfghdmifoaa
open Go.RowKit

theorem total_q (v : Value) (ys : List Int) (w : World) (h : RdI w v ys) (hr : isRight ys) : ∀ m, Calls Try.prog 24 #[v] (w.drewN m) fun e w' => e = .returned (.int .i64 (totalI ys)) ∧ ∃ k, w' = (w.drewN m).drewN k := fun m =>
  htotal_any v ys (w.drewN m) (h.kept ((Chg.refl (fun _ => False) w).drewN m) (by simp)) (fun z hz => by
    obtain ⟨i, hi, rfl⟩ := List.mem_iff_getElem.1 hz
    have := hr.one i hi
    rw [List.getD_eq_getElem?_getD, List.getElem?_eq_getElem hi] at this
    simp only [Option.getD_some] at this
    omega) (by rw [hr.1]; omega)

set_option maxHeartbeats 8000000 in
theorem mlists_any (v : Value) (xs : List Nat) (c x : Nat) (w : World) (h : RdB w v xs) (hx : ∀ x ∈ xs, x < 256) (hr : RoomOk v) (hc8 : c < 256) (hx8 : x < 256) :
    Calls Try.prog 6 #[v, .int .u8 (c : Int), .int .u8 (x : Int)] w fun e w' => Says w e w' := by
  have HAW := Lib.hid (awake16_any w)
  obtain ⟨ao, cap, rfl⟩ := h.form
  have H := Lib.hid h; have HX := Lib.hid hx; have HRM := Lib.hid hr
  clear h hx hr
  go_enter Try.func6, Try.ntmps6
  go_wp2_with fail
  refine HAW.out.mono ?_
  rintro e w1 ⟨rfl, hc1⟩
  have HC1 := Lib.hid hc1
  clear hc1 HAW
  by_cases hbig : 80 < xs.length
  · have d1 : decide (80 < (xs.length : Int)) = true := decide_eq_true (by omega)
    go_wp2
    go_ret
    exact ⟨rfl, HC1.out⟩
  have d1 : decide (80 < (xs.length : Int)) = false := decide_eq_false (by omega)
  by_cases h0 : xs.length = 0
  · rw [h0]
    go_wp2
    go_ret
    exact ⟨rfl, HC1.out⟩
  have hpos : 0 < xs.length := by omega
  have hne : xs ≠ [] := fun he => by rw [he] at h0; simp at h0
  have hff := mfirst_any _ xs w1 (H.out.kept HC1.out (by simp)) HX.out (by omega) HRM.out
  rw [if_neg hne, if_neg hne] at hff
  have hzz := fun W hW => mzero_any (.slice ao xs.length cap) xs W hW HX.out (by omega) HRM.out
  rw [if_neg hne, if_neg hne] at hzz
  obtain ⟨zok, zl5, zl11⟩ := zero_ok xs HX.out (by omega) hpos
  obtain ⟨fl5, fl9⟩ := firstLog_bounds xs HX.out (by omega) hpos
  have zri := zero_right xs HX.out (by omega) hpos
  have fri := first_right xs HX.out (by omega) hpos
  have zat := zero_at xs HX.out (by omega) hpos (c : Int) (by omega)
  have fat := first_at xs HX.out (by omega) hpos c hc8
  have zrt := normR_right zok
  have zps := normR_pos zok x hx8
  have fok : 0 < (sel xs (c : Int)).length → _ := first_ok xs HX.out (by omega) c hc8
  have HXF := Lib.hid (show ∀ W, Chg (fun _ => False) w W → _ from fun W hW => xfor_any (.slice ao xs.length cap) xs (c : Int) W (H.out.kept hW (by simp)) HX.out (by omega) (by omega))
  have HHO := Lib.hid (show ∀ W, Chg (fun _ => False) w W → _ from fun W hW => hof_any (.slice ao xs.length cap) xs W (H.out.kept hW (by simp)) HX.out (by omega))
  have acn := cnt_getD xs x hx8
  have scn := cnt_getD (sel xs (c : Int)) x hx8
  have stt := total_cnt (sel xs (c : Int)) (sel_lt HX.out _) (by have := sel_len xs (c : Int); omega)
  have srt := cnt_right (sel xs (c : Int)) (sel_lt HX.out _) (by have := sel_len xs (c : Int); omega)
  have ssl := sel_len xs (c : Int)
  have hMF : (firstM xs).log = firstLog xs ∧ (firstM xs).one = false := ⟨rfl, rfl⟩
  have hMZ : (zeroM xs).log = zeroLog xs ∧ (zeroM xs).one = true := ⟨rfl, rfl⟩
  have hcl : ctxL xs (firstLog xs) c = if 0 < (sel xs (c : Int)).length then normR (cnt (sel xs (c : Int))) (firstLog xs) else [] := rfl
  obtain ⟨mf, hmf⟩ : ∃ mf, firstM xs = mf := ⟨_, rfl⟩
  obtain ⟨mz, hmz⟩ : ∃ mz, zeroM xs = mz := ⟨_, rfl⟩
  rw [hmf] at hff fri fat hMF
  rw [hmz] at hzz zri zat hMZ
  obtain ⟨lf, of, cf⟩ := mf
  obtain ⟨lz, oz, cz⟩ := mz
  simp only [] at hMF hMZ
  rw [← hMF.1] at fl5 fl9 fat fok hcl
  rw [← hMZ.1] at zl5 zl11 zat zrt zps
  obtain ⟨kf, rfl⟩ : ∃ kf : Nat, lf = (kf : Int) := ⟨lf.toNat, by omega⟩
  obtain ⟨kz, rfl⟩ : ∃ kz : Nat, lz = (kz : Int) := ⟨lz.toNat, by omega⟩
  rw [Int.toNat_natCast] at zrt
  obtain ⟨Pz, hPz⟩ : ∃ Pz, 2 ^ kz = Pz := ⟨_, rfl⟩
  obtain ⟨Pf, hPf⟩ : ∃ Pf, 2 ^ kf = Pf := ⟨_, rfl⟩
  have hPzI : (2 : Int) ^ kz = (Pz : Int) := by rw [← hPz]; simp
  have hPfI : (2 : Int) ^ kf = (Pf : Int) := by rw [← hPf]; simp
  have hPzb := pow12 (k := kz) (by omega)
  have hPfb := pow12 (k := kf) (by omega)
  rw [hPz] at zrt hPzb
  rw [hPf] at hPfb
  obtain ⟨pl, hpl⟩ : ∃ pl, normR (cnt xs) (kz : Int) = pl := ⟨_, rfl⟩
  rw [hpl] at zat zrt zps
  obtain ⟨qt, hql⟩ : ∃ ql, ctxL xs (kf : Int) c = ql := ⟨_, rfl⟩
  rw [hql] at fat hcl
  -- what is read
  obtain ⟨pz, hpz⟩ : ∃ pz, pl.getD x 0 = pz := ⟨_, rfl⟩
  obtain ⟨ax, hax⟩ : ∃ ax, (cnt xs).getD x 0 = ax := ⟨_, rfl⟩
  rw [hpz] at zps
  rw [hax] at acn
  obtain ⟨D1, hD1⟩ : ∃ D1, decide (0 < pz) = D1 := ⟨_, rfl⟩
  have hD1a : decide (0 < ax) = D1 := by
    rw [← hD1]
    refine decide_eq_decide.2 ?_
    rw [zps.1, acn, ← List.count_pos_iff]
    omega
  have HMAF := Lib.hid (show ∀ W a p, RdLL W (.slice a cf.length p) cf → Calls Try.prog 18 #[.agg #[.int .i64 (kf : Int), .bool of, .slice a cf.length p], .int .i64 (c : Int)] W fun e w' => ∃ u, e = .returned u ∧ RdI w' u qt ∧ Chg (fun _ => False) W w' from fun W a p hW => by
    have := mat_any _ ⟨(kf : Int), of, cf⟩ (c : Int) W ⟨_, rfl, hW⟩ fri.fit64 (by omega)
    rw [fat] at this
    exact this)
  have HMAZ := Lib.hid (show ∀ W a p, RdLL W (.slice a cz.length p) cz → Calls Try.prog 18 #[.agg #[.int .i64 (kz : Int), .bool oz, .slice a cz.length p], .int .i64 (c : Int)] W fun e w' => ∃ u, e = .returned u ∧ RdI w' u pl ∧ Chg (fun _ => False) W w' from fun W a p hW => by
    have := mat_any _ ⟨(kz : Int), oz, cz⟩ (c : Int) W ⟨_, rfl, hW⟩ zri.fit64 (by omega)
    rw [zat] at this
    exact this)
  obtain ⟨n2, hn2⟩ : ∃ n2, cf.length = n2 := ⟨_, rfl⟩
  obtain ⟨n3, hn3⟩ : ∃ n3, cz.length = n3 := ⟨_, rfl⟩
  obtain ⟨N, hN⟩ : ∃ N, xs.length = N := ⟨_, rfl⟩
  rw [hn2] at HMAF
  rw [hn3] at HMAZ
  rw [hN] at H HRM hbig d1 h0 hpos hff hzz HXF HHO ssl ⊢
  have hne0 : ((N : Int) == 0) = false := by simp; omega
  have hNI : (N : Int) ≤ 80 := by omega
  have HFF := Lib.hid hff; have HZZ := Lib.hid hzz; have HZR := Lib.hid zrt; have HPZ := Lib.hid hpz; have HAX := Lib.hid hax; have HN2 := Lib.hid hn2; have HN3 := Lib.hid hn3
  have HSEL := Lib.hid (show (qt = if 0 < (sel xs (c : Int)).length then normR (cnt (sel xs (c : Int))) (kf : Int) else []) ∧ (0 < (sel xs (c : Int)).length → normOk (cnt (sel xs (c : Int))) (kf : Int)) ∧ totalI (cnt (sel xs (c : Int))) = ((sel xs (c : Int)).length : Int) ∧ isRight (cnt (sel xs (c : Int))) ∧ (cnt (sel xs (c : Int))).getD x 0 = ((List.count x (sel xs (c : Int)) : Nat) : Int) ∧ (sel xs (c : Int)).length ≤ N from ⟨hcl, fok, stt, srt, scn, ssl⟩)
  have HPF := Lib.hid hPf
  have hPzBI : (Pz : Int) ≤ 4096 := by omega
  have hPfBI : (Pf : Int) ≤ 4096 := by omega
  have hcI : (c : Int) < 256 := by omega
  have hxI : (x : Int) < 256 := by omega
  have g1 : decide ((kf : Int) < 5) = false := decide_eq_false (by omega)
  have g2 : decide (9 < (kf : Int)) = false := decide_eq_false (by omega)
  have g3 : decide ((kz : Int) < 5) = false := decide_eq_false (by omega)
  have g4 : decide (11 < (kz : Int)) = false := decide_eq_false (by omega)
  clear hff hzz zok zri fri zat fat zps acn scn stt srt ssl fok hcl hMF hMZ hmf hmz hpl hql hpz hax hne hN hn2 hn3 hPz hPf hPzb hPfb zrt
  go_wp2_with fail
  refine HFF.out.mono ?_
  rintro e w2 ⟨u, rfl, hm2, hc2⟩
  obtain ⟨a2, p2, rfl, hl2⟩ := hm2.rd.form
  simp only [] at hl2 ⊢
  rw [HN2.out] at hl2 ⊢
  have hca := Chg.alloc (fun _ => False) w2 (.cells #[.int .i64 (kf : Int), .bool of, .slice a2 n2 p2] 26)
  have hmb : Mb _ _ (kf : Int) of (.slice a2 n2 p2) := heap_alloc_new w2 (.cells #[.int .i64 (kf : Int), .bool of, .slice a2 n2 p2] 26)
  obtain ⟨W2, hW2⟩ : ∃ W2, w2.alloc (.cells #[.int .i64 (kf : Int), .bool of, .slice a2 n2 p2] 26) = W2 := ⟨_, rfl⟩
  rw [hW2] at hca hmb
  have hcw := (HC1.out.trans hc2 fun _ _ h => h).trans hca fun _ _ h => h
  have HMB := Lib.hid hmb; have HCW := Lib.hid hcw; have HL2 := Lib.hid (hl2.kept hca)
  clear hm2 hl2 hc2 hca hmb hcw HFF HC1
  go_wp2_with fail
  refine (HZZ.out W2 (H.out.kept HCW.out (by simp))).mono ?_
  rintro e w3 ⟨u, rfl, hm3, hc3⟩
  obtain ⟨a3, p3, rfl, hl3⟩ := hm3.rd.form
  simp only [] at hl3 ⊢
  rw [HN3.out] at hl3 ⊢
  have hca := Chg.alloc (fun _ => False) w3 (.cells #[.int .i64 (kz : Int), .bool oz, .slice a3 n3 p3] 26)
  have hmb3 : Mb _ _ (kz : Int) oz (.slice a3 n3 p3) := heap_alloc_new w3 (.cells #[.int .i64 (kz : Int), .bool oz, .slice a3 n3 p3] 26)
  obtain ⟨W3, hW3⟩ : ∃ W3, w3.alloc (.cells #[.int .i64 (kz : Int), .bool oz, .slice a3 n3 p3] 26) = W3 := ⟨_, rfl⟩
  rw [hW3] at hca hmb3
  have hc23 := hc3.trans hca fun _ _ h => h
  have HS3 := Lib.hid (show Mb W3 w2.heap.size (kf : Int) of (.slice a2 n2 p2) ∧ Mb W3 w3.heap.size (kz : Int) oz (.slice a3 n3 p3) ∧ RdLL W3 (.slice a2 n2 p2) cf ∧ RdLL W3 (.slice a3 n3 p3) cz ∧ Chg (fun _ => False) w W3 from ⟨HMB.out.kept hc23 (by simp), hmb3, HL2.out.kept hc23, hl3.kept hca, HCW.out.trans hc23 fun _ _ h => h⟩)
  have HK := Lib.hid (show ∀ W W' : World, (Mb W w2.heap.size (kf : Int) of (.slice a2 n2 p2) ∧ Mb W w3.heap.size (kz : Int) oz (.slice a3 n3 p3) ∧ RdLL W (.slice a2 n2 p2) cf ∧ RdLL W (.slice a3 n3 p3) cz ∧ Chg (fun _ => False) w W) → Chg (fun _ => False) W W' → (Mb W' w2.heap.size (kf : Int) of (.slice a2 n2 p2) ∧ Mb W' w3.heap.size (kz : Int) oz (.slice a3 n3 p3) ∧ RdLL W' (.slice a2 n2 p2) cf ∧ RdLL W' (.slice a3 n3 p3) cz ∧ Chg (fun _ => False) w W') from fun W W' ⟨h1, h2, h3, h4, h5⟩ hc => ⟨h1.kept hc (by simp), h2.kept hc (by simp), h3.kept hc, h4.kept hc, h5.trans hc fun _ _ h => h⟩)
  obtain ⟨b0, b1, b2⟩ := HS3.out.1.cells
  clear hm3 hl3 hc3 hca hmb3 hc23 HMB HCW HL2 HZZ hW2
  go_wp2_with fail
  refine (HMAF.out W3 a2 p2 HS3.out.2.2.1).mono ?_
  rintro e w4 ⟨q, rfl, hq4, hc4⟩
  have HS4 := Lib.hid (HK.out _ _ HS3.out hc4)
  obtain ⟨c0, c1, c2⟩ := HS4.out.2.1.cells
  have HQ4 := Lib.hid hq4
  clear hc4 hq4 b0 b1 b2 HS3 hW3
  go_wp2_with fail
  refine (HMAZ.out w4 a3 p3 HS4.out.2.2.2.1).mono ?_
  rintro e w5 ⟨pv, rfl, hp5, hc5⟩
  have HS5 := Lib.hid (HK.out _ _ HS4.out hc5); have HQ5 := Lib.hid (HQ4.out.kept hc5 (by simp)); have HP5 := Lib.hid hp5
  clear hc5 hp5 c0 c1 c2 HS4 HQ4 HMAF HMAZ
  go_wp2_with fail
  refine (HXF.out w5 HS5.out.2.2.2.2).mono ?_
  rintro e w6 ⟨nv, rfl, hn6, hc6⟩
  have HS6 := Lib.hid (HK.out _ _ HS5.out hc6); have HQ6 := Lib.hid (HQ5.out.kept hc6 (by simp)); have HP6 := Lib.hid (HP5.out.kept hc6 (by simp)); have HNV6 := Lib.hid hn6.rd
  clear hc6 hn6 HS5 HQ5 HP5 HXF
  go_wp2_with fail
  refine (HHO.out w6 HS6.out.2.2.2.2).mono ?_
  rintro e w7 ⟨av, rfl, ha7, hc7⟩
  have HS7 := Lib.hid (HK.out _ _ HS6.out hc7); have HQ7 := Lib.hid (HQ6.out.kept hc7 (by simp)); have HP7 := Lib.hid (HP6.out.kept hc7 (by simp)); have HNV7 := Lib.hid (HNV6.out.kept hc7 (by simp)); have HA7 := Lib.hid ha7.rd
  clear hc7 ha7 HS6 HQ6 HP6 HNV6 HHO
  -- their forms
  obtain ⟨gp, op, hpf, hpc⟩ : ∃ gp op, (∃ cp, pv = .slice (some ⟨gp, op, none⟩) 256 cp) ∧ w7.cell? ⟨gp, op + x, none⟩ = some (.int .i64 pz) := by
    obtain ⟨a, b, he⟩ := HP7.out.form
    rw [HZR.out.1.1] at he
    have hr := HP7.out
    rw [he] at hr
    obtain ⟨g, o, rfl, hc⟩ := hr.at x (by rw [HZR.out.1.1]; exact hx8)
    rw [HPZ.out] at hc
    exact ⟨g, o, ⟨b, he⟩, hc⟩
  obtain ⟨cp, rfl⟩ := hpf
  obtain ⟨ga, oa, haf, hac⟩ : ∃ gp op, (∃ cp, av = .slice (some ⟨gp, op, none⟩) 256 cp) ∧ w7.cell? ⟨gp, op + x, none⟩ = some (.int .i64 ax) := by
    obtain ⟨a, b, he⟩ := HA7.out.form
    rw [cnt_length] at he
    have hr := HA7.out
    rw [he] at hr
    obtain ⟨g, o, rfl, hc⟩ := hr.at x (by rw [cnt_length]; exact hx8)
    rw [HAX.out] at hc
    exact ⟨g, o, ⟨b, he⟩, hc⟩
  obtain ⟨ca, rfl⟩ := haf
  obtain ⟨nx, hnx⟩ : ∃ nx, (cnt (sel xs (c : Int))).getD x 0 = nx := ⟨_, rfl⟩
  obtain ⟨gn, on', hnf, hnc⟩ : ∃ gp op, (∃ cp, nv = .slice (some ⟨gp, op, none⟩) 256 cp) ∧ w7.cell? ⟨gp, op + x, none⟩ = some (.int .i64 nx) := by
    obtain ⟨a, b, he⟩ := HNV7.out.form
    rw [cnt_length] at he
    have hr := HNV7.out
    rw [he] at hr
    obtain ⟨g, o, rfl, hc⟩ := hr.at x (by rw [cnt_length]; exact hx8)
    rw [hnx] at hc
    exact ⟨g, o, ⟨b, he⟩, hc⟩
  obtain ⟨cn, rfl⟩ := hnf
  have HTP := Lib.hid (total_q _ pl w7 HP7.out HZR.out.1)
  rw [HZR.out.2.1] at HTP
  have HTN := Lib.hid (total_q _ (cnt (sel xs (c : Int))) w7 HNV7.out HSEL.out.2.2.2.1)
  rw [HSEL.out.2.2.1] at HTN
  obtain ⟨d0, d1', d2⟩ := HS7.out.2.1.cells
  obtain ⟨f0, f1, f2⟩ := HS7.out.1.cells
  obtain ⟨aq, cq, rfl⟩ := HQ7.out.form
  have HNX := Lib.hid hnx
  clear hnx HP7 HA7 HPZ HAX HZR
  have hDn : (D1 != D1) = false := by simp
  have hPn : ((Pz : Int) != (Pz : Int)) = false := by simp
  obtain ⟨S, hS⟩ : ∃ S, (sel xs (c : Int)).length = S := ⟨_, rfl⟩
  rw [hS] at HTN HSEL
  obtain ⟨nq', hnq'⟩ : ∃ nq', qt.length = nq' := ⟨_, rfl⟩
  rw [hnq'] at HQ7 ⊢
  have hSb : (S : Int) ≤ 80 := by have := HSEL.out.2.2.2.2.2; omega
  by_cases hS0 : S = 0
  · subst hS0
    have hqn : nq' = 0 := by
      have h1 := HSEL.out.1
      rw [if_neg (by omega)] at h1
      rw [← hnq', h1]; rfl
    subst hqn
    clear hS hnq'
    go_wp2
    go_quiet (first | (go_at_call 24; with_reducible exact Calls.quiet_of (HTP.out _)))
    go_wp2_with fail
    refine (HTN.out _).mono ?_
    rintro e w8 ⟨rfl, m8, rfl⟩
    go_wp2
    go_ret
    exact ⟨rfl, HS7.out.2.2.2.2.drewN _⟩
  · have hok := HSEL.out.2.1 (by omega)
    have hqe := HSEL.out.1
    rw [if_pos (by omega)] at hqe
    have hqr := normR_right hok
    have hqp := normR_pos hok x hx8
    rw [← hqe, Int.toNat_natCast, HPF.out] at hqr
    rw [← hqe] at hqp
    have hq256 : nq' = 256 := by rw [← hnq']; exact hqr.1.1
    subst hq256
    obtain ⟨gq, oq, rfl, hqc⟩ := HQ7.out.at x (by rw [hnq']; exact hx8)
    obtain ⟨qx, hqx⟩ : ∃ qx, qt.getD x 0 = qx := ⟨_, rfl⟩
    rw [hqx] at hqc hqp
    obtain ⟨D2, hD2⟩ : ∃ D2, decide (0 < qx) = D2 := ⟨_, rfl⟩
    have hD2n : decide (0 < nx) = D2 := by
      rw [← hD2]
      refine decide_eq_decide.2 ?_
      rw [hqp.1, ← HNX.out, HSEL.out.2.2.2.2.1, ← List.count_pos_iff]
      omega
    have hSz : ((S : Int) == 0) = false := by simp; omega
    have hDe : (D2 == D2) = true := by simp
    have hPe : ((Pf : Int) == (Pf : Int)) = true := by simp
    have HQR := Lib.hid hqr
    have HTQ := Lib.hid (show ∀ W, Chg (fun _ => False) w7 W → ∀ m, Calls Try.prog 24 #[.slice (some ⟨gq, oq, none⟩) 256 cq] (W.drewN m) fun e w' => e = .returned (.int .i64 (Pf : Int)) ∧ ∃ k, w' = (W.drewN m).drewN k from fun W hW => by
      have := total_q _ qt W (HQ7.out.kept hW (by simp)) HQR.out.1
      rw [HQR.out.2.1] at this
      exact this)
    clear hok hqe hqr hqp hqx hS hnq' hS0
    go_wp2
    go_quiet (first | (go_at_call 24; with_reducible exact Calls.quiet_of (HTP.out _)))
    go_wp2_with fail
    refine (HTN.out _).mono ?_
    rintro e w8 ⟨rfl, m8, rfl⟩
    obtain ⟨W8, hW8⟩ : ∃ W8, (w7.drewN nq).drewN m8 = W8 := ⟨_, rfl⟩
    have hc8' : Chg (fun _ => False) w7 W8 := by rw [← hW8]; exact ((Chg.refl _ _).drewN _).drewN _
    have q1 : W8.cell? ⟨gq, oq + x, none⟩ = some (.int .i64 qx) := by rw [← hW8]; exact hqc
    have q2 : W8.cell? ⟨gn, on' + x, none⟩ = some (.int .i64 nx) := by rw [← hW8]; exact hnc
    have q3 : W8.cell? ⟨w2.heap.size, 0, none⟩ = some (.int .i64 (kf : Int)) := by rw [← hW8]; exact f0
    have HT8 := Lib.hid (HTQ.out W8 hc8'); have HC8 := Lib.hid (HS7.out.2.2.2.2.trans hc8' fun _ _ h => h)
    rw [hW8]
    clear hc8' hW8 hqc hnc f0 f1 f2 hpc hac d0 d1' d2
    go_wp2
    go_quiet (first | (go_at_call 24; with_reducible exact Calls.quiet_of (HT8.out _)))
    go_wp2
    go_ret
    exact ⟨rfl, HC8.out.drewN _⟩

end Go.Proofs.Ythghlfghdmifoaa
