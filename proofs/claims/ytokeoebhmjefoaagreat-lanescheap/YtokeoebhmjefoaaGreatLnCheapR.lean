/- What the document's own lanes (puncheonref17) tell: Cheap. -/
import Derived.Test.YtokeoebhmjefoaaGreatLnTimes
import Derived.Test.YtokeoebhmjefoaaGreatBase6
namespace Go.Proofs.YtokeoebhmjefoaaGreat
open Go.RowKit

theorem prodQ_append (F : Nat → Nat → Nat) (P Q : List (Nat × Nat)) : prodQ F (P ++ Q) = prodQ F P * prodQ F Q := by
  induction P with
  | nil => simp [prodQ]
  | cons p P ih => simp only [List.cons_append, prodQ, ih, Nat.mul_assoc]
theorem prodM_append (R : Nat) (F : Nat → Nat → Nat) (P Q : List (Nat × Nat)) : prodM R F (P ++ Q) = prodM R F P * prodM R F Q := by
  induction P with
  | nil => simp [prodM]
  | cons p P ih => simp only [List.cons_append, prodM, ih, Nat.mul_assoc]
theorem prs_take_succ (xs : List Nat) (i : Nat) (h : i < xs.length) : (prs 0 xs).take (i + 1) = (prs 0 xs).take i ++ [((0 :: xs).getD i 0, xs.getD i 0)] := by
  have hl : i < (prs 0 xs).length := by rw [prs_length]; exact h
  rw [List.take_succ_eq_append_getElem hl]
  have := prs_drop 0 xs i h
  rw [List.drop_eq_getElem_cons hl, List.cons.injEq] at this
  rw [this.1]
theorem prodQ_succ (F : Nat → Nat → Nat) (xs : List Nat) (i : Nat) (h : i < xs.length) : prodQ F ((prs 0 xs).take (i + 1)) = prodQ F ((prs 0 xs).take i) * F ((0 :: xs).getD i 0) (xs.getD i 0) := by
  rw [prs_take_succ xs i h, prodQ_append]; simp [prodQ]
theorem prodM_succ (R : Nat) (F : Nat → Nat → Nat) (xs : List Nat) (i : Nat) (h : i < xs.length) : prodM R F ((prs 0 xs).take (i + 1)) = prodM R F ((prs 0 xs).take i) * (2 ^ R + manyF (F ((0 :: xs).getD i 0)) - 1) := by
  rw [prs_take_succ xs i h, prodM_append]; simp [prodM]
theorem manyF_le (f : Nat → Nat) : manyF f ≤ 256 := countTo_le _ 256

/-- words that are a number -/
def WordsAt (X : List Nat) (z n : Nat) : Prop := okW X ∧ X ≠ [] ∧ numW X = z ∧ X.length ≤ n
theorem words_one : WordsAt [1] 1 1 := ⟨⟨by omega, by omega⟩, by simp, by simp [numW], by simp⟩
theorem WordsAt.times {X : List Nat} {z n : Nat} (h : WordsAt X z n) (k : Nat) (hk : 1 ≤ k) (hk2 : k ≤ 65536) : WordsAt (timesC k X 0) (z * k) (n + 1) := by
  obtain ⟨h1, h2, h3, h4⟩ := h
  obtain ⟨t1, t2⟩ := times_okL hk h1 h2 0
  refine ⟨t1, t2, by rw [numW_times, h3]; omega, ?_⟩
  have := times_len hk2 X (okW_words h1) 0 (by omega)
  omega

set_option maxHeartbeats 4000000 in
theorem r17cheap_any (v u : Value) (m : Md) (xs : List Nat) (bits : Nat) (w : World) (h : RdM w v m) (hfit : m.fits xs) (hb : RdB w u xs) (hx : ∀ x ∈ xs, x < 256) (hl : xs.length ≤ 60000) (hbi : bits ≤ 100000) :
    Calls Tryz.prog 8 #[v, u, .int .i64 (bits : Int)] w fun e w' => e = .returned (.bool (decide (2 ^ bits * prodQ (fM m) (prs 0 xs) ≤ prodM (RM m) (fM m) (prs 0 xs)))) ∧ Chg (fun _ => False) w w' := by
  obtain ⟨cv, rfl, h1⟩ := h
  have hf := hfit.1.fit64
  have HFIT := Lib.hid hfit
  have HAT := Lib.hid (show ∀ W (c : Int), RdLL W cv m.cs → Calls Tryz.prog 16 #[mdv m cv, .int .i64 c] W fun e w' => ∃ q, e = .returned q ∧ RdI w' q (m.atL c) ∧ Chg (fun _ => False) W w' from fun W c hW => r16at_any _ m c W ⟨cv, rfl, hW⟩ hf)
  obtain ⟨hR1, hR2, hR3⟩ := RM_le hfit.1
  obtain ⟨R, hR⟩ : ∃ R, RM m = R := ⟨_, rfl⟩
  rw [hR] at hR1 hR2 hR3
  have HR := Lib.hid hR
  obtain ⟨D, hD⟩ : ∃ D, decide (2 ^ bits * prodQ (fM m) (prs 0 xs) ≤ prodM (RM m) (fM m) (prs 0 xs)) = D := ⟨_, rfl⟩
  rw [hD]
  have HD := Lib.hid hD
  obtain ⟨ab, capb, rfl⟩ := hb.form
  obtain ⟨MM, hMM⟩ : ∃ MM, m = MM := ⟨_, rfl⟩
  rw [hMM] at HAT HFIT HR HD
  have hlog : m.log = ((R : Nat) : Int) := hR3.symm
  obtain ⟨log, one, cs⟩ := m
  simp only [] at h1 hlog
  subst hlog
  obtain ⟨ao, cap, rfl⟩ := h1.form
  have hmdv : mdv MM (.slice ao cs.length cap) = .agg #[.int .i64 ((R : Nat) : Int), .bool one, .slice ao cs.length cap] := by rw [← hMM]; rfl
  have hcs : MM.cs = cs := by rw [← hMM]
  rw [hmdv, hcs] at HAT
  unfold mdv
  simp only []
  obtain ⟨n, hn⟩ : ∃ n, cs.length = n := ⟨_, rfl⟩
  rw [hn] at h1 HAT ⊢
  obtain ⟨N, hNx⟩ : ∃ N, xs.length = N := ⟨_, rfl⟩
  rw [hNx] at hb hl ⊢
  have hca := Chg.alloc (fun _ => False) w (.cells #[.int .i64 ((R : Nat) : Int), .bool one, .slice ao n cap] 26)
  have hnew : Mb _ _ ((R : Nat) : Int) one (.slice ao n cap) := heap_alloc_new w (.cells #[.int .i64 ((R : Nat) : Int), .bool one, .slice ao n cap] 26)
  obtain ⟨W1, hW1⟩ : ∃ W1, w.alloc (.cells #[.int .i64 ((R : Nat) : Int), .bool one, .slice ao n cap] 26) = W1 := ⟨_, rfl⟩
  rw [hW1] at hca hnew
  have hc2 := Chg.alloc (fun _ => False) W1 (.cells #[.int .i64 1] 3)
  have hr2 := rdi_new W1 [(1 : Int)] #[.int .i64 1] 1 (0, 0) rfl rfl
  obtain ⟨W2, hW2⟩ : ∃ W2, W1.alloc (.cells #[.int .i64 1] 3) = W2 := ⟨_, rfl⟩
  rw [hW2] at hc2 hr2
  have hc3 := Chg.alloc (fun _ => False) W2 (.cells #[.int .i64 1] 3)
  have hr3 := rdi_new W2 [(1 : Int)] #[.int .i64 1] 1 (0, 0) rfl rfl
  have hs2 : W2.heap.size = W1.heap.size + 1 := by rw [← hW2]; simp
  have hcw := (hca.trans hc2 fun _ _ h => h).trans hc3 fun _ _ h => h
  have HS := Lib.hid (show RdI _ _ (nI [1]) ∧ RdI _ _ (nI [1]) ∧ Mb _ _ ((R : Nat) : Int) one (.slice ao n cap) ∧ Chg (fun _ => False) w _ from ⟨hr2.kept hc3 (by simp), hr3, (hnew.kept hc2 (by simp)).kept hc3 (by simp), hcw⟩)
  obtain ⟨b0, b1, b2⟩ := hnew.cells
  have H1 := Lib.hid h1; have HB := Lib.hid hb; have HN := Lib.hid hNx; have HX := Lib.hid hx
  have hp2 : 2 ^ R ≤ 4096 := pow12 (by omega)
  obtain ⟨L, hL⟩ : ∃ L, 2 ^ R = L := ⟨_, rfl⟩
  have hLI : (2 : Int) ^ R = (L : Int) := by rw [← hL]; simp
  rw [hL] at hp2
  have hLp : 1 ≤ L := by rw [← hL]; exact Nat.two_pow_pos R
  have HL := Lib.hid hL
  have hR64 : (R : Int) < 64 := by omega
  have hNI : (N : Int) ≤ 60000 := by omega
  have hbI : (bits : Int) ≤ 100000 := by omega
  have hLb : (L : Int) ≤ 4096 := by omega
  clear h1 hf hca hnew hn hNx hx hb hMM hmdv hcs hl hfit hR hR3 hc2 hr2 hc3 hr3 hcw hD hL
  go_enter Tryz.func8, Tryz.ntmps8
  go_wp2
  obtain ⟨W3, hW3⟩ : ∃ W3, W2.alloc (.cells #[.int .i64 1] 3) = W3 := ⟨_, rfl⟩
  rw [hs2, hW3] at HS
  rw [hW3]
  clear hW1 hW2 hs2 hW3 b0 b1 b2
  obtain ⟨gx, hgx⟩ : ∃ gx, W1.heap.size = gx := ⟨_, rfl⟩
  rw [hgx] at HS ⊢
  clear hgx
  go_loopw [8, 10] (fun o8 o10 wr => ∃ (i c8 : Nat) (X : List Nat) (a8 : Option Addr), i ≤ bits ∧ o10 = .int .i64 (i : Int) ∧ o8 = .slice a8 X.length c8 ∧ RdI wr (.slice a8 X.length c8) (nI X) ∧ WordsAt X (2 ^ i) (i + 1) ∧ Chg (fun _ => False) W3 wr) (fun _ o10 _ => bits - (intOf o10).toNat)
  case atStart => exact ⟨0, 1, [1], some ⟨gx, 0, none⟩, Nat.zero_le _, rfl, rfl, HS.out.1, words_one, Chg.refl _ _⟩
  case round =>
    obtain ⟨i, c8, X, a8, hi, rfl, rfl, hrd, hwd, hc⟩ := hrel
    by_cases hlt : i < bits
    · have ht := r17times_any (.slice a8 X.length c8) X 2 wr hrd (okW_words hwd.1) (by omega) (by omega) (by have := hwd.2.2.2; omega)
      have HW := Lib.hid (hwd.times 2 (by omega) (by omega))
      have HT := Lib.hid ht; have HC := Lib.hid hc
      have hiI : (i : Int) < (bits : Int) := by omega
      clear ht hrd hwd hc
      go_wp2_with fail
      refine HT.out.mono ?_
      rintro e w2 ⟨u2, rfl, hrd2, hc2⟩
      obtain ⟨a2, c2, rfl⟩ := hrd2.form
      have HS2 := Lib.hid (show RdI w2 (.slice a2 (timesC 2 X 0).length c2) (nI (timesC 2 X 0)) ∧ WordsAt (timesC 2 X 0) (2 ^ (i + 1)) (i + 1 + 1) ∧ Chg (fun _ => False) W3 w2 from ⟨by rw [← nI_length]; exact hrd2, by rw [Nat.pow_succ]; exact HW.out, HC.out.trans hc2 fun _ _ h => h⟩)
      rw [nI_length]
      clear hrd2 hc2 HT HW HC
      go_wp2
      go_roundw
      case rel => exact ⟨i + 1, c2, timesC 2 X 0, a2, by omega, by go_num, rfl, HS2.out⟩
      case measure => simp [intOf]; omega
    · obtain rfl : bits = i := by omega
      have HR0 := Lib.hid (show RdI wr (.slice a8 X.length c8) (nI X) ∧ WordsAt X (2 ^ bits) (bits + 1) ∧ Chg (fun _ => False) W3 wr from ⟨hrd, hwd, hc⟩)
      have HY := Lib.hid (HS.out.2.1.kept hc (by simp))
      have HMB0 := Lib.hid (HS.out.2.2.1.kept hc (by simp))
      have HCW := Lib.hid (HS.out.2.2.2.trans hc fun _ _ h => h)
      clear hrd hwd hc HS
      go_wp2
      go_loopw [8, 9, 11] (fun o8 o9 o11 wr => ∃ (i c8 c9 : Nat) (X Y : List Nat) (a8 a9 : Option Addr), i ≤ N ∧ o11 = .int .i64 (i : Int) ∧ o8 = .slice a8 X.length c8 ∧ o9 = .slice a9 Y.length c9 ∧ RdI wr (.slice a8 X.length c8) (nI X) ∧ RdI wr (.slice a9 Y.length c9) (nI Y) ∧ WordsAt X (2 ^ bits * prodQ (fM MM) ((prs 0 xs).take i)) (bits + 1 + i) ∧ WordsAt Y (prodM R (fM MM) ((prs 0 xs).take i)) (i + 1) ∧ Mb wr w.heap.size ((R : Nat) : Int) one (.slice ao n cap) ∧ Chg (fun _ => False) w wr) (fun _ _ o11 _ => N - (intOf o11).toNat)
      case atStart => exact ⟨0, c8, 1, X, [1], a8, some ⟨gx + 1, 0, none⟩, Nat.zero_le _, rfl, rfl, rfl, HR0.out.1, HY.out, by rw [List.take_zero]; simp only [prodQ, Nat.mul_one]; exact HR0.out.2.1, words_one, HMB0.out, HCW.out⟩
      case round =>
        clear HR0 HY HMB0 HCW
        obtain ⟨i, c8, c9, X, Y, a8, a9, hi, rfl, rfl, rfl, hrx, hry, hwx, hwy, hmb, hc⟩ := hrel
        have HRX := Lib.hid hrx; have HRY := Lib.hid hry; have HWX := Lib.hid hwx; have HWY := Lib.hid hwy
        clear hrx hry hwx hwy
        by_cases hlt : i < N
        · obtain ⟨b0, b1, b2⟩ := hmb.cells
          have hxk : xs.getD i 0 < 256 := getD_lt xs HX.out i
          have h6 := r6at_nat _ xs i wr.drew ((HB.out.kept hc (by simp)).kept ((Chg.refl (fun _ => False) wr).drew) (by simp)) HX.out (by rw [HN.out]; omega) (by rw [HN.out]; exact hlt)
          obtain ⟨hne, hf1⟩ := (fits_iff HFIT.out.1).1 HFIT.out _ ((prs_mem 0 xs _).2 ⟨i, by rw [HN.out]; exact hlt, rfl⟩)
          have hnq := norm_at HFIT.out.1 _ hne
          have hq1 := prodQ_succ (fM MM) xs i (by rw [HN.out]; exact hlt)
          have hq2 := prodM_succ R (fM MM) xs i (by rw [HN.out]; exact hlt)
          simp only [] at hne hf1 hnq
          obtain ⟨c, hce⟩ : ∃ c, (0 :: xs).getD i 0 = c := ⟨_, rfl⟩
          obtain ⟨x, hxe⟩ : ∃ x, xs.getD i 0 = x := ⟨_, rfl⟩
          rw [hce] at h6 hne hf1 hnq hq1 hq2
          rw [hxe] at hxk hf1 hq1
          obtain ⟨ql, hql⟩ : ∃ ql, MM.atL (c : Int) = ql := ⟨_, rfl⟩
          rw [hql, HR.out] at hnq
          have hff : fM MM c = fq ql := by funext s; unfold fM; rw [hql]
          rw [hff] at hf1 hq1 hq2
          have H6 := Lib.hid h6; have HQL := Lib.hid hql; have HXE := Lib.hid hxe; have HNQ := Lib.hid hnq; have HQ1 := Lib.hid hq1; have HQ2 := Lib.hid hq2
          have HMB := Lib.hid hmb; have HLL := Lib.hid (H1.out.kept hc); have HBB := Lib.hid (HB.out.kept hc (by simp)); have HC := Lib.hid hc
          have hkn : (i : Int) < (N : Int) := by omega
          have hxI : (x : Int) < 256 := by omega
          have hfx4 := hnq.le x
          have hfxI : ((fq ql x : Nat) : Int) ≤ 4096 := by omega
          clear h6 hce hql hxe hmb hc hnq hff hne hq1 hq2
          go_wp2
          go_region_held3 (fun W => W.cell? ⟨w.heap.size, 0, none⟩ = some (.int .i64 ((R : Nat) : Int)) ∧ W.cell? ⟨w.heap.size, 1, none⟩ = some (.bool one) ∧ W.cell? ⟨w.heap.size, 2, none⟩ = some (.slice ao n cap)) (first | exact ⟨b0, b1, b2⟩ | exact ⟨q0, q1, q2⟩ | exact ⟨r0, r1, r2⟩) (first
            | (go_at_call 17; refine (H6.out).mono ?_; rintro e w3 ⟨rfl, hc3⟩; have HC3 := Lib.hid ((Chg.refl (fun _ => False) wr).drew.trans hc3 fun _ _ h => h); obtain ⟨q0, q1, q2⟩ := (HMB.out.kept HC3.out (by simp)).cells; clear hc3)
            | (go_at_call 16; refine (HAT.out w3 (c : Int) (HLL.out.kept HC3.out)).mono ?_; rintro e w4 ⟨q, rfl, hq4, hc4⟩; rw [HQL.out] at hq4; obtain ⟨aq, cq, rfl⟩ := hq4.form; have HC4 := Lib.hid (HC3.out.trans hc4 fun _ _ h => h); obtain ⟨r0, r1, r2⟩ := (HMB.out.kept HC4.out (by simp)).cells; have HQ4 := Lib.hid hq4; clear hc4 hq4))
          have h256 : ql.length = 256 := HNQ.out.1
          obtain ⟨gq, oq, rfl, hcq⟩ := HQ4.out.at x (by rw [h256]; exact hxk)
          rw [HNQ.out.at x] at hcq
          obtain ⟨gb, ob, rfl, hbc⟩ := (HBB.out.kept HC4.out (by simp)).at i (by rw [HN.out]; exact hlt)
          rw [HXE.out] at hbc
          rw [h256] at HQ4 ⊢
          have HF1 := Lib.hid hf1
          obtain ⟨qx, hqx⟩ : ∃ qx, fq ql x = qx := ⟨_, rfl⟩
          rw [hqx] at hcq hf1 hfx4 hfxI HQ1
          have ht := r17times_any (.slice a8 X.length c8) X qx w4 (HRX.out.kept HC4.out (by simp)) (okW_words HWX.out.1) hf1 (by omega) (by have := HWX.out.2.2.2; omega)
          have HT := Lib.hid ht
          have hwn : WordsAt (timesC qx X 0) (2 ^ bits * prodQ (fM MM) ((prs 0 xs).take (i + 1))) (bits + 1 + (i + 1)) := by
            have := HWX.out.times qx hf1 (by omega)
            rw [HQ1.out, ← Nat.mul_assoc]
            exact this
          have HWN := Lib.hid hwn
          have HMB4 := Lib.hid (HMB.out.kept HC4.out (by simp)); have HCW4 := Lib.hid (HC.out.trans HC4.out fun _ _ h => h); have HRY4 := Lib.hid (HRY.out.kept HC4.out (by simp))
          clear h256 HC3 HC4 HC HMB HLL HBB b0 b1 b2 q0 q1 q2 r0 r1 r2 H6 ht hwn hqx HRX HRY
          go_wp2_with fail
          refine HT.out.mono ?_
          rintro e w5 ⟨u5, rfl, hrx5, hc5⟩
          obtain ⟨a5, c5, rfl⟩ := hrx5.form
          rw [nI_length] at hrx5 ⊢
          have hmn := r12many_any _ ql R w5 (HQ4.out.kept hc5 (by simp)) HNQ.out
          have hmle : manyF (fq ql) ≤ 256 := manyF_le _
          have hmnF : (countTo (fun t => decide (0 < fq ql t)) 256) = manyF (fq ql) := rfl
          rw [hmnF] at hmn
          obtain ⟨mn, hmne⟩ : ∃ mn, manyF (fq ql) = mn := ⟨_, rfl⟩
          rw [hmne] at hmn hmle HQ2
          have hmp : 1 ≤ mn := by
            rw [← hmne]
            exact countTo_some (p := fun t => decide (0 < fq ql t)) hxk (decide_eq_true (by have := HF1.out; omega))
          have hmI : (mn : Int) ≤ 256 := by omega
          have HMN := Lib.hid hmn; have HC5 := Lib.hid hc5; have HRX5 := Lib.hid hrx5
          clear hmn hc5 hrx5 hmnF hmne HT hcq hbc
          go_wp2_with fail
          refine HMN.out.mono ?_
          rintro e w6 ⟨rfl, rfl⟩
          obtain ⟨kk, hkk⟩ : ∃ kk, L + mn - 1 = kk := ⟨_, rfl⟩
          have hkI : (L : Int) + (mn : Int) - 1 = (kk : Int) := by omega
          have ht := r17times_any (.slice a9 Y.length c9) Y kk w6 (HRY4.out.kept HC5.out (by simp)) (okW_words HWY.out.1) (by omega) (by omega) (by have := HWY.out.2.2.2; omega)
          have hwn2 : WordsAt (timesC kk Y 0) (prodM R (fM MM) ((prs 0 xs).take (i + 1))) (i + 1 + 1) := by
            have := HWY.out.times kk (by omega) (by omega)
            rw [HQ2.out, HL.out, hkk]
            exact this
          have HT := Lib.hid ht; have HWN2 := Lib.hid hwn2
          have hkb : (kk : Int) ≤ 4351 := by omega
          clear ht hwn2 hkk HMN
          go_wp2_with fail
          refine HT.out.mono ?_
          rintro e w7 ⟨u7, rfl, hry7, hc7⟩
          obtain ⟨a7, c7, rfl⟩ := hry7.form
          rw [nI_length] at hry7 ⊢
          have HS7 := Lib.hid (show RdI w7 (.slice a5 (timesC qx X 0).length c5) (nI (timesC qx X 0)) ∧ RdI w7 (.slice a7 (timesC kk Y 0).length c7) (nI (timesC kk Y 0)) ∧ WordsAt (timesC qx X 0) (2 ^ bits * prodQ (fM MM) ((prs 0 xs).take (i + 1))) (bits + 1 + (i + 1)) ∧ WordsAt (timesC kk Y 0) (prodM R (fM MM) ((prs 0 xs).take (i + 1))) (i + 1 + 1) ∧ Mb w7 w.heap.size ((R : Nat) : Int) one (.slice ao n cap) ∧ Chg (fun _ => False) w w7 from
            ⟨HRX5.out.kept hc7 (by simp), hry7, HWN.out, HWN2.out, (HMB4.out.kept HC5.out (by simp)).kept hc7 (by simp), (HCW4.out.trans HC5.out fun _ _ h => h).trans hc7 fun _ _ h => h⟩)
          clear hry7 hc7 HT HWN HWN2 HMB4 HCW4 HRY4 HC5 HRX5
          go_wp2
          go_roundw
          case rel => exact ⟨i + 1, c5, c7, timesC qx X 0, timesC kk Y 0, a5, a7, by omega, by go_num, rfl, rfl, HS7.out⟩
          case measure => simp [intOf]; omega
        · have hiN : i = N := by omega
          have hall : (prs 0 xs).take i = prs 0 xs := List.take_of_length_le (by rw [prs_length, HN.out]; omega)
          have hab := r17above_any (.slice a8 X.length c8) (.slice a9 Y.length c9) X Y wr HRX.out HRY.out (by have := HWX.out.2.2.2; omega) (by have := HWY.out.2.2.2; omega)
          rw [aboveW_num HWX.out.1 HWY.out.1 HWX.out.2.1 HWY.out.2.1, HWX.out.2.2.1, HWY.out.2.2.1, hall] at hab
          have hDD : (!decide (prodM R (fM MM) (prs 0 xs) < 2 ^ bits * prodQ (fM MM) (prs 0 xs))) = D := by
            rw [← HD.out, HR.out, ← decide_not]
            exact decide_eq_decide.2 (by omega)
          obtain ⟨E, hE⟩ : ∃ E, decide (prodM R (fM MM) (prs 0 xs) < 2 ^ bits * prodQ (fM MM) (prs 0 xs)) = E := ⟨_, rfl⟩
          rw [hE] at hab hDD
          have HAB := Lib.hid hab; have HC := Lib.hid hc; have HDD := Lib.hid hDD
          clear hab hc hDD hE hall hmb
          go_wp2_with fail
          refine HAB.out.mono ?_
          rintro e w5 ⟨rfl, hc5⟩
          have HC5 := Lib.hid (HC.out.trans hc5 fun _ _ h => h)
          clear hc5
          go_wp2
          go_ret
          exact ⟨by rw [← HDD.out]; rfl, HC5.out⟩

end Go.Proofs.YtokeoebhmjefoaaGreat
