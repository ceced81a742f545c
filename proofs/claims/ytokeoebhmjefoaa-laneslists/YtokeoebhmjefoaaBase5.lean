/- Texts that other texts of this claim rest on, one behind the other (LnBits LnBkA CxProg EtProgA EtProg LnBk LnOfC LnNew BrRef LnDec LnPs MdProgA MdProgB LnWr LnProgA LnFoA SpEx DtAwake LnFo). -/
import Derived.Test.YtokeoebhmjefoaaBase4
import Derived.Handy
import Derived.BigQuiet
import Derived.Deep.RegionHeld3
import Derived.Deep.LoopGhost
import Derived.Laws.Tables
import Derived.Deep.WholeRow
import Derived.Deep.CutRange
/- What the document's own lanes (puncheonref17) tell: Bits. -/
namespace Go.Proofs.Ytokeoebhmjefoaa
open Go.RowKit

theorem enc_next {m : Md} {xs : List Nat} {j n : Nat} {bs : List Bool} {st : Nat × Nat} (hj : j < xs.length) (h : Enc (RM m) (fM m) (j + 1) ((prs 0 xs).drop (j + 1)) bs st)
    (hn : lefts (fM m ((0 :: xs).getD j 0) (xs.getD j 0)) (2 ^ RM m + lane j st) n) :
    Enc (RM m) (fM m) j ((prs 0 xs).drop j) (bs ++ bitsOf ((2 ^ RM m + lane j st) % 2 ^ n) n) (setLane j st (placeF (fM m ((0 :: xs).getD j 0)) 256 (xs.getD j 0) ((2 ^ RM m + lane j st) / 2 ^ n))) := by
  rw [prs_drop 0 xs j hj]
  exact .cons h hn
theorem fam_drop {R : Nat} {F : Nat → Nat → Nat} {P : List (Nat × Nat)} (h : FamOk R F P) (k : Nat) : FamOk R F (P.drop k) := fun p hp => h p (List.mem_of_mem_drop hp)
/-- what is encoded so far -/
def EncS (m : Md) (xs : List Nat) (N R k : Nat) (bs : List Bool) (a b : Nat) : Prop := Enc R (fM m) k ((prs 0 xs).drop k) bs (a, b) ∧ bs.length ≤ N * R ∧ a < 2 ^ R ∧ b < 2 ^ R
theorem encS_zero (m : Md) (xs : List Nat) (N R : Nat) (h : N = xs.length) : EncS m xs N R N [] 0 0 := by
  refine ⟨?_, by simp, Nat.two_pow_pos R, Nat.two_pow_pos R⟩
  rw [List.drop_of_length_le (by rw [prs_length, h]; omega)]
  exact .nil N

theorem own_formL {w : World} {base : Nat} {e : TypeId} {v : Value} {n : Nat} {xs : List Value} (h : w.ownsRow base e 1 v n xs) : ∃ a c, v = .slice a n c := by
  rcases h.2 with ⟨rfl, rfl⟩ | ⟨g, cap, _, rfl, _⟩
  · exact ⟨_, _, rfl⟩
  · exact ⟨_, _, rfl⟩

set_option maxHeartbeats 4000000 in
theorem r17bits_any (v u : Value) (m : Md) (xs : List Nat) (w : World) (h : RdM w v m) (hfit : m.fits xs) (hb : RdB w u xs) (hx : ∀ x ∈ xs, x < 256) (hl : xs.length ≤ 60000) :
    Calls Try.prog 13 #[v, u] w fun e w' => ∃ v', e = .returned v' ∧ Bools w' v' (payL m xs) ∧ Chg (fun _ => False) w w' := by
  obtain ⟨cv, rfl, h1⟩ := h
  have hf := hfit.1.fit64
  have HFAM := Lib.hid (fits_fam hfit hx)
  have HFIT := Lib.hid hfit
  have HAT := Lib.hid (show ∀ W (c : Int), RdLL W cv m.cs → Calls Try.prog 23 #[mdv m cv, .int .i64 c] W fun e w' => ∃ q, e = .returned q ∧ RdI w' q (m.atL c) ∧ Chg (fun _ => False) W w' from fun W c hW => r16at_any _ m c W ⟨cv, rfl, hW⟩ hf)
  obtain ⟨hR1, hR2, hR3⟩ := RM_le hfit.1
  obtain ⟨R, hR⟩ : ∃ R, RM m = R := ⟨_, rfl⟩
  rw [hR] at hR1 hR2 hR3
  have HR := Lib.hid hR
  have hp2 := pow12 (k := R) (by omega)
  obtain ⟨ab, capb, rfl⟩ := hb.form
  obtain ⟨MM, hMM⟩ : ∃ MM, m = MM := ⟨_, rfl⟩
  rw [hMM] at HAT HFAM HFIT HR
  have hlog : m.log = ((R : Nat) : Int) := hR3.symm
  rw [show payL m xs = payL MM xs by rw [hMM]]
  obtain ⟨log, one, cs⟩ := m
  simp only [] at h1 hlog
  subst hlog
  obtain ⟨ao, cap, rfl⟩ := h1.form
  have hca := Chg.alloc (fun _ => False) w (.cells #[.int .i64 ((R : Nat) : Int), .bool one, .slice ao cs.length cap] 24)
  have hnew : Mb _ _ ((R : Nat) : Int) one (.slice ao cs.length cap) := heap_alloc_new w (.cells #[.int .i64 ((R : Nat) : Int), .bool one, .slice ao cs.length cap] 24)
  have hll := h1.kept hca
  have hbl := hb.kept hca (by simp)
  have hmdv : mdv MM (.slice ao cs.length cap) = .agg #[.int .i64 ((R : Nat) : Int), .bool one, .slice ao cs.length cap] := by rw [← hMM]; rfl
  have hcs : MM.cs = cs := by rw [← hMM]
  rw [hmdv, hcs] at HAT
  unfold mdv
  simp only []
  obtain ⟨n, hn⟩ : ∃ n, cs.length = n := ⟨_, rfl⟩
  rw [hn] at hca hnew hll hbl HAT ⊢
  obtain ⟨N, hNx⟩ : ∃ N, xs.length = N := ⟨_, rfl⟩
  rw [hNx] at hbl hl ⊢
  have HS := Lib.hid (show Mb _ _ ((R : Nat) : Int) one (.slice ao n cap) ∧ RdLL _ (.slice ao n cap) cs ∧ RdB _ (.slice ab N capb) xs ∧ Chg (fun _ => False) w _ from ⟨hnew, hll, hbl, hca⟩)
  have HN := Lib.hid hNx; have HX := Lib.hid hx; have HP2 := Lib.hid hp2
  have hNb : (N : Int) ≤ 60000 := by omega
  have hN0 : (0 : Int) ≤ (N : Int) := by omega
  clear h1 hf hca hnew hll hbl hn hNx hx hb hMM hmdv hcs hl hfit hp2 hR hR3
  go_enter Try.func13, Try.ntmps13
  go_wp2
  go_loopw [5, 6, 7, 8] (fun o5 o6 o7 o8 wr => ∃ (k a b c5 : Nat) (bs : List Bool) (a5 : Option Addr), k ≤ N ∧ o5 = .slice a5 bs.length c5 ∧ o8 = .int .i64 ((k : Int) - 1) ∧ o6 = .int .i64 (a : Int) ∧ o7 = .int .i64 (b : Int) ∧ EncS MM xs N R k bs a b ∧ (∃ base, wr.ownsRow base 4 1 (.slice a5 bs.length c5) bs.length (bl bs)) ∧ Mb wr w.heap.size ((R : Nat) : Int) one (.slice ao n cap) ∧ RdLL wr (.slice ao n cap) cs ∧ RdB wr (.slice ab N capb) xs ∧ Chg (fun _ => False) w wr) (fun _ _ _ o8 _ => (intOf o8 + 1).toNat)
  case atStart => exact ⟨N, 0, 0, 0, [], none, Nat.le_refl _, rfl, rfl, rfl, rfl, encS_zero MM xs N R HN.out.symm, ⟨0, rfl, .inl ⟨rfl, rfl⟩⟩, HS.out⟩
  case round =>
    clear HS
    obtain ⟨k, a, b, c5, bs, a5, hk, rfl, rfl, rfl, rfl, hen, hown, hmb, hl, hb, hc⟩ := hrel
    have HOWN := Lib.hid hown; have HEN := Lib.hid hen
    have HNR := Lib.hid (show N * R ≤ 720000 from Nat.le_trans (Nat.mul_le_mul (show N ≤ 60000 by omega) hR2) (by decide))
    clear hown hen
    by_cases hk0 : k = 0
    · subst hk0
      have hpay : payL MM xs = bs ++ bitsOf b R ++ bitsOf a R := by
        have := HEN.out.1
        rw [List.drop_zero] at this
        rw [payL_of (by rw [HR.out]; exact this), HR.out]; rfl
      have HPAY := Lib.hid hpay
      obtain ⟨b0, b1, b2⟩ := hmb.cells
      have haI : (a : Int) < 4096 := by have := HEN.out.2.2; have := HP2.out; omega
      have hbI : (b : Int) < 4096 := by have := HEN.out.2.2; have := HP2.out; omega
      have hput := rput_any (.slice a5 bs.length c5) bs b R wr HOWN.out (by have := HEN.out.2.1; have := HNR.out; omega) (by omega) (by omega)
      have HPUT := Lib.hid hput; have HMB := Lib.hid hmb; have HC := Lib.hid hc
      rw [show ((0 : Nat) : Int) - 1 = -1 by omega]
      clear hpay hput hmb hl hb hc HAT
      go_wp2_with fail
      refine HPUT.out.mono ?_
      rintro e w6 ⟨v6, rfl, hown6, hc6⟩
      have hput := rput_any v6 (bs ++ bitsOf b R) a R w6 ⟨_, hown6⟩ (by have := HEN.out.2.1; have := HNR.out; rw [List.length_append, bitsOf_length]; omega) (by omega) (by omega)
      have HP7 := Lib.hid hput
      have hmb6 := HMB.out.kept hc6 (by simp)
      obtain ⟨q0, q1, q2⟩ := hmb6.cells
      have HC6 := Lib.hid (HC.out.trans hc6 fun _ _ h => h)
      clear b0 b1 b2 hown6 hc6 HPUT hput hmb6 HMB HC HOWN
      go_wp2_with fail
      refine HP7.out.mono ?_
      rintro e w7 ⟨v7, rfl, hown7, hc7⟩
      have HO7 := Lib.hid hown7; have HC7 := Lib.hid (HC6.out.trans hc7 fun _ _ h => h)
      clear q0 q1 q2 hown7 hc7 HP7 HC6
      go_wp2
      go_ret
      exact ⟨v7, rfl, by rw [HPAY.out]; exact ⟨_, HO7.out⟩, HC7.out⟩
    · obtain ⟨j, rfl⟩ : ∃ j, k = j + 1 := ⟨k - 1, by omega⟩
      rw [show ((j + 1 : Nat) : Int) - 1 = (j : Int) by omega]
      have hjN : j < N := by omega
      obtain ⟨b0, b1, b2⟩ := hmb.cells
      have hxk : xs.getD j 0 < 256 := getD_lt xs HX.out j
      have h6 := r6at_nat _ xs j wr.drew (hb.kept ((Chg.refl (fun _ => False) wr).drew) (by simp)) HX.out (by rw [HN.out]; omega) (by rw [HN.out]; exact hjN)
      obtain ⟨hne, hf1⟩ := (fits_iff HFIT.out.1).1 HFIT.out _ ((prs_mem 0 xs _).2 ⟨j, by rw [HN.out]; exact hjN, rfl⟩)
      have hnq := norm_at HFIT.out.1 _ hne
      simp only [] at hne hf1 hnq
      obtain ⟨c, hce⟩ : ∃ c, (0 :: xs).getD j 0 = c := ⟨_, rfl⟩
      obtain ⟨x, hxe⟩ : ∃ x, xs.getD j 0 = x := ⟨_, rfl⟩
      rw [hce] at h6 hne hf1 hnq
      rw [hxe] at hxk hf1
      obtain ⟨ql, hql⟩ : ∃ ql, MM.atL (c : Int) = ql := ⟨_, rfl⟩
      rw [hql, HR.out] at hnq
      have hff : fM MM c = fq ql := by funext s; unfold fM; rw [hql]
      have hfx : fM MM c x = fq ql x := by rw [hff]
      have hfl : fq ql x ≤ 2 ^ R := f_le hnq.sum hxk
      have H6 := Lib.hid h6; have HQL := Lib.hid hql; have HXE := Lib.hid hxe; have HCE := Lib.hid hce; have HNQ := Lib.hid hnq; have HF := Lib.hid hfx; have HFF := Lib.hid hff; have HF1 := Lib.hid hf1; have HFL := Lib.hid hfl
      have HMB := Lib.hid hmb; have HL := Lib.hid hl; have HB := Lib.hid hb; have HC := Lib.hid hc
      have hkn : (j : Int) < (N : Int) := by omega
      have hxI : (x : Int) < 256 := by omega
      clear h6 hce hql hxe hmb hl hb hc hnq hfx hff hf1 hfl hne
      go_wp2
      go_region_held3 (fun W => W.cell? ⟨w.heap.size, 0, none⟩ = some (.int .i64 ((R : Nat) : Int)) ∧ W.cell? ⟨w.heap.size, 1, none⟩ = some (.bool one) ∧ W.cell? ⟨w.heap.size, 2, none⟩ = some (.slice ao n cap)) (first | exact ⟨b0, b1, b2⟩ | exact ⟨q0, q1, q2⟩ | exact ⟨r0, r1, r2⟩) (first
        | (go_at_call 24; refine (H6.out).mono ?_; rintro e w3 ⟨rfl, hc3⟩; have HC3 := Lib.hid ((Chg.refl (fun _ => False) wr).drew.trans hc3 fun _ _ h => h); obtain ⟨q0, q1, q2⟩ := (HMB.out.kept HC3.out (by simp)).cells; clear hc3)
        | (go_at_call 23; refine (HAT.out w3 (c : Int) (HL.out.kept HC3.out)).mono ?_; rintro e w4 ⟨q, rfl, hq4, hc4⟩; rw [HQL.out] at hq4; obtain ⟨aq, cq, rfl⟩ := hq4.form; have HC4 := Lib.hid (HC3.out.trans hc4 fun _ _ h => h); obtain ⟨r0, r1, r2⟩ := (HMB.out.kept HC4.out (by simp)).cells; have HQ4 := Lib.hid hq4; clear hc4 hq4))
      have h256 : ql.length = 256 := HNQ.out.1
      have HS5 := Lib.hid (show Mb w4 w.heap.size ((R : Nat) : Int) one (.slice ao n cap) ∧ RdLL w4 (.slice ao n cap) cs ∧ RdB w4 (.slice ab N capb) xs ∧ Chg (fun _ => False) w w4 ∧ Chg (fun _ => False) wr w4 from ⟨HMB.out.kept HC4.out (by simp), HL.out.kept HC4.out, HB.out.kept HC4.out (by simp), HC.out.trans HC4.out fun _ _ h => h, HC4.out⟩)
      clear HC3 HC4 HC HMB HL HB b0 b1 b2 q0 q1 q2 r0 r1 r2 H6
      obtain ⟨gq, oq, rfl, _⟩ := HQ4.out.at x (by rw [h256]; exact hxk)
      obtain ⟨gb, ob, rfl, hbc⟩ := HS5.out.2.2.1.at j (by rw [HN.out]; exact hjN)
      rw [HXE.out] at hbc
      rw [h256] at HQ4 ⊢
      have haI : (a : Int) < 4096 := by have := HEN.out.2.2; have := HP2.out; omega
      have hbI : (b : Int) < 4096 := by have := HEN.out.2.2; have := HP2.out; omega
      clear h256
      rcases (show j % 2 = 1 ∨ j % 2 = 0 by omega) with hp | hp
      · have hx1 : (j : Int) % 2 = 1 := by omega
        have hx2 : (j : Int).tmod 2 = 1 := by rw [Int.tmod_eq_emod_of_nonneg (by omega)]; exact hx1
        have hla : lane j (a, b) = b := by unfold lane; simp [hp]
        have hse : ∀ y, setLane j (a, b) y = (a, y) := by intro y; unfold setLane; simp [hp]
        have hst := r12step_any (.slice (some ⟨gq, oq, none⟩) 256 cq) ql R (b : Int) x w4 HQ4.out HNQ.out hxk (by omega)
        have HST := Lib.hid hst; have HLA := Lib.hid hla; have HSE := Lib.hid hse
        clear hst hla hse hp
        go_wp2_with fail
        refine HST.out.mono ?_
        rintro e w5 ⟨hsays, m5, rfl⟩
        obtain ⟨n5, hln, rfl⟩ := hsays.2 ⟨by omega, by have := HEN.out.2.2; omega, by rw [← HF.out]; exact HF1.out⟩
        rw [Int.toNat_natCast] at hln
        simp only [Int.toNat_natCast]
        have hn5 : n5 ≤ R := lefts_le (by rw [← HF.out]; exact HF1.out) HFL.out (by have := HEN.out.2.2; omega) hln
        have hnx : placeF (fq ql) 256 x ((2 ^ R + b) / 2 ^ n5) < 2 ^ R := enc_place hxk HNQ.out.sum hln
        have hlow : (2 ^ R + b) % 2 ^ n5 < 2 ^ n5 := Nat.mod_lt _ (Nat.two_pow_pos _)
        have hln2 : lefts (fM MM ((0 :: xs).getD j 0) (xs.getD j 0)) (2 ^ RM MM + lane j (a, b)) n5 := by rw [HCE.out, HXE.out, HR.out, HLA.out, HF.out]; exact hln
        have hen2 : Enc R (fM MM) (j + 1) ((prs 0 xs).drop (j + 1)) bs (a, b) := HEN.out.1
        have hnext := enc_next (m := MM) (by rw [HN.out]; exact hjN) (by rw [HR.out]; exact hen2) hln2
        rw [HCE.out, HXE.out, HR.out, HLA.out, HSE.out, HFF.out] at hnext
        obtain ⟨y, hy⟩ : ∃ y, placeF (fq ql) 256 x ((2 ^ R + b) / 2 ^ n5) = y := ⟨_, rfl⟩
        obtain ⟨lo, hlo⟩ : ∃ lo, (2 ^ R + b) % 2 ^ n5 = lo := ⟨_, rfl⟩
        rw [hy] at hnx hnext ⊢
        rw [hlo] at hlow hnext ⊢
        have h2n : 2 ^ n5 ≤ 4096 := pow12 (by omega)
        have hlen5 : (bs ++ bitsOf lo n5).length ≤ N * R := by
          have h1 := enc_len hnext (fam_drop (by rw [← HR.out]; exact HFAM.out) j)
          rw [List.length_drop, prs_length, HN.out] at h1
          exact Nat.le_trans h1 (Nat.mul_le_mul_right _ (by omega))
        have hput := rput_any (.slice a5 bs.length c5) bs lo n5 (w4.drewN m5) ⟨_, (HS5.out.2.2.2.2.drewN m5 : Chg (fun _ => False) wr (w4.drewN m5)).own HOWN.out.choose_spec (by simp)⟩ (by have := HEN.out.2.1; have := HNR.out; omega) (by omega) (by omega)
        have HPUT := Lib.hid hput
        have HNXT := Lib.hid (show EncS MM xs N R j (bs ++ bitsOf lo n5) a y from ⟨hnext, hlen5, HEN.out.2.2.1, hnx⟩)
        have hyI : (y : Int) < 4096 := by have := HP2.out; omega
        clear hput hln hln2 hen2 hnext hy hlo hlow hnx hlen5 HST HOWN
        go_wp2_with fail
        refine HPUT.out.mono ?_
        rintro e w6 ⟨v6, rfl, hown6, hc6⟩
        obtain ⟨a6, c6, rfl⟩ := own_formL hown6
        have hc7 : Chg (fun _ => False) w4 w6 := ((Chg.refl (fun _ => False) w4).drewN m5).trans hc6 fun _ _ h => h
        have HS7 := Lib.hid (show (∃ base, w6.ownsRow base 4 1 (.slice a6 (bs ++ bitsOf lo n5).length c6) (bs ++ bitsOf lo n5).length (bl (bs ++ bitsOf lo n5))) ∧ Mb w6 w.heap.size ((R : Nat) : Int) one (.slice ao n cap) ∧ RdLL w6 (.slice ao n cap) cs ∧ RdB w6 (.slice (some ⟨gb, ob, none⟩) N capb) xs ∧ Chg (fun _ => False) w w6 from ⟨⟨_, hown6⟩, HS5.out.1.kept hc7 (by simp), HS5.out.2.1.kept hc7, HS5.out.2.2.1.kept hc7 (by simp), HS5.out.2.2.2.1.trans hc7 fun _ _ h => h⟩)
        clear hown6 hc6 hc7 HPUT HS5 HEN
        go_wp2
        go_roundw
        case rel => exact ⟨j, a, y, c6, _, a6, by omega, by rw [List.length_append], by go_num, rfl, rfl, HNXT.out, HS7.out⟩
        case measure => simp [intOf]
      · have hx1 : (j : Int) % 2 = 0 := by omega
        have hx2 : (j : Int).tmod 2 = 0 := by rw [Int.tmod_eq_emod_of_nonneg (by omega)]; exact hx1
        have hla : lane j (a, b) = a := by unfold lane; simp [hp]
        have hse : ∀ y, setLane j (a, b) y = (y, b) := by intro y; unfold setLane; simp [hp]
        have hst := r12step_any (.slice (some ⟨gq, oq, none⟩) 256 cq) ql R (a : Int) x w4 HQ4.out HNQ.out hxk (by omega)
        have HST := Lib.hid hst; have HLA := Lib.hid hla; have HSE := Lib.hid hse
        clear hst hla hse hp
        go_wp2_with fail
        refine HST.out.mono ?_
        rintro e w5 ⟨hsays, m5, rfl⟩
        obtain ⟨n5, hln, rfl⟩ := hsays.2 ⟨by omega, by have := HEN.out.2.2; omega, by rw [← HF.out]; exact HF1.out⟩
        rw [Int.toNat_natCast] at hln
        simp only [Int.toNat_natCast]
        have hn5 : n5 ≤ R := lefts_le (by rw [← HF.out]; exact HF1.out) HFL.out (by have := HEN.out.2.2; omega) hln
        have hnx : placeF (fq ql) 256 x ((2 ^ R + a) / 2 ^ n5) < 2 ^ R := enc_place hxk HNQ.out.sum hln
        have hlow : (2 ^ R + a) % 2 ^ n5 < 2 ^ n5 := Nat.mod_lt _ (Nat.two_pow_pos _)
        have hln2 : lefts (fM MM ((0 :: xs).getD j 0) (xs.getD j 0)) (2 ^ RM MM + lane j (a, b)) n5 := by rw [HCE.out, HXE.out, HR.out, HLA.out, HF.out]; exact hln
        have hen2 : Enc R (fM MM) (j + 1) ((prs 0 xs).drop (j + 1)) bs (a, b) := HEN.out.1
        have hnext := enc_next (m := MM) (by rw [HN.out]; exact hjN) (by rw [HR.out]; exact hen2) hln2
        rw [HCE.out, HXE.out, HR.out, HLA.out, HSE.out, HFF.out] at hnext
        obtain ⟨y, hy⟩ : ∃ y, placeF (fq ql) 256 x ((2 ^ R + a) / 2 ^ n5) = y := ⟨_, rfl⟩
        obtain ⟨lo, hlo⟩ : ∃ lo, (2 ^ R + a) % 2 ^ n5 = lo := ⟨_, rfl⟩
        rw [hy] at hnx hnext ⊢
        rw [hlo] at hlow hnext ⊢
        have h2n : 2 ^ n5 ≤ 4096 := pow12 (by omega)
        have hlen5 : (bs ++ bitsOf lo n5).length ≤ N * R := by
          have h1 := enc_len hnext (fam_drop (by rw [← HR.out]; exact HFAM.out) j)
          rw [List.length_drop, prs_length, HN.out] at h1
          exact Nat.le_trans h1 (Nat.mul_le_mul_right _ (by omega))
        have hput := rput_any (.slice a5 bs.length c5) bs lo n5 (w4.drewN m5) ⟨_, (HS5.out.2.2.2.2.drewN m5 : Chg (fun _ => False) wr (w4.drewN m5)).own HOWN.out.choose_spec (by simp)⟩ (by have := HEN.out.2.1; have := HNR.out; omega) (by omega) (by omega)
        have HPUT := Lib.hid hput
        have HNXT := Lib.hid (show EncS MM xs N R j (bs ++ bitsOf lo n5) y b from ⟨hnext, hlen5, hnx, HEN.out.2.2.2⟩)
        have hyI : (y : Int) < 4096 := by have := HP2.out; omega
        clear hput hln hln2 hen2 hnext hy hlo hlow hnx hlen5 HST HOWN
        go_wp2_with fail
        refine HPUT.out.mono ?_
        rintro e w6 ⟨v6, rfl, hown6, hc6⟩
        obtain ⟨a6, c6, rfl⟩ := own_formL hown6
        have hc7 : Chg (fun _ => False) w4 w6 := ((Chg.refl (fun _ => False) w4).drewN m5).trans hc6 fun _ _ h => h
        have HS7 := Lib.hid (show (∃ base, w6.ownsRow base 4 1 (.slice a6 (bs ++ bitsOf lo n5).length c6) (bs ++ bitsOf lo n5).length (bl (bs ++ bitsOf lo n5))) ∧ Mb w6 w.heap.size ((R : Nat) : Int) one (.slice ao n cap) ∧ RdLL w6 (.slice ao n cap) cs ∧ RdB w6 (.slice (some ⟨gb, ob, none⟩) N capb) xs ∧ Chg (fun _ => False) w w6 from ⟨⟨_, hown6⟩, HS5.out.1.kept hc7 (by simp), HS5.out.2.1.kept hc7, HS5.out.2.2.1.kept hc7 (by simp), HS5.out.2.2.2.1.trans hc7 fun _ _ h => h⟩)
        clear hown6 hc6 hc7 HPUT HS5 HEN
        go_wp2
        go_roundw
        case rel => exact ⟨j, y, b, c6, _, a6, by omega, by rw [List.length_append], by go_num, rfl, rfl, HNXT.out, HS7.out⟩
        case measure => simp [intOf]

end Go.Proofs.Ytokeoebhmjefoaa

/- The memory of back's loop: boxes, the states, the Writer, what is built. THIS SPEAKS OF THE PROGRAM'S OWN TEXT. -/
namespace Go.Proofs.Ytokeoebhmjefoaa
open Go.RowKit

/-- two numbers in a block -/
def Stt (w : World) (g : Nat) (a b : Nat) : Prop := w.heap[g]? = some (.cells #[.int .i64 (a : Int), .int .i64 (b : Int)] 58 (0, 0))
theorem Stt.cells {w : World} {g a b : Nat} (h : Stt w g a b) : w.cell? ⟨g, 0, none⟩ = some (.int .i64 (a : Int)) ∧ w.cell? ⟨g, 1, none⟩ = some (.int .i64 (b : Int)) :=
  ⟨by rw [cell_of_row w g 0 _ _ _ h]; rfl, by rw [cell_of_row w g 1 _ _ _ h]; rfl⟩
theorem Stt.free {w : World} {g a b : Nat} (h : Stt w g a b) (k : Nat) : w.frozen? ⟨g, k, none⟩ = false := frozen_of_row w g k _ _ h
theorem Stt.kept {S : Nat → Prop} {w w' : World} {g a b : Nat} (h : Stt w g a b) (hc : Chg S w w') (hS : ¬ S g) : Stt w' g a b := (hc.block g (lt_of_block h) hS).trans h
theorem Stt.set {w : World} {g a b : Nat} (h : Stt w g a b) (k y : Nat) : Stt (w.setCell ⟨g, k % 2, none⟩ (.int .i64 (y : Int))) g (setLane k (a, b) y).1 (setLane k (a, b) y).2 := by
  unfold Stt setLane
  rcases (show k % 2 = 1 ∨ k % 2 = 0 by omega) with hp | hp
  · rw [if_pos hp, hp, heap_setCell_same w g 1 _ _ _ h]; rfl
  · rw [if_neg (by omega), hp, heap_setCell_same w g 0 _ _ _ h]; rfl
theorem Stt.lane {w : World} {g a b : Nat} (h : Stt w g a b) (k : Nat) : w.cell? ⟨g, k % 2, none⟩ = some (.int .i64 ((lane k (a, b) : Nat) : Int)) := by
  obtain ⟨h0, h1⟩ := h.cells
  unfold Go.Proofs.Ytokeoebhmjefoaa.lane
  rcases (show k % 2 = 1 ∨ k % 2 = 0 by omega) with hp | hp
  · rw [if_pos hp, hp]; exact h1
  · rw [if_neg (by omega), hp]; exact h0

theorem alloc_at (w : World) (o : Obj) (k : Nat) : (w.alloc o).heap[k]? = if k = w.heap.size then some o else w.heap[k]? := by
  show (w.heap.push o)[k]? = _
  rw [Array.getElem?_push]
theorem six_new (W : World) (o0 o1 o2 o3 o4 o5 : Obj) : ∃ V, (((((W.alloc o0).alloc o1).alloc o2).alloc o3).alloc o4).alloc o5 = V ∧ V.heap.size = W.heap.size + 6 ∧ Chg (fun _ => False) W V ∧
    V.heap[W.heap.size]? = some o0 ∧ V.heap[W.heap.size + 1]? = some o1 ∧ V.heap[W.heap.size + 2]? = some o2 ∧ V.heap[W.heap.size + 3]? = some o3 ∧ V.heap[W.heap.size + 4]? = some o4 ∧ V.heap[W.heap.size + 5]? = some o5 := by
  refine ⟨_, rfl, by simp, (((((Chg.alloc _ W o0).trans (Chg.alloc _ _ o1) fun _ _ h => h).trans (Chg.alloc _ _ o2) fun _ _ h => h).trans (Chg.alloc _ _ o3) fun _ _ h => h).trans (Chg.alloc _ _ o4) fun _ _ h => h).trans (Chg.alloc _ _ o5) fun _ _ h => h, ?_, ?_, ?_, ?_, ?_, ?_⟩ <;> (simp only [alloc_at, World.size_alloc]; repeat' (first | rfl | (exfalso; omega) | split))

/-- which blocks turn in the loop: the Writer's, and the loop's own -/
def BkX (A b : Nat) (o : Option Nat) (q : Nat) : Prop := q = b ∨ some q = o ∨ (A ≤ q ∧ q < A + 8)
structure BkS (w : World) (G A b : Nat) (m : Md) (cv u : Value) (xs : List Nat) (V : World) (k x0 x1 : Nat) (o : Option Nat) (bs : List Bool) : Prop where
  b0 : V.heap[A]? = some (.cells #[.pointer (some ⟨b, 0, none⟩)] 43 (0, 0))
  b1 : V.heap[A + 1]? = some (.cells #[u] 25 (0, 0))
  b2 : V.heap[A + 2]? = some (.cells #[.func (.func 45) #[.pointer (some ⟨G, 0, none⟩)] #[]] 86 (0, 0))
  b3 : V.heap[A + 3]? = some (.cells #[.int .i64 0, .int .i64 0] 58 (0, 0))
  st : Stt V (A + 4) x0 x1
  b5 : V.heap[A + 5]? = some (.cells #[u] 25 (0, 0))
  wr : Wr V b o bs
  enc : EncS m xs xs.length (RM m) k bs x0 x1
  ls : LsT w G m cv V (BkX A b o)
  sz : A + 8 ≤ V.heap.size
  gA : G < A
  bA : b < A
  oA : ∀ q, o = some q → A + 8 ≤ q
theorem BkS.still {w : World} {G A b : Nat} {m : Md} {cv u : Value} {xs : List Nat} {V V' : World} {k x0 x1 : Nat} {o : Option Nat} {bs : List Bool} {T : Nat → Prop} (h : BkS w G A b m cv u xs V k x0 x1 o bs) (hc : Chg T V V') (hT : ∀ q, T q → q = A + 6 ∨ q = A + 7) : BkS w G A b m cv u xs V' k x0 x1 o bs := by
  have hno : ∀ q, q < A + 6 → ¬ T q := fun q hq ht => by have := hT q ht; omega
  have hsz := h.sz
  refine ⟨(hc.block _ (by omega) (hno _ (by omega))).trans h.b0, (hc.block _ (by omega) (hno _ (by omega))).trans h.b1, (hc.block _ (by omega) (hno _ (by omega))).trans h.b2, (hc.block _ (by omega) (hno _ (by omega))).trans h.b3, h.st.kept hc (hno _ (by omega)), (hc.block _ (by omega) (hno _ (by omega))).trans h.b5,
    h.wr.kept hc (hno _ (by have := h.bA; omega)) (fun q hq ht => by have := hT q ht; have := h.oA q hq; omega), h.enc, h.ls.kept (AtT.kept m) (hc.mono fun q _ ht => ?_) fun q hq => ⟨Nat.lt_of_lt_of_le (h.ls.lt q hq).2.1 hc.size, .inl hq⟩, Nat.le_trans hsz hc.size, h.gA, h.bA, h.oA⟩
  have := hT q ht
  exact .inr (.inr (by omega))
theorem BkS.step {w : World} {G A b : Nat} {m : Md} {cv u : Value} {xs : List Nat} {V V2 V3 V4 : World} {k x0 x1 y : Nat} {o o' : Option Nat} {bs bs' : List Bool} (h : BkS w G A b m cv u xs V (k + 1) x0 x1 o bs)
    (h2 : LsT w G m cv V2 (BkX A b o)) (c2 : Chg (fun q => q = G) V V2) (c3 : Chg (fun _ => False) V2 V3) (hwr : Wr V4 b o' bs') (c4 : Chg (fun q => q = b ∨ some q = o) V3 V4) (ho : o' = o ∨ ∃ q, o' = some q ∧ V3.heap.size ≤ q)
    (henc : EncS m xs xs.length (RM m) k bs' (setLane k (x0, x1) y).1 (setLane k (x0, x1) y).2) :
    BkS w G A b m cv u xs (V4.setCell ⟨A + 4, k % 2, none⟩ (.int .i64 (y : Int))) k (setLane k (x0, x1) y).1 (setLane k (x0, x1) y).2 o' bs' := by
  have c5 := Chg.setCell V4 ⟨A + 4, k % 2, none⟩ (.int .i64 (y : Int))
  have hG := h.gA
  have hb := h.bA
  have hsz := h.sz
  have s2 := c2.size; have s3 := c3.size; have s4 := c4.size
  have n2 : ∀ q, A ≤ q → q < A + 8 → V4.heap[q]? = V.heap[q]? := fun q h1 h2 =>
    (c4.block q (by omega) (fun hq => by
      rcases hq with hq | hq
      · omega
      · have := h.oA q hq.symm; omega)).trans ((c3.block q (by omega) (fun hh => hh)).trans (c2.block q (by omega) (by omega)))
  have n5 : ∀ q, A ≤ q → q < A + 8 → q ≠ A + 4 → (V4.setCell ⟨A + 4, k % 2, none⟩ (.int .i64 (y : Int))).heap[q]? = V.heap[q]? := fun q h1 h2 h3 => (c5.block q (by omega) h3).trans (n2 q h1 h2)
  have ho' : ∀ q, o' = some q → A + 8 ≤ q := fun q hq => by
    rcases ho with rfl | ⟨q', e1, e2⟩
    · exact h.oA q hq
    · rw [e1] at hq; injection hq with hq; omega
  have hwl := hwr.lt
  have l3 := h2.still (AtT.kept m) c3
  have l4 : LsT w G m cv V4 (BkX A b o') := l3.kept (AtT.kept m) (c4.mono fun q _ hq => hq.elim .inl fun hq => .inr (.inl hq)) fun q hq => by
    rcases hq with rfl | hq | hq
    · exact ⟨hwl.1, .inl (.inl rfl)⟩
    · refine ⟨(hwl.2 q hq.symm).2, ?_⟩
      rcases ho with rfl | ⟨q', e1, e2⟩
      · exact .inl (.inr (.inl hq))
      · rw [e1] at hq; injection hq with hq; subst hq; exact .inr e2
    · exact ⟨by omega, .inl (.inr (.inr hq))⟩
  refine ⟨(n5 _ (by omega) (by omega) (by omega)).trans h.b0, (n5 _ (by omega) (by omega) (by omega)).trans h.b1, (n5 _ (by omega) (by omega) (by omega)).trans h.b2, (n5 _ (by omega) (by omega) (by omega)).trans h.b3,
    Stt.set (((n2 _ (by omega) (by omega)).trans h.st : Stt V4 (A + 4) x0 x1)) k y, (n5 _ (by omega) (by omega) (by omega)).trans h.b5,
    hwr.kept c5 (by simp only []; omega) (fun q hq he => by simp only [] at he; have := ho' q hq; omega), henc, l4.kept (AtT.kept m) (c5.mono fun q _ hq => ?_) fun q hq => ⟨Nat.lt_of_lt_of_le (l4.lt q hq).2.1 c5.size, .inl hq⟩, Nat.le_trans (by omega) c5.size, hG, hb, ho'⟩
  simp only [] at hq
  exact .inr (.inr (by omega))

end Go.Proofs.Ytokeoebhmjefoaa

/- What ctx's At, For, Present and Widest tell. THIS ALONE SPEAKS OF THE PROGRAM'S OWN TEXT. (Present and Widest: CxProgB.) -/
namespace Go.Proofs.Ytokeoebhmjefoaa
open Go.RowKit

set_option maxHeartbeats 1000000 in
theorem xat_any (v : Value) (xs : List Nat) (i : Int) (w : World) (h : RdB w v xs) (hx : ∀ x ∈ xs, x < 256) (hl : xs.length < 10000000000) (hi : -9223372036854775808 ≤ i ∧ i ≤ 9223372036854775807) :
    Calls Try.prog 58 #[v, .int .i64 i] w fun e w' => e = .returned (.int .i64 (atI xs i)) ∧ ∃ m, w' = w.drewN m := by
  obtain ⟨ao, cap, rfl⟩ := h.form
  have H := Lib.hid h; have HX := Lib.hid hx
  clear h hx
  by_cases hneg : i < 0
  · have d1 : decide (i < 0) = true := decide_eq_true hneg
    have HA := Lib.hid (atI_out xs i (.inl hneg))
    go_enter Try.func58, Try.ntmps58
    go_wp2
    go_ret
    rw [HA.out]
    exact ⟨rfl, 0, rfl⟩
  have d1 : decide (i < 0) = false := decide_eq_false hneg
  by_cases hbig : (xs.length : Int) ≤ i
  · have d2 : decide ((xs.length : Int) ≤ i) = true := decide_eq_true hbig
    have HA := Lib.hid (atI_out xs i (.inr hbig))
    go_enter Try.func58, Try.ntmps58
    go_wp2
    go_ret
    rw [HA.out]
    exact ⟨rfl, 0, rfl⟩
  have d2 : decide ((xs.length : Int) ≤ i) = false := decide_eq_false hbig
  obtain ⟨k, rfl⟩ : ∃ k : Nat, i = (k : Int) := ⟨i.toNat, by omega⟩
  have hk : k < xs.length := by omega
  have HA := Lib.hid (atI_nat xs k hk)
  by_cases h0 : k = 0
  · subst h0
    rw [show atI xs ((0 : Nat) : Int) = 0 from HA.out]
    obtain ⟨N, hN⟩ : ∃ N, xs.length = N := ⟨_, rfl⟩
    rw [hN] at hk H ⊢
    have hN0 : ¬ N = 0 := by omega
    have hNI : ¬ (N : Int) ≤ 0 := by omega
    clear hN hl HA hi d1 d2 hneg hbig
    go_enter Try.func58, Try.ntmps58
    go_wp2
    go_ret
    exact ⟨rfl, 0, rfl⟩
  · obtain ⟨j, rfl⟩ : ∃ j, k = j + 1 := ⟨k - 1, by omega⟩
    obtain ⟨g, off, rfl, hcell⟩ := H.out.at j (by omega)
    have hy := getD_lt xs HX.out j
    rw [List.getD_cons_succ] at HA
    obtain ⟨y, hye⟩ : ∃ y, xs.getD j 0 = y := ⟨_, rfl⟩
    rw [hye] at hcell hy HA
    have e0 : (((j + 1 : Nat) : Int) == 0) = false := by simp; omega
    have hjl : j < xs.length := by omega
    clear hye h0 hneg hbig hi
    go_enter Try.func58, Try.ntmps58
    go_wp2
    go_ret
    rw [HA.out]
    exact ⟨rfl, 0, rfl⟩

/-- a captured variable -/
def One (w : World) (b : Nat) (t : TypeId) (v : Value) : Prop := w.heap[b]? = some (.cells #[v] t (0, 0))
theorem One.kept {S : Nat → Prop} {w w' : World} {b : Nat} {t : TypeId} {v : Value} (h : One w b t v) (hc : Chg S w w') (hS : ¬ S b) : One w' b t v := (hc.block b (lt_of_block h) hS).trans h

theorem nil_ownsB (w : World) (base : Nat) : w.ownsRow base 5 1 (.slice none 0 0) ([] : List Nat).length (bv []) := ⟨rfl, .inl ⟨rfl, rfl⟩⟩

end Go.Proofs.Ytokeoebhmjefoaa

/- What etab's number tells (without, fits, lowest), and sort.Search over fits. THIS SPEAKS OF THE PROGRAM'S OWN TEXT. -/
namespace Go.Proofs.Ytokeoebhmjefoaa
open Go.RowKit

/-- a number, and what it must come below, in a block -/
def Nb (w : World) (g : Nat) (y b : Int) : Prop := w.heap[g]? = some (.cells #[.int .i64 y, .int .i64 b] 147 (0, 0))
theorem Nb.cells {w : World} {g : Nat} {y b : Int} (h : Nb w g y b) : w.cell? ⟨g, 0, none⟩ = some (.int .i64 y) ∧ w.cell? ⟨g, 1, none⟩ = some (.int .i64 b) := by
  refine ⟨?_, ?_⟩
  · rw [cell_of_row _ _ 0 _ _ _ h]; rfl
  · rw [cell_of_row _ _ 1 _ _ _ h]; rfl
theorem Nb.kept {S : Nat → Prop} {w w' : World} {g : Nat} {y b : Int} (h : Nb w g y b) (hc : Chg S w w') (hS : ¬ S g) : Nb w' g y b := (hc.block g (lt_of_block h) hS).trans h
theorem Nb.made (w : World) (y b : Int) : Nb (w.alloc (.cells #[.int .i64 y, .int .i64 b] 147)) w.heap.size y b := heap_alloc_new w _

theorem shr_div (y n : Nat) : ((y / 2 ^ n : Nat) : Int) = (y : Int) / (2 : Int) ^ n := by simp

set_option maxHeartbeats 600000 in
theorem ewithout_any (y n : Nat) (b : Int) (w : World) (hy : y ≤ 100000) (hn : n ≤ 60) :
    Calls Try.prog 98 #[.agg #[.int .i64 (y : Int), .int .i64 b], .int .i64 (n : Int)] w fun e w' => e = .returned (.int .i64 ((y / 2 ^ n : Nat) : Int)) ∧ Chg (fun _ => False) w w' := by
  have hb := Nb.made w (y : Int) b
  have hc := Chg.alloc (fun _ => False) w (.cells #[.int .i64 (y : Int), .int .i64 b] 147)
  obtain ⟨W, hW⟩ : ∃ W, w.alloc (.cells #[.int .i64 (y : Int), .int .i64 b] 147) = W := ⟨_, rfl⟩
  obtain ⟨G, hG⟩ : ∃ G, w.heap.size = G := ⟨_, rfl⟩
  rw [hW] at hb hc
  rw [hG] at hb
  obtain ⟨c0, c1⟩ := hb.cells
  have HC := Lib.hid hc
  have hS := shr_div y n
  have hz : y / 2 ^ n ≤ y := Nat.div_le_self _ _
  obtain ⟨Z, hZ⟩ : ∃ Z, y / 2 ^ n = Z := ⟨_, rfl⟩
  rw [hZ] at hS hz ⊢
  have hw : IntKind.i64.wrap (Z : Int) = (Z : Int) := by rw [IntKind.wrap_i64]; omega
  have HS := Lib.hid hS
  clear hb hc hZ hS
  go_enter Try.func98, Try.ntmps98
  go_wp2
  go_ret
  exact ⟨by rw [HS.out]; rfl, HC.out⟩

set_option maxHeartbeats 600000 in
theorem elowest_any (y n : Nat) (b : Int) (w : World) (hy : y ≤ 100000) (hn : n ≤ 60) (hp : y / 2 ^ n * 2 ^ n ≤ y) :
    Calls Try.prog 99 #[.agg #[.int .i64 (y : Int), .int .i64 b], .int .i64 (n : Int)] w fun e w' => e = .returned (.int .u32 ((y % 2 ^ n : Nat) : Int)) ∧ Chg (fun _ => False) w w' := by
  have hb := Nb.made w (y : Int) b
  have hc := Chg.alloc (fun _ => False) w (.cells #[.int .i64 (y : Int), .int .i64 b] 147)
  obtain ⟨W, hW⟩ : ∃ W, w.alloc (.cells #[.int .i64 (y : Int), .int .i64 b] 147) = W := ⟨_, rfl⟩
  obtain ⟨G, hG⟩ : ∃ G, w.heap.size = G := ⟨_, rfl⟩
  rw [hW] at hb hc
  rw [hG] at hb
  have HB := Lib.hid hb; have HC := Lib.hid hc
  obtain ⟨c0, c1⟩ := hb.cells
  have HWO := Lib.hid fun W1 => ewithout_any y n b W1 hy hn
  have hmod : y % 2 ^ n = y - y / 2 ^ n * 2 ^ n := by have := Nat.div_add_mod y (2 ^ n); rw [Nat.mul_comm] at this; omega
  have hzy : y / 2 ^ n ≤ y := Nat.div_le_self _ _
  have hz0 : 0 < y → y / 2 ^ n * 2 ^ n ≤ y := fun _ => hp
  obtain ⟨Z, hZ⟩ : ∃ Z, y / 2 ^ n = Z := ⟨_, rfl⟩
  rw [hZ] at hmod hzy hp HWO
  obtain ⟨M, hM⟩ : ∃ M, Z * 2 ^ n = M := ⟨_, rfl⟩
  have hMI : (Z : Int) * (2 : Int) ^ n = (M : Int) := by rw [← hM]; simp
  rw [hM] at hp hmod
  have hw1 : IntKind.i64.wrap (M : Int) = (M : Int) := by rw [IntKind.wrap_i64]; omega
  have hw2 : IntKind.i64.wrap ((y : Int) - (M : Int)) = ((y - M : Nat) : Int) := by rw [IntKind.wrap_i64]; omega
  have hw3 : IntKind.u32.wrap ((y - M : Nat) : Int) = ((y - M : Nat) : Int) := by rw [IntKind.wrap_u32]; omega
  have hn64 : (n : Int) < 64 := by omega
  have HMO := Lib.hid hmod
  clear hb hc hZ hM hmod hz0 hzy hp
  go_enter Try.func99, Try.ntmps99
  go_wp2
  go_region_held3 (fun W => W.cell? ⟨G, 0, none⟩ = some (.int .i64 (y : Int)) ∧ W.cell? ⟨G, 1, none⟩ = some (.int .i64 b)) (first | exact ⟨c0, c1⟩ | exact ⟨k0, k1⟩) (first
    | (go_at_call 98; refine (HWO.out _).mono ?_; rintro e w1 ⟨rfl, hc1⟩; have hc2 := (Chg.refl (fun _ => False) W).drew.trans hc1 fun _ _ h => h; obtain ⟨k0, k1⟩ := (HB.out.kept hc2 (fun h => h)).cells; have HC2 := Lib.hid (HC.out.trans hc2 fun _ _ h => h); clear hc1 hc2))
  go_wp2
  go_ret
  exact ⟨by rw [HMO.out]; rfl, HC2.out⟩

set_option maxHeartbeats 600000 in
theorem efits_any (y n : Nat) (b : Int) (w : World) (hy : y ≤ 100000) (hn : n ≤ 60) :
    Calls Try.prog 97 #[.agg #[.int .i64 (y : Int), .int .i64 b], .int .i64 (n : Int)] w fun e w' => e = .returned (.bool (decide (((y / 2 ^ n : Nat) : Int) < b))) ∧ Chg (fun _ => False) w w' := by
  have hb := Nb.made w (y : Int) b
  have hc := Chg.alloc (fun _ => False) w (.cells #[.int .i64 (y : Int), .int .i64 b] 147)
  obtain ⟨W, hW⟩ : ∃ W, w.alloc (.cells #[.int .i64 (y : Int), .int .i64 b] 147) = W := ⟨_, rfl⟩
  obtain ⟨G, hG⟩ : ∃ G, w.heap.size = G := ⟨_, rfl⟩
  rw [hW] at hb hc
  rw [hG] at hb
  have HB := Lib.hid hb; have HC := Lib.hid hc
  obtain ⟨c0, c1⟩ := hb.cells
  have HWO := Lib.hid fun W1 => ewithout_any y n b W1 hy hn
  obtain ⟨Z, hZ⟩ : ∃ Z, y / 2 ^ n = Z := ⟨_, rfl⟩
  rw [hZ] at HWO ⊢
  clear hb hc hZ
  go_enter Try.func97, Try.ntmps97
  go_wp2
  go_region_held3 (fun W => W.cell? ⟨G, 0, none⟩ = some (.int .i64 (y : Int)) ∧ W.cell? ⟨G, 1, none⟩ = some (.int .i64 b)) (first | exact ⟨c0, c1⟩ | exact ⟨k0, k1⟩) (first
    | (go_at_call 98; refine (HWO.out _).mono ?_; rintro e w1 ⟨rfl, hc1⟩; have hc2 := (Chg.refl (fun _ => False) W).drew.trans hc1 fun _ _ h => h; obtain ⟨k0, k1⟩ := (HB.out.kept hc2 (fun h => h)).cells; have HC2 := Lib.hid (HC.out.trans hc2 fun _ _ h => h); clear hc1 hc2))
  go_wp2
  go_ret
  exact ⟨rfl, HC2.out⟩

/-- sort.Search, of the bits that are left over -/
def LeastBits (y : Nat) (b : Int) (n r : Nat) : Prop := r ≤ n ∧ (∀ t, t < r → b ≤ ((y / 2 ^ t : Nat) : Int)) ∧ ∀ t, r ≤ t → t < n → ((y / 2 ^ t : Nat) : Int) < b

set_option maxHeartbeats 2000000 in
set_option maxRecDepth 100000 in
theorem esearch_any (y n : Nat) (b : Int) (w : World) (hy : y ≤ 100000) (hn : n ≤ 12) :
    Calls Try.prog 96 #[.int .i64 (n : Int), .func (.func 97) #[.agg #[.int .i64 (y : Int), .int .i64 b]] #[]] w fun e w' => (∃ r : Nat, e = .returned (.int .i64 (r : Int)) ∧ LeastBits y b n r) ∧ Chg (fun _ => False) w w' := by
  have HF := Lib.hid fun (t : Nat) (ht : t ≤ 60) W => efits_any y t b W hy ht
  have HM := Lib.hid fun (a c : Nat) (h : a ≤ c) (hp : ((y / 2 ^ a : Nat) : Int) < b) => (show ((y / 2 ^ c : Nat) : Int) < b from by have := div_fall y h; omega)
  clear hy
  go_enter Try.func96, Try.ntmps96
  go_wp2
  go_loopg [5, 6] n (fun kx s5 s6 wr => ∃ (lo hi : Nat), s5 = .int .i64 lo ∧ s6 = .int .i64 hi ∧ lo ≤ hi ∧ hi ≤ n ∧ hi - lo ≤ kx ∧ Chg (fun _ => False) w wr ∧ Aside ((∀ t, t < lo → b ≤ ((y / 2 ^ t : Nat) : Int)) ∧ (∀ t, hi ≤ t → t < n → ((y / 2 ^ t : Nat) : Int) < b)))
  case atStart => exact ⟨0, n, rfl, rfl, Nat.zero_le _, Nat.le_refl _, by omega, Chg.refl _ _, (⟨fun t ht => absurd ht (Nat.not_lt_zero _), fun t h1 h2 => by omega⟩ : (∀ t, t < 0 → b ≤ ((y / 2 ^ t : Nat) : Int)) ∧ (∀ t, n ≤ t → t < n → ((y / 2 ^ t : Nat) : Int) < b))⟩
  case round =>
    obtain ⟨lo, hi, rfl, rfl, hlh, hin, hg, hc, I⟩ := hrel
    have HC := Lib.hid hc
    clear hc
    by_cases hlt : lo < hi
    · have hcf := HF.out ((lo + hi) / 2) (by omega)
      rw [show (((lo + hi) / 2 : Nat) : Int) = ((lo : Int) + (hi : Int)) / 2 by omega] at hcf
      have HCF := Lib.hid hcf
      clear hcf
      go_wp2_with fail
      refine (HCF.out _).mono ?_
      rintro e w1 ⟨rfl, hc1⟩
      have HC1 := Lib.hid (HC.out.trans hc1 fun _ _ h => h)
      clear hc1
      by_cases hp : ((y / 2 ^ ((lo + hi) / 2) : Nat) : Int) < b
      · rw [decide_eq_true hp]
        have HP := Lib.hid hp
        clear hp
        go_wp2
        go_roundg ((lo + hi) / 2 - lo)
        case measure => omega
        case rel =>
          have I2 : Aside ((∀ t, t < lo → b ≤ ((y / 2 ^ t : Nat) : Int)) ∧ (∀ t, (lo + hi) / 2 ≤ t → t < n → ((y / 2 ^ t : Nat) : Int) < b)) := ⟨I.out.1, fun t ht _ => HM.out _ t ht HP.out⟩
          exact ⟨lo, (lo + hi) / 2, rfl, by rw [show ((lo : Int) + (hi : Int)) / 2 = (((lo + hi) / 2 : Nat) : Int) by omega], by omega, by omega, Nat.le_refl _, HC1.out, I2⟩
      · rw [decide_eq_false hp]
        have HP := Lib.hid hp
        clear hp
        go_wp2
        go_roundg (hi - ((lo + hi) / 2 + 1))
        case measure => omega
        case rel =>
          have I2 : Aside ((∀ t, t < (lo + hi) / 2 + 1 → b ≤ ((y / 2 ^ t : Nat) : Int)) ∧ (∀ t, hi ≤ t → t < n → ((y / 2 ^ t : Nat) : Int) < b)) := ⟨fun t ht => by have h1 := HP.out; have h2 := HM.out t ((lo + hi) / 2) (by omega); omega, I.out.2⟩
          exact ⟨(lo + hi) / 2 + 1, hi, by rw [show ((lo : Int) + (hi : Int)) / 2 + 1 = (((lo + hi) / 2 + 1 : Nat) : Int) by omega], rfl, by omega, hin, Nat.le_refl _, HC1.out, I2⟩
    · obtain rfl : hi = lo := by omega
      go_wp2
      go_ret
      exact ⟨⟨hi, rfl, hin, I.out.1, I.out.2⟩, HC.out⟩

end Go.Proofs.Ytokeoebhmjefoaa

/- What etab's New (EtProgB), Log, Count and Step tell. THIS SPEAKS OF THE PROGRAM'S OWN TEXT. -/
namespace Go.Proofs.Ytokeoebhmjefoaa
open Go.RowKit

/-- a block that holds a Table -/
def Tbk (w : World) (g : Nat) (k : Int) (b : Nat) : Prop := w.heap[g]? = some (.cells #[.int .i64 k, .map (some b)] 119 (0, 0))
theorem Tbk.cells {w : World} {g : Nat} {k : Int} {b : Nat} (h : Tbk w g k b) : w.cell? ⟨g, 0, none⟩ = some (.int .i64 k) ∧ w.cell? ⟨g, 1, none⟩ = some (.map (some b)) := by
  refine ⟨?_, ?_⟩
  · rw [cell_of_row _ _ 0 _ _ _ h]; rfl
  · rw [cell_of_row _ _ 1 _ _ _ h]; rfl
theorem Tbk.kept {S : Nat → Prop} {w w' : World} {g : Nat} {k : Int} {b : Nat} (h : Tbk w g k b) (hc : Chg S w w') (hS : ¬ S g) : Tbk w' g k b := (hc.block g (lt_of_block h) hS).trans h

/-- a number is laid into a block -/
def N2 (w : World) (g : Nat) (y b : Int) : World := (w.setCell ⟨g, 0, none⟩ (.int .i64 y)).setCell ⟨g, 1, none⟩ (.int .i64 b)
theorem N2_chg (w : World) (g : Nat) (y b : Int) : Chg (fun q => q = g) w (N2 w g y b) := (Chg.setCell w ⟨g, 0, none⟩ _).trans (Chg.setCell _ ⟨g, 1, none⟩ _) fun _ _ h => h
theorem N2_nb {w : World} {g : Nat} {y0 b0 : Int} (h : Nb w g y0 b0) (y b : Int) : Nb (N2 w g y b) g y b :=
  heap_setCell_same _ g 1 _ _ (.int .i64 b) (heap_setCell_same w g 0 _ _ (.int .i64 y) h)
theorem Nb.free {w : World} {g : Nat} {y b : Int} (h : Nb w g y b) (k : Nat) : w.frozen? ⟨g, k, none⟩ = false := frozen_of_row w g k _ _ h
theorem zeroNumber (W : World) : (zeroValue 147).run Try.prog W = .ok (.agg #[.int .i64 0, .int .i64 0]) W := by kernel_rfl

set_option maxHeartbeats 2000000 in
set_option maxRecDepth 100000 in
theorem estep_any (a : Addr) (q : List Int) (k : Nat) (x : Int) (s : Nat) (w : World) (h : EtOk w a q) (hq : NormQ q k) (hs : s < 256) (hx : -9223372036854775808 ≤ x ∧ x ≤ 9223372036854775807) :
    Calls Try.prog 74 #[.pointer (some a), .int .i64 x, .int .u8 (s : Int)] w fun e w' => EncSays q k x s e ∧ Chg (fun _ => False) w w' := by
  obtain ⟨ga, base, b, n, l, rfl, hn, hb, hl, hg⟩ := h
  rw [hq.log] at hb
  obtain ⟨c0, c1⟩ := Tbk.cells hb
  obtain ⟨v, hrun, hrd⟩ := hg.look hn hs
  have hlen := hl.pos_length hs
  have hle := hq.le s
  have hsz := hq.size
  have hk12 := hq.2.2.2.2
  have hfl := f_le (f := fq q) (R := k) hq.sum hs
  obtain ⟨ao, cap, rfl⟩ := hrd.form
  rw [hlen] at hrun
  have hk64 : (k : Int) < 64 := by omega
  obtain ⟨L, hL⟩ : ∃ L, 2 ^ k = L := ⟨_, rfl⟩
  have hLI : (2 : Int) ^ k = (L : Int) := by rw [← hL]; simp
  have hwL : IntKind.i64.wrap (L : Int) = (L : Int) := by rw [IntKind.wrap_i64]; omega
  obtain ⟨F, hF⟩ : ∃ F, fq q s = F := ⟨_, rfl⟩
  have HF := Lib.hid hF; have HL := Lib.hid hL
  rw [hF] at hrun hle hfl
  rw [hL] at hsz hfl
  by_cases hcan : eCan q k x s
  · obtain ⟨hx0, hxL, hF0⟩ := hcan
    rw [hL] at hxL
    rw [hF] at hF0
    obtain ⟨X, rfl⟩ : ∃ X : Nat, x = (X : Int) := ⟨x.toNat, by omega⟩
    have hXL : X < L := by omega
    have hcan : eCan q k (X : Int) s := ⟨by omega, by rw [hL]; omega, by rw [hF]; omega⟩
    have HEND := Lib.hid fun (r : Nat) (hr : lefts F (L + X) r) => (show EncSays q k (X : Int) s (.returned (.tuple #[.int .i64 ((placeF (fq q) 256 s ((L + X) / 2 ^ r) : Nat) : Int), .int .i64 (r : Int), .int .u32 (((L + X) % 2 ^ r : Nat) : Int), .bool true])) from
      ⟨fun h => absurd hcan h, fun _ => ⟨r, by rw [hF, hL, Int.toNat_natCast]; exact hr, by rw [hL, Int.toNat_natCast]⟩⟩)
    have HLEFT := Lib.hid fun (r : Nat) (hr : LeastBits (L + X) (2 * (F : Int)) k r) => (show lefts F (L + X) r ∧ r ≤ k from by
      obtain ⟨h1, h2, h3⟩ := hr
      refine ⟨?_, h1⟩
      rw [← hL]
      rw [← hL] at h2 h3
      exact lefts_least (by omega) (by omega) (by omega) h1 (fun m hm => by have := h2 m hm; omega) fun m h4 h5 => by have := h3 m h4 h5; omega)
    have HROW := Lib.hid fun (d : Nat) (hd : d < F) W (hc : Chg (fun _ => False) w W) => (show ∃ g off, ao = some ⟨g, off, none⟩ ∧ W.cell? ⟨g, off + d, none⟩ = some (.int .i64 ((placeF (fq q) 256 s (F + d) : Nat) : Int)) from by
      obtain ⟨g, off, h1, h2⟩ := (hrd.kept hc (by simp)).at d (by rw [hlen, hF]; exact hd)
      refine ⟨g, off, h1, ?_⟩
      have h3 := hl.pos hs (d := d) (by rw [hF]; exact hd)
      rw [h2, List.getD_eq_getElem?_getD, h3, hF]; rfl)
    have HTB := Lib.hid (show Tbk w ga (k : Int) b from hb)
    have hy5 : L + X ≤ 100000 := by omega
    have hyI : (L : Int) + (X : Int) = ((L + X : Nat) : Int) := by omega
    have d1 : decide ((X : Int) < 0) = false := decide_eq_false (by omega)
    have d2 : decide ((L : Int) ≤ (X : Int)) = false := decide_eq_false (by omega)
    have d3 : ((F : Int) == 0) = false := by simp; omega
    have d4 : ¬ L ≤ X := by omega
    have d5 : ¬ F = 0 := by omega
    obtain ⟨Y, hY⟩ : ∃ Y, L + X = Y := ⟨_, rfl⟩
    rw [hY] at HEND HLEFT hy5 hyI
    have hw1 : IntKind.i64.wrap (Y : Int) = (Y : Int) := by rw [IntKind.wrap_i64]; omega
    have hw2 : IntKind.i64.wrap (2 * (F : Int)) = 2 * (F : Int) := by rw [IntKind.wrap_i64]; omega
    have hz := zeroNumber
    have hnb := N2_nb (Nb.made w 0 0) (Y : Int) (2 * (F : Int))
    have hnb0 := Nb.made w 0 0
    have hca := (Chg.alloc (fun _ => False) w (.cells #[.int .i64 0, .int .i64 0] 147)).trans (N2_chg _ w.heap.size (Y : Int) (2 * (F : Int))) fun q hq he => by omega
    obtain ⟨W0, hW0⟩ : ∃ W0, w.alloc (.cells #[.int .i64 0, .int .i64 0] 147) = W0 := ⟨_, rfl⟩
    rw [hW0] at hnb hnb0 hca
    obtain ⟨G, hG⟩ : ∃ G, w.heap.size = G := ⟨_, rfl⟩
    rw [hG] at hnb hnb0 hca
    obtain ⟨z0, z1⟩ := hnb0.cells
    have f0 := hnb0.free 0
    have f1 := hnb0.free 1
    unfold N2 at hnb hca
    obtain ⟨W1, hW1⟩ : ∃ W1, (W0.setCell ⟨G, 0, none⟩ (.int .i64 (Y : Int))).setCell ⟨G, 1, none⟩ (.int .i64 (2 * (F : Int))) = W1 := ⟨_, rfl⟩
    rw [hW1] at hnb hca
    obtain ⟨y0, y1⟩ := hnb.cells
    obtain ⟨t0, t1⟩ := (HTB.out.kept hca (fun h => h)).cells
    have HNB := Lib.hid hnb; have HCA := Lib.hid hca
    have HSE := Lib.hid fun W => esearch_any Y k (2 * (F : Int)) W hy5 (by omega)
    have HWO := Lib.hid fun (r : Nat) (hr : r ≤ 60) W => ewithout_any Y r (2 * (F : Int)) W hy5 hr
    have HLO := Lib.hid fun (r : Nat) (hr : r ≤ 60) W => elowest_any Y r (2 * (F : Int)) W hy5 hr (Nat.div_mul_le_self _ _)
    have HK12 := Lib.hid hk12; have HF4 := Lib.hid (show F ≤ 4096 from hle)
    clear hb hl hg hrd hlen hq hcan hF hL hfl hnb hca hnb0 hY hn hle hsz hXL hxL hx0
    go_enter Try.func74, Try.ntmps74
    go_wp2
    go_region_held3 (fun W => W.cell? ⟨ga, 0, none⟩ = some (.int .i64 (k : Int)) ∧ W.cell? ⟨G, 0, none⟩ = some (.int .i64 (Y : Int)) ∧ W.cell? ⟨G, 1, none⟩ = some (.int .i64 (2 * (F : Int)))) (first | exact ⟨t0, y0, y1⟩ | exact ⟨k0, k1, k2⟩) (first
      | (go_at_call 96; refine (HSE.out _).mono ?_; rintro e w1 ⟨⟨r, rfl, hr⟩, hc1⟩; have hc2 := (Chg.refl (fun _ => False) W1).drew.trans hc1 fun _ _ h => h; obtain ⟨k1, k2⟩ := (HNB.out.kept hc2 (fun h => h)).cells; have k0 := ((HTB.out.kept HCA.out (fun h => h)).kept hc2 (fun h => h)).cells.1; have HN2 := Lib.hid (HNB.out.kept hc2 (fun h => h)); have HC2 := Lib.hid (HCA.out.trans hc2 fun _ _ h => h); have HR := Lib.hid (HLEFT.out r hr); clear hc1 hc2 hr))
    have hr60 : r ≤ 60 := by have := HR.out.2; have := HK12.out; omega
    have HR1 := Lib.hid HR.out.1
    have HWR := Lib.hid (HWO.out r hr60)
    have HLR := Lib.hid (HLO.out r hr60)
    have hZ := HR.out.1
    unfold lefts at hZ
    have HE := Lib.hid (HEND.out r HR1.out)
    obtain ⟨Z, hZe⟩ : ∃ Z, Y / 2 ^ r = Z := ⟨_, rfl⟩
    rw [hZe] at hZ HWR HE
    obtain ⟨M, hMe⟩ : ∃ M, Y % 2 ^ r = M := ⟨_, rfl⟩
    rw [hMe] at HLR HE
    obtain ⟨d, hd⟩ : ∃ d, Z = F + d := ⟨Z - F, by omega⟩
    have hdF : d < F := by omega
    have hZd : (Z : Int) - (F : Int) = (d : Int) := by omega
    obtain ⟨gr, off, rfl, hq0⟩ := HROW.out d hdF w1 HC2.out
    have HQ := Lib.hid fun (W : World) (hc : Chg (fun _ => False) w W) => (show W.cell? ⟨gr, off + d, none⟩ = some (.int .i64 ((placeF (fq q) 256 s Z : Nat) : Int)) from by
      obtain ⟨g', off', h1, h2⟩ := HROW.out d hdF W hc
      simp only [Option.some.injEq, Addr.mk.injEq] at h1
      obtain ⟨rfl, rfl, -⟩ := h1
      rw [h2, hd])
    rw [← hd] at hq0
    obtain ⟨PL, hPL⟩ : ∃ PL, placeF (fq q) 256 s Z = PL := ⟨_, rfl⟩
    rw [hPL] at HQ HE hq0
    have hdFI : (d : Int) < (F : Int) := by omega
    have hwd : IntKind.i64.wrap (d : Int) = (d : Int) := by have := HF4.out; rw [IntKind.wrap_i64]; omega
    clear hZ hZe hMe hd hPL HROW HSE HLO HWO HLEFT HEND HR
    go_wp2
    go_region_held3 (fun W => W.cell? ⟨gr, off + d, none⟩ = some (.int .i64 (PL : Int)) ∧ W.cell? ⟨G, 0, none⟩ = some (.int .i64 (Y : Int)) ∧ W.cell? ⟨G, 1, none⟩ = some (.int .i64 (2 * (F : Int)))) (first | exact ⟨hq0, k1, k2⟩ | exact ⟨m0, m1, m2⟩ | exact ⟨n0, n1, n2⟩) (first
      | (go_at_call 98; refine (HWR.out _).mono ?_; rintro e w2 ⟨rfl, hc3⟩; have HC3 := Lib.hid (HC2.out.trans ((Chg.refl (fun _ => False) w1).drew.trans hc3 fun _ _ h => h) fun _ _ h => h); obtain ⟨m1, m2⟩ := (HN2.out.kept ((Chg.refl (fun _ => False) w1).drew.trans hc3 fun _ _ h => h) (fun h => h)).cells; have m0 := HQ.out w2 HC3.out; have HN3 := Lib.hid (HN2.out.kept ((Chg.refl (fun _ => False) w1).drew.trans hc3 fun _ _ h => h) (fun h => h)); clear hc3)
      | (go_at_call 99; refine (HLR.out _).mono ?_; rintro e w3 ⟨rfl, hc4⟩; have HC4 := Lib.hid (HC3.out.trans hc4 fun _ _ h => h); obtain ⟨n1, n2⟩ := (HN3.out.kept hc4 (fun h => h)).cells; have n0 := HQ.out w3 HC4.out; clear hc4))
    go_wp2
    go_returns
    exact ⟨HE.out, HC4.out⟩
  · have HN := Lib.hid (show EncSays q k x s (.returned (.tuple #[.int .i64 0, .int .i64 0, .int .u32 0, .bool false])) from ⟨fun _ => rfl, fun hc => absurd hc hcan⟩)
    have hway : x < 0 ∨ (¬ x < 0 ∧ (L : Int) ≤ x) ∨ (¬ x < 0 ∧ ¬ (L : Int) ≤ x ∧ F = 0) := by
      by_cases h1 : x < 0
      · exact .inl h1
      · by_cases h2 : (L : Int) ≤ x
        · exact .inr (.inl ⟨h1, h2⟩)
        · refine .inr (.inr ⟨h1, h2, ?_⟩)
          by_cases h3 : F = 0
          · exact h3
          · exact absurd ⟨by omega, by rw [hL]; omega, by rw [hF]; omega⟩ hcan
    clear hb hl hg hrd hlen hq hcan hF hL hfl
    rcases hway with h1 | ⟨h1, h2⟩ | ⟨h1, h2, h3⟩
    · have d1 : decide (x < 0) = true := decide_eq_true h1
      go_enter Try.func74, Try.ntmps74
      go_wp2
      go_returns
      exact ⟨HN.out, Chg.refl _ _⟩
    · have d1 : decide (x < 0) = false := decide_eq_false h1
      have d2 : decide ((L : Int) ≤ x) = true := decide_eq_true h2
      go_enter Try.func74, Try.ntmps74
      go_wp2
      go_returns
      exact ⟨HN.out, Chg.refl _ _⟩
    · have d1 : decide (x < 0) = false := decide_eq_false h1
      have d2 : decide ((L : Int) ≤ x) = false := decide_eq_false h2
      subst h3
      go_enter Try.func74, Try.ntmps74
      go_wp2
      go_returns
      exact ⟨HN.out, Chg.refl _ _⟩

end Go.Proofs.Ytokeoebhmjefoaa

/- What back tells: bytes' symbols as bits, from the last one to the first, and the states. THIS SPEAKS OF THE PROGRAM'S OWN TEXT. -/
namespace Go.Proofs.Ytokeoebhmjefoaa
open Go.RowKit Go.Shelf

attribute [local go_sem] Oper.semAt_some

theorem Try.entersRev (args : Array Value) (w : World) : (callFunc 95 args).run Try.prog w = .ok (.enter 95 args) w := by kernel_rfl
theorem Try.entersOfT (args : Array Value) (w : World) : (callFunc 45 args).run Try.prog w = .ok (.enter 45 args) w := by kernel_rfl
theorem lofT_any (w : World) (G : Nat) (m : Md) (cv : Value) (W : World) (X : Nat → Prop) (c : Nat) (h : LsT w G m cv W X) (hl : RdLL w cv m.cs) (hr : m.right) (hc : c < 256) (hne : m.atL (c : Int) ≠ []) :
    Calls Try.prog 45 #[.pointer (some ⟨G, 0, none⟩), .int .i64 (c : Int)] W fun e W' => ∃ a, e = .returned (.pointer (some a)) ∧ EtOk W' a (m.atL (c : Int)) ∧ LsT w G m cv W' X ∧ Chg (fun k => k = G) W W' := by
  rcases Bool.eq_false_or_eq_true m.one with ho | ho
  · exact lofT_one w G m cv W X c h hl hr ho hc hne
  · exact lofT_each w G m cv W X c h hl hr ho hc hne

set_option maxRecDepth 100000 in
set_option maxHeartbeats 4000000 in
theorem lback_any (w : World) (G b : Nat) (m : Md) (cv : Value) (ao : Option Addr) (n cap : Nat) (xs : List Nat) (W : World) (h : LsT w G m cv W (fun k => k = b)) (hl : RdLL w cv m.cs) (hwr : Wr W b none []) (hb : RdB w (.slice ao n cap) xs) (hx : ∀ x ∈ xs, x < 256) (hlen : xs.length < 1000000) (hfit : m.fits xs) :
    Calls Try.prog 44 #[.pointer (some ⟨b, 0, none⟩), .slice ao n cap, .func (.func 45) #[.pointer (some ⟨G, 0, none⟩)] #[]] W fun e W' => ∃ a b2 : Nat, e = .returned (.agg #[.int .i64 (a : Int), .int .i64 (b2 : Int)]) ∧ ∃ bs o, Wr W' b o bs ∧ EncS m xs xs.length (RM m) 0 bs a b2 ∧ Chg (fun _ => False) w W' := by
  have hrev := fun (V : World) => callsIn_wide (n := 0) |>.2 (srev_any ao n cap V)
  have hent := Try.entersRev
  have hmf : ∀ (fn : Fn) (first cap : Array Value) (w : World), (Instr.makeFunc fn first cap).run Try.prog w = .ok (.func fn first cap) w := fun _ _ _ _ => rfl
  have hG := h.inn
  have hbl := h.lt b rfl
  obtain ⟨V6, hV6, s6, c6, e0, e1, e2, e3, e4, e5⟩ := six_new W (.cells #[.pointer (some ⟨b, 0, none⟩)] 43) (.cells #[.slice ao n cap] 25) (.cells #[.func (.func 45) #[.pointer (some ⟨G, 0, none⟩)] #[]] 86) (.cells #[.int .i64 0, .int .i64 0] 58) (.cells #[.int .i64 0, .int .i64 0] 58) (.cells #[.slice ao n cap] 25)
  have hw6 := hwr.kept c6 (by simp) (by simp)
  obtain ⟨A, hA⟩ : ∃ A, W.heap.size = A := ⟨_, rfl⟩
  rw [hA] at s6 e0 e1 e2 e3 e4 e5 hG hbl
  have E := Lib.hid (show _ ∧ _ ∧ _ ∧ _ ∧ _ ∧ _ ∧ _ ∧ _ ∧ _ from ⟨e0, e1, e2, e3, e4, e5, h, hw6, c6⟩)
  have HB := Lib.hid hb; have HX := Lib.hid hx; have HFIT := Lib.hid hfit; have HL := Lib.hid hl
  have HV6 := Lib.hid hV6; have HA := Lib.hid hA; have HLN := Lib.hid hlen; have S6 := Lib.hid s6; have HGL := Lib.hid hG; have HBL := Lib.hid hbl
  clear hb hwr h hx e0 e1 e2 e3 e4 e5 hw6 c6 hfit hl hV6 hA hlen s6 hG hbl
  refine (callsIn_wide (n := 0)).1 ?_
  refine callsIn_of_wp_marks Try.func44 rfl trivial ?_ rfl
  simp only [Try.ntmps44, List.size_toArray, List.length_cons, List.length_nil, Nat.reduceAdd, Nat.reduceSub, Array.replicate_succ, Array.replicate_zero, List.push_toArray, List.append_toArray, List.nil_append, List.cons_append]
  gi_wp2_with (refine ⟨trivial, rfl, (hrev _).mono ?_⟩; rintro e w' ⟨rfl, rfl⟩)
  rename_i Q' K hK
  rw [HV6.out, HA.out]
  have HK := Lib.hid hK
  clear hK hrev
  refine wp_rounds (gf := 95) (lb := #[.pointer (some ⟨A + 5, 0, none⟩)]) (args := revArgs xs) (N := xs.length) rfl hent (srev_rounds (.slice ao n cap) xs (A + 5) HLN.out) (fun _ => rfl)
    (fun r V => ∃ x0 x1 o bs, BkS w G A b m cv (.slice ao n cap) xs V (xs.length - r) x0 x1 o bs) ?hrd ?hbook ?h0 (fun r => { tmps := #[.pointer (some ⟨b, 0, none⟩), .slice ao n cap, .func (.func 45) #[.pointer (some ⟨G, 0, none⟩)] #[], .pointer (some ⟨A, 0, none⟩), .pointer (some ⟨A + 1, 0, none⟩), .pointer (some ⟨A + 2, 0, none⟩), .pointer (some ⟨A + 3, 0, none⟩), .pointer (some ⟨A + 4, 0, none⟩), .int .i64 (((xs.length - 1 - r : Nat) : Nat) : Int), .int .u8 ((xs.getD (xs.length - 1 - r) 0 : Nat) : Int), undef, undef, undef, undef, undef, .slice ao n cap, .func (.func 95) #[] #[.pointer (some ⟨A + 5, 0, none⟩)], .int .i64 (((xs.length - 1 - r : Nat) : Nat) : Int), .int .u8 ((xs.getD (xs.length - 1 - r) 0 : Nat) : Int), undef, undef, undef, undef, undef, undef, undef, undef, undef, undef, undef, undef, undef, undef, undef, undef, undef, undef, undef, undef, undef, undef, undef, undef, undef, undef], defers := [] }) ?hassign ?hbody ?hdone
  case hrd =>
    rintro r V ⟨x0, x1, o, bs, hs⟩
    exact ⟨by rw [cell_of_row V _ 0 _ _ _ hs.b5]; rfl, HB.out.kept hs.ls.chg (by simp)⟩
  case hbook =>
    rintro r V V' ⟨x0, x1, o, bs, hs⟩ _ hc _
    rw [S6.out] at hc
    exact ⟨x0, x1, o, bs, hs.still hc fun q hq => hq⟩
  case h0 =>
    intro V hc hsz
    obtain ⟨e0, e1, e2, e3, e4, e5, h6, hw6, c6⟩ := E.out
    have s6 := S6.out
    have hG := HGL.out
    have hbl := HBL.out
    rw [s6] at hsz
    have up : ∀ q o, q < A + 6 → V6.heap[q]? = some o → V.heap[q]? = some o := fun q o hq ho => (hc.block q (by omega) (fun h => h)).trans ho
    exact ⟨0, 0, none, [], up _ _ (by omega) e0, up _ _ (by omega) e1, up _ _ (by omega) e2, up _ _ (by omega) e3, up _ _ (by omega) e4, up _ _ (by omega) e5, hw6.kept hc (by simp) (by simp), encS_zero m xs _ _ rfl,
      h6.kept (AtT.kept m) ((c6.trans hc fun _ _ h => h).mono fun _ _ h => h.elim) (fun q hq => by
        rcases hq with rfl | hq | hq
        · exact ⟨by omega, .inl rfl⟩
        · cases hq
        · exact ⟨by omega, .inr (by rw [HA.out]; exact hq.1)⟩), by omega, by omega, by omega, fun q hq => by cases hq⟩
  case hassign =>
    intro l r V K hK
    unfold revArgs
    gi_wp2
    exact hK
  case hbody =>
    clear HK
    rintro l r V ⟨x0, x1, o, bs, hs⟩ _ hr
    dsimp only
    have hN := HLN.out
    obtain ⟨k, hk⟩ : ∃ k, xs.length - 1 - r = k := ⟨_, rfl⟩
    have hkN : k < xs.length := by omega
    rw [hk]
    rw [show xs.length - r = k + 1 by omega] at hs
    rw [show xs.length - (r + 1) = k by omega]
    have hxk : xs.getD k 0 < 256 := getD_lt xs HX.out k
    have hat := atI_nat xs k hkN
    obtain ⟨hne, hf1⟩ := (fits_iff HFIT.out.1).1 HFIT.out _ ((prs_mem 0 xs _).2 ⟨k, hkN, rfl⟩)
    have hnq := norm_at HFIT.out.1 _ hne
    simp only [] at hne hf1 hnq
    have hcl : (0 :: xs).getD k 0 < 256 := by
      cases k with
      | zero => simp
      | succ k => simp only [List.getD_cons_succ]; exact getD_lt xs HX.out k
    obtain ⟨c, hce⟩ : ∃ c, (0 :: xs).getD k 0 = c := ⟨_, rfl⟩
    obtain ⟨s, hse⟩ : ∃ s, xs.getD k 0 = s := ⟨_, rfl⟩
    rw [hce] at hat hne hf1 hnq hcl
    rw [hse] at hxk hf1 ⊢
    obtain ⟨R, hR⟩ : ∃ R, RM m = R := ⟨_, rfl⟩
    obtain ⟨-, hR2, -⟩ := RM_le HFIT.out.1
    obtain ⟨x, hxe⟩ : ∃ x, lane k (x0, x1) = x := ⟨_, rfl⟩
    have hxl : x < 2 ^ R := by
      rw [← hxe, ← hR]
      unfold lane
      split
      · exact hs.enc.2.2.2
      · exact hs.enc.2.2.1
    have hlen := hs.enc.2.1
    rw [hR] at hnq hR2 hlen
    have hp2 := pow12 (k := R) (by omega)
    have hst := hs.st.lane k
    rw [hxe] at hst
    obtain ⟨p, hp⟩ : ∃ p, k % 2 = p := ⟨_, rfl⟩
    have htm : (k : Int).tmod 2 = (p : Int) := by rw [Int.tmod_eq_emod_of_nonneg (by omega)]; omega
    have hpI : (p : Int) < 2 := by omega
    have hp0 : (0 : Int) ≤ (p : Int) := by omega
    rw [hp] at hst
    have hc2 : V.cell? ⟨A + 2, 0, none⟩ = some (.func (.func 45) #[.pointer (some ⟨G, 0, none⟩)] #[]) := by rw [cell_of_row V _ 0 _ _ _ hs.b2]; rfl
    have hc1 : V.cell? ⟨A + 1, 0, none⟩ = some (.slice ao n cap) := by rw [cell_of_row V _ 0 _ _ _ hs.b1]; rfl
    have hNR : xs.length * R ≤ 12000000 := Nat.le_trans (Nat.mul_le_mul (show xs.length ≤ 1000000 by omega) hR2) (by decide)
    have hxat := xat_any (.slice ao n cap) xs (k : Int) V.drew ((HB.out.kept hs.ls.chg (by simp)).kept ((Chg.refl (fun _ => False) V).drew) (by simp)) HX.out (by omega) (by omega)
    rw [hat] at hxat
    have HS := Lib.hid hs; have HXAT := Lib.hid hxat; have HNE := Lib.hid hne; have HF1 := Lib.hid hf1; have HNQ := Lib.hid hnq; have HCL := Lib.hid hcl; have HCE := Lib.hid hce; have HSE := Lib.hid hse; have HR := Lib.hid hR; have HXE := Lib.hid hxe; have HXL := Lib.hid hxl; have HP := Lib.hid hp; have HKN := Lib.hid hkN; have HNR := Lib.hid hNR; have HBL2 := Lib.hid hlen; have HP2 := Lib.hid hp2; have HR2 := Lib.hid hR2; have HXK := Lib.hid hxk
    have hsI : (s : Int) < 256 := by omega
    have hxI : (x : Int) < 4096 := by omega
    have hent2 := Try.entersOfT
    clear hs hxat hne hf1 hnq hcl hce hse hR hxe hxl hkN hNR hlen hp2 hk hr hat hR2 hp hxk hN hent
    gi_wp2
    refine region_round (S := fun U => U.cell? ⟨A + 2, 0, none⟩ = some (.func (.func 45) #[.pointer (some ⟨G, 0, none⟩)] #[]) ∧ U.cell? ⟨A + 1, 0, none⟩ = some (.slice ao n cap) ∧ U.cell? ⟨A + 4, p, none⟩ = some (.int .i64 (x : Int))) (by kernel_rfl) (by kernel_rfl) (fun ⟨_, _, hh⟩ => (show False from hh).elim) ⟨hc2, hc1, hst⟩ (fun hHeld => ?_)
    refine takeH (i := 0) 23 (.func (.func 45) #[.pointer (some ⟨G, 0, none⟩)] #[]) rfl rfl (by kernel_rfl) (by kernel_rfl) (by kernel_rfl) (fun _ _ _ h => h) (by rfl) hHeld (by intro V hV; obtain ⟨hV1, hV2, hV3⟩ := hV; go_simp) ?_
    simp only [List.setIfInBounds_toArray, List.set_cons_zero, List.set_cons_succ]
    refine takeH (i := 1) 24 (.slice ao n cap) rfl rfl (by kernel_rfl) (by kernel_rfl) (by kernel_rfl) (fun _ _ _ h => h) (by rfl) hHeld (by intro V hV; obtain ⟨hV1, hV2, hV3⟩ := hV; go_simp) ?_
    simp only [List.setIfInBounds_toArray, List.set_cons_zero, List.set_cons_succ]
    refine takeH (i := 2) 25 (.int .i64 (k : Int)) rfl rfl (by kernel_rfl) (by kernel_rfl) (by kernel_rfl) (fun _ _ _ h => h) (by rfl) hHeld (by intro V hV; obtain ⟨hV1, hV2, hV3⟩ := hV; go_simp) ?_
    simp only [List.setIfInBounds_toArray, List.set_cons_zero, List.set_cons_succ]
    refine takeH (i := 5) 28 (.pointer (some ⟨A + 4, p, none⟩)) rfl rfl (by kernel_rfl) (by kernel_rfl) (by kernel_rfl) (fun _ _ _ h => h) (by rfl) hHeld (by intro V hV; obtain ⟨hV1, hV2, hV3⟩ := hV; go_simp) ?_
    simp only [List.setIfInBounds_toArray, List.set_cons_zero, List.set_cons_succ]
    refine takeH (i := 6) 29 (.pointer (some ⟨A + 4, p, none⟩)) rfl rfl (by kernel_rfl) (by kernel_rfl) (by kernel_rfl) (fun _ _ _ h => h) (by rfl) hHeld (by intro V hV; obtain ⟨hV1, hV2, hV3⟩ := hV; go_simp) ?_
    simp only [List.setIfInBounds_toArray, List.set_cons_zero, List.set_cons_succ]
    refine takeH (i := 7) 30 (.int .i64 (x : Int)) rfl rfl (by kernel_rfl) (by kernel_rfl) (by kernel_rfl) (fun _ _ _ h => h) (by rfl) hHeld (by intro V hV; obtain ⟨hV1, hV2, hV3⟩ := hV; go_simp) ?_
    simp only [List.setIfInBounds_toArray, List.set_cons_zero, List.set_cons_succ]
    refine takeH (i := 8) 31 (.int .u8 (s : Int)) rfl rfl (by kernel_rfl) (by kernel_rfl) (by kernel_rfl) (fun _ _ _ h => h) (by rfl) hHeld (by intro V hV; obtain ⟨hV1, hV2, hV3⟩ := hV; go_simp) ?_
    simp only [List.setIfInBounds_toArray, List.set_cons_zero, List.set_cons_succ]
    refine wpAnyH_ready (rs := [3]) (by kernel_rfl) (by simp) ?_
    refine AllReadyH.cons rfl (fun K hK => ?_) AllReadyH.nil
    clear hHeld
    go_simp
    refine HXAT.out.mono ?_
    rintro e U1 ⟨rfl, mm, rfl⟩
    have cu1 : Chg (fun _ => False) V (V.drew.drewN mm) := ((Chg.refl (fun _ => False) V).drew).drewN mm
    obtain ⟨U1, hU1⟩ : ∃ U, V.drew.drewN mm = U := ⟨_, rfl⟩
    rw [hU1] at cu1 ⊢
    have hs1 := HS.out.still cu1 (fun _ h => h.elim)
    refine hK.out _ _ ⟨by rw [cell_of_row U1 _ 0 _ _ _ hs1.b2]; rfl, by rw [cell_of_row U1 _ 0 _ _ _ hs1.b1]; rfl, by have := hs1.st.lane k; rwa [HXE.out, HP.out] at this⟩ (fun hHeld => ?_)
    have hof := lofT_any w G m cv U1 _ c hs1.ls HL.out HFIT.out.1 HCL.out HNE.out
    have HOF := Lib.hid hof; have CU1 := Lib.hid cu1
    clear hK K hU1 hs1 hof cu1
    try simp only [Act.put, List.setIfInBounds_toArray, List.set_cons_zero, List.set_cons_succ]
    refine wpAnyH_ready (rs := [4]) (by kernel_rfl) (by simp) ?_
    refine AllReadyH.cons rfl (fun K hK => ?_) AllReadyH.nil
    clear hHeld
    go_simp
    refine HOF.out.mono ?_
    rintro e V2 ⟨a, rfl, het, hls, c2⟩
    have hst2 : V2.heap[A + 4]? = _ := (c2.block (A + 4) (Nat.lt_of_lt_of_le (by have := HS.out.sz; omega) CU1.out.size) (by have := HGL.out; omega)).trans ((CU1.out.block (A + 4) (by have := HS.out.sz; omega) (fun h => h)).trans HS.out.st)
    have c12 : Chg (fun q => q = G) V V2 := (CU1.out.mono fun _ _ h => h.elim).trans c2 fun _ _ h => h
    have hb1 := (c12.block (A + 1) (by have := HS.out.sz; omega) (by have := HGL.out; omega)).trans HS.out.b1
    have hb2 := (c12.block (A + 2) (by have := HS.out.sz; omega) (by have := HGL.out; omega)).trans HS.out.b2
    have hln2 := Stt.lane (a := x0) (b := x1) (g := A + 4) hst2 k
    rw [HXE.out, HP.out] at hln2
    refine hK.out _ _ ⟨by rw [cell_of_row V2 _ 0 _ _ _ hb2]; rfl, by rw [cell_of_row V2 _ 0 _ _ _ hb1]; rfl, hln2⟩ (fun hHeld => ?_)
    have hes := estep_any a (m.atL (c : Int)) R (x : Int) s V2 het HNQ.out HXK.out (by omega)
    have HES := Lib.hid hes; have HLS := Lib.hid hls; have C12 := Lib.hid c12
    clear hK K hst2 het hls c2 c12 hb1 hb2 hln2 hes HOF
    try simp only [Act.put, List.setIfInBounds_toArray, List.set_cons_zero, List.set_cons_succ]
    refine wpAnyH_ready (rs := [9]) (by kernel_rfl) (by simp) ?_
    refine AllReadyH.cons rfl (fun K hK => ?_) AllReadyH.nil
    clear hHeld
    go_simp
    refine HES.out.mono ?_
    rintro e V3 ⟨⟨-, hsays⟩, c3⟩
    obtain ⟨n5, hln, rfl⟩ := hsays ⟨by omega, by have := HXL.out; omega, by have := HF1.out; exact this⟩
    rw [Int.toNat_natCast] at hln
    simp only [Int.toNat_natCast]
    have hfl : fq (m.atL (c : Int)) s ≤ 2 ^ R := f_le HNQ.out.sum HXK.out
    have hn5 : n5 ≤ R := lefts_le (by have := HF1.out; exact this) hfl HXL.out hln
    have hnx : placeF (fq (m.atL (c : Int))) 256 s ((2 ^ R + x) / 2 ^ n5) < 2 ^ R := enc_place HXK.out HNQ.out.sum hln
    have hlow : (2 ^ R + x) % 2 ^ n5 < 2 ^ n5 := Nat.mod_lt _ (Nat.two_pow_pos _)
    have hfm : fM m c = fq (m.atL (c : Int)) := by funext t; rfl
    have hnext := enc_next (m := m) HKN.out HS.out.enc.1 (n := n5) (by rw [HCE.out, HSE.out, HR.out, HXE.out, hfm]; exact hln)
    rw [HCE.out, HSE.out, HR.out, HXE.out, hfm] at hnext
    obtain ⟨y, hy⟩ : ∃ y, placeF (fq (m.atL (c : Int))) 256 s ((2 ^ R + x) / 2 ^ n5) = y := ⟨_, rfl⟩
    obtain ⟨lo, hlo⟩ : ∃ lo, (2 ^ R + x) % 2 ^ n5 = lo := ⟨_, rfl⟩
    rw [hy] at hnx hnext ⊢
    rw [hlo] at hlow hnext ⊢
    have h2n : 2 ^ n5 ≤ 4096 := pow12 (by have := HR2.out; omega)
    have hlen5 : (bs ++ bitsOf lo n5).length ≤ xs.length * R := by
      have h1 := enc_len hnext (fam_drop (by rw [← HR.out]; exact fits_fam HFIT.out HX.out) k)
      rw [List.length_drop, prs_length] at h1
      exact Nat.le_trans h1 (Nat.mul_le_mul_right _ (by omega))
    have hsl := set_lt (i := k) (st := (x0, x1)) (N := 2 ^ R) (x := y) ⟨by rw [← HR.out]; exact HS.out.enc.2.2.1, by rw [← HR.out]; exact HS.out.enc.2.2.2⟩ hnx
    have henc : EncS m xs xs.length (RM m) k (bs ++ bitsOf lo n5) (setLane k (x0, x1) y).1 (setLane k (x0, x1) y).2 := by
      rw [HR.out]
      exact ⟨hnext, hlen5, hsl.1, hsl.2⟩
    have hcc : ∀ q, A ≤ q → q < A + 8 → V3.heap[q]? = V.heap[q]? := fun q h1 h2 => by
      have := HS.out.sz
      have := HGL.out
      have := C12.out.size
      exact (c3.block q (by omega) (fun h => h)).trans (C12.out.block q (by omega) (by omega))
    have hw3 : Wr V3 b o bs := (HS.out.wr.kept C12.out (by have h1 := HS.out.ls.lt b (.inl rfl); exact h1.2.2) (fun q hq => (HS.out.ls.lt q (.inr (.inl hq.symm))).2.2)).kept c3 (by simp) (by simp)
    have HPUT := Lib.hid (put_in b o bs (lo : Int) (n5 : Int) V3 hw3 (by have := HBL2.out; have := HNR.out; omega) (by omega) (by omega) (by omega) (by have := HR2.out; omega))
    have hc0 : V3.cell? ⟨A, 0, none⟩ = some (.pointer (some ⟨b, 0, none⟩)) := by rw [cell_of_row V3 _ 0 _ _ _ ((hcc A (by omega) (by omega)).trans HS.out.b0)]; rfl
    have hst3 := (hcc (A + 4) (by omega) (by omega)).trans HS.out.st
    have hln3 := Stt.lane (a := x0) (b := x1) (g := A + 4) hst3 k
    rw [HXE.out, HP.out] at hln3
    refine hK.out _ _ ⟨by rw [cell_of_row V3 _ 0 _ _ _ ((hcc (A + 2) (by omega) (by omega)).trans HS.out.b2)]; rfl, by rw [cell_of_row V3 _ 0 _ _ _ ((hcc (A + 1) (by omega) (by omega)).trans HS.out.b1)]; rfl, hln3⟩ (fun hHeld => ?_)
    have HENC := Lib.hid henc; have C3 := Lib.hid c3; have HCC := Lib.hid hcc; have HST3 := Lib.hid hst3
    have hyI : (y : Int) < 4096 := by have := HP2.out; omega
    have hloI : (lo : Int) < 4096 := by omega
    have hn5I : (n5 : Int) ≤ 12 := by have := HR2.out; omega
    clear hK K hln hsays c3 hfl hn5 hnx hlow hfm hnext hlen5 hsl henc hcc hw3 hst3 hln3 hy hlo h2n HES
    try simp only [Act.put, List.setIfInBounds_toArray, List.set_cons_zero, List.set_cons_succ]
    refine takeH (i := 10) 22 (.tuple #[.int .i64 (y : Int), .int .i64 (n5 : Int), .int .u32 (lo : Int), .bool true]) rfl rfl (by kernel_rfl) (by kernel_rfl) (by kernel_rfl) (fun _ _ _ h => h) (by rfl) hHeld (by intro V hV; obtain ⟨hV1, hV2, hV3⟩ := hV; go_simp) ?_
    simp only [List.setIfInBounds_toArray, List.set_cons_zero, List.set_cons_succ]
    refine takeH (i := 11) 33 (.int .i64 (y : Int)) rfl rfl (by kernel_rfl) (by kernel_rfl) (by kernel_rfl) (fun _ _ _ h => h) (by rfl) hHeld (by intro V hV; obtain ⟨hV1, hV2, hV3⟩ := hV; go_simp) ?_
    simp only [List.setIfInBounds_toArray, List.set_cons_zero, List.set_cons_succ]
    refine takeH (i := 12) 34 (.int .i64 (n5 : Int)) rfl rfl (by kernel_rfl) (by kernel_rfl) (by kernel_rfl) (fun _ _ _ h => h) (by rfl) hHeld (by intro V hV; obtain ⟨hV1, hV2, hV3⟩ := hV; go_simp) ?_
    simp only [List.setIfInBounds_toArray, List.set_cons_zero, List.set_cons_succ]
    refine takeH (i := 13) 35 (.int .u32 (lo : Int)) rfl rfl (by kernel_rfl) (by kernel_rfl) (by kernel_rfl) (fun _ _ _ h => h) (by rfl) hHeld (by intro V hV; obtain ⟨hV1, hV2, hV3⟩ := hV; go_simp) ?_
    simp only [List.setIfInBounds_toArray, List.set_cons_zero, List.set_cons_succ]
    refine takeH (i := 14) 36 (.bool true) rfl rfl (by kernel_rfl) (by kernel_rfl) (by kernel_rfl) (fun _ _ _ h => h) (by rfl) hHeld (by intro V hV; obtain ⟨hV1, hV2, hV3⟩ := hV; go_simp) ?_
    simp only [List.setIfInBounds_toArray, List.set_cons_zero, List.set_cons_succ]
    refine takeH (i := 15) 11 (.int .i64 (y : Int)) rfl rfl (by kernel_rfl) (by kernel_rfl) (by kernel_rfl) (fun _ _ _ h => h) (by rfl) hHeld (by intro V hV; obtain ⟨hV1, hV2, hV3⟩ := hV; go_simp) ?_
    simp only [List.setIfInBounds_toArray, List.set_cons_zero, List.set_cons_succ]
    refine takeH (i := 16) 12 (.int .i64 (n5 : Int)) rfl rfl (by kernel_rfl) (by kernel_rfl) (by kernel_rfl) (fun _ _ _ h => h) (by rfl) hHeld (by intro V hV; obtain ⟨hV1, hV2, hV3⟩ := hV; go_simp) ?_
    simp only [List.setIfInBounds_toArray, List.set_cons_zero, List.set_cons_succ]
    refine takeH (i := 17) 13 (.int .u32 (lo : Int)) rfl rfl (by kernel_rfl) (by kernel_rfl) (by kernel_rfl) (fun _ _ _ h => h) (by rfl) hHeld (by intro V hV; obtain ⟨hV1, hV2, hV3⟩ := hV; go_simp) ?_
    simp only [List.setIfInBounds_toArray, List.set_cons_zero, List.set_cons_succ]
    refine takeH (i := 18) 14 (.bool true) rfl rfl (by kernel_rfl) (by kernel_rfl) (by kernel_rfl) (fun _ _ _ h => h) (by rfl) hHeld (by intro V hV; obtain ⟨hV1, hV2, hV3⟩ := hV; go_simp) ?_
    simp only [List.setIfInBounds_toArray, List.set_cons_zero, List.set_cons_succ]
    refine wpAnyH_done (by kernel_rfl) ?_ _
    clear hHeld
    gi_wp2_with (refine ⟨trivial, rfl, (CallsIn.inRound l (callsIn_wide.2 HPUT.out)).mono ?_⟩; rintro e V4 ⟨rfl, o', hw4, c4, ho4⟩; have hcc4 : ∀ q, A ≤ q → q < A + 8 → V4.heap[q]? = V.heap[q]? := (fun q h1 h2 => (c4.block q (by have := HS.out.sz; have := C12.out.size; have := C3.out.size; omega) (fun hq => hq.elim (fun hq => by have := HS.out.bA; omega) (fun hq => by have := HS.out.oA q hq.symm; omega))).trans (HCC.out q h1 h2)); have hst4 := (hcc4 (A + 4) (by omega) (by omega)).trans HS.out.st; have hln4 := Stt.lane (a := x0) (b := x1) (g := A + 4) hst4 k; rw [HXE.out, HP.out] at hln4; have hfr4 := Stt.free (a := x0) (b := x1) (g := A + 4) hst4 p; have HCC4 := Lib.hid hcc4; have HW4 := Lib.hid hw4; have C4 := Lib.hid c4; have HO4 := Lib.hid ho4; clear hcc4 hw4 c4 ho4 hst4)
    have c5 := Chg.setCell V4 ⟨A + 4, p, none⟩ (.int .i64 (y : Int))
    have hD : ∀ q, A + 6 ≤ q → q < A + 8 → (V4.setCell ⟨A + 4, p, none⟩ (.int .i64 (y : Int))).heap[q]? = V.heap[q]? := fun q h1 h2 => (c5.block q (by have := HS.out.sz; have := C12.out.size; have := C3.out.size; have := C4.out.size; omega) (by simp only []; omega)).trans (HCC4.out q (by omega) (by omega))
    have hstep := HS.out.step (y := y) HLS.out C12.out C3.out HW4.out C4.out HO4.out (by simpa using HENC.out)
    rw [HP.out] at hstep
    exact ⟨⟨_, _, o', _, hstep⟩, by rw [S6.out]; exact hD (A + 6) (by omega) (by omega), by rw [S6.out]; exact hD (A + 7) (by omega) (by omega)⟩
  case hdone =>
    rintro V ⟨x0, x1, o, bs, hs⟩ hD
    rw [Nat.sub_self] at hs
    refine HK.out _ _ ?_
    simp only [Nat.add_assoc, Nat.reduceAdd]
    obtain ⟨q0, q1⟩ := hs.st.cells
    have hr0 : V.cell? ⟨A + 3, 0, none⟩ = some (.int .i64 0) := by rw [cell_of_row V _ 0 _ _ _ hs.b3]; rfl
    have hr1 : V.cell? ⟨A + 3, 1, none⟩ = some (.int .i64 0) := by rw [cell_of_row V _ 1 _ _ _ hs.b3]; rfl
    have hf0 : V.frozen? ⟨A + 3, 0, none⟩ = false := frozen_of_row V _ 0 _ _ hs.b3
    have hf1 : V.frozen? ⟨A + 3, 1, none⟩ = false := frozen_of_row V _ 1 _ _ hs.b3
    have HS := Lib.hid hs; have HD := Lib.hid hD
    clear hs hD HK
    gi_wp2
    rw [S6.out]
    have ca := Chg.setCell V ⟨A + 3, 0, none⟩ (.int .i64 (x0 : Int))
    have cb := Chg.setCell (V.setCell ⟨A + 3, 0, none⟩ (.int .i64 (x0 : Int))) ⟨A + 3, 1, none⟩ (.int .i64 (x1 : Int))
    have hsz := HS.out.sz
    have hcab : Chg (fun q => q = A + 3) V ((V.setCell ⟨A + 3, 0, none⟩ (.int .i64 (x0 : Int))).setCell ⟨A + 3, 1, none⟩ (.int .i64 (x1 : Int))) := ca.trans cb fun _ _ h => h
    have hrow : ((V.setCell ⟨A + 3, 0, none⟩ (.int .i64 (x0 : Int))).setCell ⟨A + 3, 1, none⟩ (.int .i64 (x1 : Int))).heap[A + 3]? = some (.cells #[.int .i64 (x0 : Int), .int .i64 (x1 : Int)] 58 (0, 0)) := by
      have h1 := heap_setCell_same V (A + 3) 0 _ _ (.int .i64 (x0 : Int)) HS.out.b3
      rw [heap_setCell_same _ (A + 3) 1 _ _ _ h1]; rfl
    have hD2 : ((V.setCell ⟨A + 3, 0, none⟩ (.int .i64 (x0 : Int))).setCell ⟨A + 3, 1, none⟩ (.int .i64 (x1 : Int))).heap[A + 6]? = some (.deferred (some [])) := (hcab.block _ (by omega) (by omega)).trans (by have := HD.out; rwa [S6.out] at this)
    refine ⟨by simp, .inl ⟨_, _, rfl, run_takeDeferred hD2, ?_⟩⟩
    have cd := chg_putObj ((V.setCell ⟨A + 3, 0, none⟩ (.int .i64 (x0 : Int))).setCell ⟨A + 3, 1, none⟩ (.int .i64 (x1 : Int))) (A + 6) (.deferred none)
    have hrow7 := (cd.block (A + 3) (by have := hcab.size; omega) (by omega)).trans hrow
    have hc7 : Chg (fun q => q = A + 3 ∨ q = A + 6) V _ := (hcab.mono (T := fun q => q = A + 3 ∨ q = A + 6) fun _ _ h => .inl h).trans cd fun _ _ h => .inr h
    have HROW := Lib.hid hrow7; have HC7 := Lib.hid hc7
    obtain ⟨W7, hW7⟩ : ∃ U, World.putObj ((V.setCell ⟨A + 3, 0, none⟩ (.int .i64 (x0 : Int))).setCell ⟨A + 3, 1, none⟩ (.int .i64 (x1 : Int))) (A + 6) (.deferred none) = U := ⟨_, rfl⟩
    rw [hW7] at hrow7 hc7 ⊢
    have K5 : W7.cell? ⟨A + 3, 0, none⟩ = some (.int .i64 (x0 : Int)) := by rw [cell_of_row W7 _ 0 _ _ _ hrow7]; rfl
    have K6 : W7.cell? ⟨A + 3, 1, none⟩ = some (.int .i64 (x1 : Int)) := by rw [cell_of_row W7 _ 1 _ _ _ hrow7]; rfl
    clear HROW HC7 cd hD2 hrow hcab ca cb hW7 q0 q1 hr0 hr1 hf0 hf1
    refine ⟨_, by simp [results, Try.results44, go_sem, K5, K6], x0, x1, rfl, bs, o, HS.out.wr.kept hc7 (by have := HS.out.bA; omega) (fun q hq he => by have := HS.out.oA q hq; omega), HS.out.enc, HS.out.ls.chg.trans hc7 fun q hq he => ?_⟩
    have := HGL.out
    have := HS.out.ls.low
    omega

end Go.Proofs.Ytokeoebhmjefoaa

/- What the structure's of tells, whose lists' cells are built: a context's cells (none where its list is empty), built when they are first asked for. THIS SPEAKS OF THE PROGRAM'S OWN TEXT. -/
namespace Go.Proofs.Ytokeoebhmjefoaa
open Go.RowKit

theorem Try.entersDt (args : Array Value) (w : World) : (callFunc 31 args).run Try.prog w = .ok (.enter 31 args) w := by kernel_rfl
theorem cels_iff {m : Md} (hr : m.right) {c : Nat} (hc : c < 256) (l : List Cl) : CelsOf m (lsAt m c) l ↔ CelsOf m c l := by
  unfold CelsOf
  rw [(lsAt_list hr hc).2.2.2, fM_lsAt hr hc]
theorem dtab_new {m : Md} (hr : m.right) (c : Nat) {W V : World} {e : Ending} (h : DtabNew W (m.atL (c : Int)) e V) : ∃ v l x, e = .returned (.tuple #[v, .int .i64 x]) ∧ CelsOf m c l ∧ RdC V v l ∧ (l = [] ∨ ∀ k, v.ownBlock = some k → W.heap.size ≤ k ∧ k < V.heap.size) ∧ Chg (fun _ => False) W V := by
  obtain ⟨v, h1, h2, h3, h4⟩ := h
  by_cases hne : m.atL (c : Int) = []
  · exact ⟨v, [], _, h1, ⟨fun _ => rfl, fun hh => absurd hne hh⟩, h3 (by rw [hne]; decide), .inl rfl, h4⟩
  · have hnq := norm_at hr _ hne
    obtain ⟨l, h5, h6⟩ := h2 (by rw [hnq.log]; have := hnq.2.2.2.1; omega)
    refine ⟨v, l, _, h1, ⟨fun hh => absurd hh hne, fun _ => ?_⟩, h5.rd, .inr fun k hk => ?_, h4⟩
    · rw [hnq.log] at h6; exact h6
    · obtain ⟨g, off, cap, rfl, b1, b2, _⟩ := h5
      simp only [Value.ownBlock, Option.some.injEq] at hk
      omega
theorem rdc_kept {S : Nat → Prop} {w w' : World} {v : Value} {l : List Cl} (h : RdC w v l) (hc : Chg S w w') (hS : l = [] ∨ ∀ k, v.ownBlock = some k → ¬ S k) : RdC w' v l := by
  rcases hS with rfl | hS
  · obtain ⟨ao, cap, rfl⟩ := h.form
    exact .inl ⟨rfl, ao, cap, rfl⟩
  · exact h.kept hc hS
abbrev LsC (w : World) (G : Nat) (m : Md) (cv : Value) (W : World) (X : Nat → Prop) : Prop := LsJ 66 31 (AtC m) w G m cv W X

set_option maxRecDepth 100000 in
set_option maxHeartbeats 4000000 in
theorem lofC_each (w : World) (G : Nat) (m : Md) (cv : Value) (W : World) (X : Nat → Prop) (c : Nat) (h : LsC w G m cv W X) (hl : RdLL w cv m.cs) (hr : m.right) (hone : m.one = false) (hc : c < 256) :
    Calls Try.prog 33 #[.pointer (some ⟨G, 0, none⟩), .int .i64 (c : Int)] W fun e W' => ∃ v, e = .returned v ∧ ∃ l, RdC W' v l ∧ CelsOf m c l ∧ LsC w G m cv W' X ∧ Chg (fun k => k = G) W W' := by
  obtain ⟨vs, qs, hb, hall⟩ := h.row
  obtain ⟨hj1, hj2, hj3, hj4⟩ := lsAt_list hr hc
  have hjc : lsAt m c = c := by unfold lsAt; rw [hone]; rfl
  rw [hjc] at hj1 hj2 hj3 hj4
  obtain ⟨b1, b2, b3⟩ := hb.head
  obtain ⟨v1, v2⟩ := hb.v c hj1
  obtain ⟨q1, q2⟩ := hb.q c hj1
  have hent := Try.entersDt
  have hcI : (c : Int) < 256 := by omega
  have hc0 : (0 : Int) ≤ (c : Int) := by omega
  rw [hone] at b1
  have H := Lib.hid h; have HB := Lib.hid hb; have HALL := Lib.hid hall; have HJ4 := Lib.hid hj4; have HR := Lib.hid hr
  have hce := cels_iff hr hc
  rw [hjc] at hce
  have HCE := Lib.hid hce
  clear hce
  rcases hall c hj1 with hq | ⟨hq, S, ⟨l, hcel, hrd, hS⟩, hX⟩
  · have HDN := Lib.hid (fun (W V : World) (e : Ending) => dtab_new hr c (W := W) (V := V) (e := e))
    rw [hq] at q1
    obtain ⟨ao, cap, rfl⟩ := hl.form
    obtain ⟨g, off, u, rfl, hcell, hu⟩ := hl.room c hj2
    rw [hj3] at hu
    obtain ⟨W1, hW1⟩ : ∃ V, W.setCell ⟨G, 260 + c, none⟩ (.bool true) = V := ⟨_, rfl⟩
    have hb1 := hb.set_q c (.bool true)
    have hch1 := Chg.setCell W ⟨G, 260 + c, none⟩ (.bool true)
    rw [hW1] at hb1 hch1
    have hlow := h.low
    have hc1 : Chg (fun _ => False) w W1 := h.chg.trans hch1 fun k hk he => by simp only [] at he; omega
    obtain ⟨c1, c2, c3⟩ := hb1.head
    have hgl := block_lt_of_cell hcell
    have hcell1 : W1.cell? ⟨g, off + c, none⟩ = some u := by
      rw [World.cell?_of_block (w := w) (a := ⟨g, off + c, none⟩) (hc1.block g hgl (by simp))]; exact hcell
    obtain ⟨n, hn⟩ : ∃ n, m.cs.length = n := ⟨_, rfl⟩
    have hfit := hr.fit64.at c (by omega)
    rw [hj3] at hfit
    have HE := Lib.hid (dof_new u (m.atL (c : Int)) W1.drew (hu.1.kept hc1.drew (by simp)) hfit.2 hfit.1)
    have HU := Lib.hid hu; have HB1 := Lib.hid hb1; have HCH1 := Lib.hid hch1; have HC1 := Lib.hid hc1; have HGL := Lib.hid hgl; have HLOW := Lib.hid hlow; have HW1 := Lib.hid hW1; have HJ1 := Lib.hid hj1; have HN := Lib.hid hn
    have hun : u.oneCell' = true := by obtain ⟨au, cu, rfl⟩ := hu.1.form; rfl
    obtain ⟨au, cu, hue⟩ := hu.1.form
    have hncI : (c : Int) < (n : Int) := by omega
    have hn0 : 0 < n := by omega
    rw [hn] at b2 c2 ⊢
    clear h hb hall hl hr hj2 hj3 hj4 hjc hq hu hb1 hch1 hc1 hcell hgl hlow hn hfit hone v1 v2 hW1
    skip
    rw [hue] at hcell1
    go_enter Try.func33, Try.ntmps33
    go_wp2
    rw [HW1.out]
    go_region_held3 (fun V => V.cell? ⟨G, 3, none⟩ = some (.func (.func 31) #[] #[]) ∧ V.cell? ⟨G, 2, none⟩ = some (.slice (some ⟨g, off, none⟩) n cap) ∧ V.cell? ⟨g, off + c, none⟩ = some (.slice au (m.atL (c : Int)).length cu)) (first | exact ⟨c3, c2, hcell1⟩ | exact ⟨d3, d2, dc⟩ | exact ⟨f3, f2, fc⟩) (first
      | (go_at_call 31; rw [← hue]; refine HE.out.mono ?_; rintro e V2 hdt; obtain ⟨v, l, x, rfl, hcel, hrd, hown, hcv⟩ := HDN.out _ _ _ hdt; obtain ⟨av, cw, rfl⟩ := hrd.form; have hin : CelsOf m c l ∧ RdC V2 (.slice av l.length cw) l ∧ (l = [] ∨ ∀ k, (Value.slice av l.length cw).ownBlock = some k → W1.heap.size ≤ k ∧ k < V2.heap.size) := ⟨hcel, hrd, hown⟩; clear hcel hrd hown hdt; have hb2 := HB1.out.kept ((Chg.refl (fun _ => False) W1).drew.trans hcv fun _ _ h => h) (by simp); obtain ⟨-, d2, d3⟩ := hb2.head; rw [HN.out] at d2; have dc : V2.cell? ⟨g, off + c, none⟩ = some (.slice au (m.atL (c : Int)).length cu) := (World.cell?_of_block (w := W1) (a := ⟨g, off + c, none⟩) (((Chg.refl (fun _ => False) W1).drew.trans hcv fun _ _ h => h).block g (block_lt_of_cell hcell1) (by simp))).trans hcell1; obtain ⟨d4, d5⟩ := hb2.v c HJ1.out; have hb3 := hb2.set_v c HJ1.out (.slice av l.length cw); obtain ⟨-, f2, f3⟩ := hb3.head; rw [HN.out] at f2; obtain ⟨f4, -⟩ := hb3.v c HJ1.out; rw [lsv_self _ _ (by rw [hb2.2.1]; exact HJ1.out)] at f4; skip; have fc : (V2.setCell ⟨G, 4 + c, none⟩ (.slice av l.length cw)).cell? ⟨g, off + c, none⟩ = some (.slice au (m.atL (c : Int)).length cu) := (World.cell?_of_block (w := V2) (a := ⟨g, off + c, none⟩) ((Chg.setCell V2 ⟨G, 4 + c, none⟩ (.slice av l.length cw)).block g (block_lt_of_cell dc) (by simp only []; have := HGL.out; have := HLOW.out; omega))).trans dc; have HIN := Lib.hid hin; have HB3 := Lib.hid hb3; have HCV := Lib.hid hcv; clear hin hb3 hcv hb2))
    go_wp2
    go_ret
    have hcv3 : Chg (fun k => k = G) W1 _ := ((Chg.refl (fun k => k = G) W1).drew.trans HCV.out fun _ _ h => h.elim).trans (Chg.setCell V2 ⟨G, 4 + c, none⟩ (.slice av l.length cw)) fun _ _ h => h
    have hw3 := HCH1.out.trans hcv3 fun _ _ h => h
    rw [← HN.out]
    have hrd3 : RdC (V2.setCell ⟨G, 4 + c, none⟩ (.slice av l.length cw)) (.slice av l.length cw) l := rdc_kept HIN.out.2.1 (Chg.setCell V2 ⟨G, 4 + c, none⟩ (.slice av l.length cw)) (HIN.out.2.2.imp id fun hh k hk he => by
        simp only [] at he
        have := lt_of_block HB1.out.1
        have := (hh k hk).1
        omega)
    exact ⟨_, rfl, l, hrd3, HIN.out.1, H.out.fill (AtC.kept m) HALL.out HB.out.2.1 HB.out.2.2 hw3 c HJ1.out HB3.out (S := fun k => W1.heap.size ≤ k ∧ k < V2.heap.size) ⟨l, HIN.out.1, hrd3, HIN.out.2.2⟩ fun k hk => ⟨Nat.le_trans HCH1.out.size hk.1, Nat.lt_of_lt_of_le hk.2 (Chg.setCell V2 ⟨G, 4 + c, none⟩ (.slice av l.length cw)).size⟩, hw3⟩
  ·
    rw [hq] at q1
    obtain ⟨av, cw, hv⟩ := hrd.form
    rw [hv] at v1 hrd
    have HRD := Lib.hid hrd; have HCEL := Lib.hid ((HCE.out l).1 hcel)
    clear h hb hall hl hr hj2 hj3 hj4 hjc hq hone
    skip
    clear hrd hcel hS hX hv HCE
    go_enter Try.func33, Try.ntmps33
    go_wp2
    go_ret
    exact ⟨_, rfl, l, HRD.out, HCEL.out, H.out, Chg.refl _ _⟩

set_option maxRecDepth 100000 in
set_option maxHeartbeats 4000000 in
theorem lofC_one (w : World) (G : Nat) (m : Md) (cv : Value) (W : World) (X : Nat → Prop) (c : Nat) (h : LsC w G m cv W X) (hl : RdLL w cv m.cs) (hr : m.right) (hone : m.one = true) (hc : c < 256) :
    Calls Try.prog 33 #[.pointer (some ⟨G, 0, none⟩), .int .i64 (c : Int)] W fun e W' => ∃ v, e = .returned v ∧ ∃ l, RdC W' v l ∧ CelsOf m c l ∧ LsC w G m cv W' X ∧ Chg (fun k => k = G) W W' := by
  obtain ⟨vs, qs, hb, hall⟩ := h.row
  obtain ⟨hj1, hj2, hj3, hj4⟩ := lsAt_list hr hc
  have hjc : lsAt m c = 0 := by unfold lsAt; rw [hone]; rfl
  rw [hjc] at hj1 hj2 hj3 hj4
  obtain ⟨b1, b2, b3⟩ := hb.head
  obtain ⟨v1, v2⟩ := hb.v 0 hj1
  obtain ⟨q1, q2⟩ := hb.q 0 hj1
  have hent := Try.entersDt
  have hcI : (c : Int) < 256 := by omega
  have hc0 : (0 : Int) ≤ (c : Int) := by omega
  rw [hone] at b1
  have H := Lib.hid h; have HB := Lib.hid hb; have HALL := Lib.hid hall; have HJ4 := Lib.hid hj4; have HR := Lib.hid hr
  have hce := cels_iff hr hc
  rw [hjc] at hce
  have HCE := Lib.hid hce
  clear hce
  rcases hall 0 hj1 with hq | ⟨hq, S, ⟨l, hcel, hrd, hS⟩, hX⟩
  · have HDN := Lib.hid (fun (W V : World) (e : Ending) => dtab_new hr c (W := W) (V := V) (e := e))
    rw [hq] at q1
    obtain ⟨ao, cap, rfl⟩ := hl.form
    obtain ⟨g, off, u, rfl, hcell, hu⟩ := hl.room 0 hj2
    rw [hj3] at hu
    obtain ⟨W1, hW1⟩ : ∃ V, W.setCell ⟨G, 260 + 0, none⟩ (.bool true) = V := ⟨_, rfl⟩
    have hb1 := hb.set_q 0 (.bool true)
    have hch1 := Chg.setCell W ⟨G, 260 + 0, none⟩ (.bool true)
    rw [hW1] at hb1 hch1
    have hlow := h.low
    have hc1 : Chg (fun _ => False) w W1 := h.chg.trans hch1 fun k hk he => by simp only [] at he; omega
    obtain ⟨c1, c2, c3⟩ := hb1.head
    have hgl := block_lt_of_cell hcell
    have hcell1 : W1.cell? ⟨g, off + 0, none⟩ = some u := by
      rw [World.cell?_of_block (w := w) (a := ⟨g, off + 0, none⟩) (hc1.block g hgl (by simp))]; exact hcell
    obtain ⟨n, hn⟩ : ∃ n, m.cs.length = n := ⟨_, rfl⟩
    have hfit := hr.fit64.at 0 (by omega)
    rw [hj3] at hfit
    have HE := Lib.hid (dof_new u (m.atL (c : Int)) W1.drew (hu.1.kept hc1.drew (by simp)) hfit.2 hfit.1)
    have HU := Lib.hid hu; have HB1 := Lib.hid hb1; have HCH1 := Lib.hid hch1; have HC1 := Lib.hid hc1; have HGL := Lib.hid hgl; have HLOW := Lib.hid hlow; have HW1 := Lib.hid hW1; have HJ1 := Lib.hid hj1; have HN := Lib.hid hn
    have hun : u.oneCell' = true := by obtain ⟨au, cu, rfl⟩ := hu.1.form; rfl
    obtain ⟨au, cu, hue⟩ := hu.1.form
    have hncI : (0 : Int) < (n : Int) := by omega
    have hn0 : 0 < n := by omega
    rw [hn] at b2 c2 ⊢
    clear h hb hall hl hr hj2 hj3 hj4 hjc hq hu hb1 hch1 hc1 hcell hgl hlow hn hfit hone v1 v2 hW1
    simp only [Nat.add_zero] at q1 q2 hcell1
    rw [hue] at hcell1
    go_enter Try.func33, Try.ntmps33
    go_wp2
    rw [show W.setCell ⟨G, 260, none⟩ (.bool true) = W1 from HW1.out]
    go_region_held3 (fun V => V.cell? ⟨G, 3, none⟩ = some (.func (.func 31) #[] #[]) ∧ V.cell? ⟨G, 2, none⟩ = some (.slice (some ⟨g, off, none⟩) n cap) ∧ V.cell? ⟨g, off, none⟩ = some (.slice au (m.atL (c : Int)).length cu)) (first | exact ⟨c3, c2, hcell1⟩ | exact ⟨d3, d2, dc⟩ | exact ⟨f3, f2, fc⟩) (first
      | (go_at_call 31; rw [← hue]; refine HE.out.mono ?_; rintro e V2 hdt; obtain ⟨v, l, x, rfl, hcel, hrd, hown, hcv⟩ := HDN.out _ _ _ hdt; obtain ⟨av, cw, rfl⟩ := hrd.form; have hin : CelsOf m c l ∧ RdC V2 (.slice av l.length cw) l ∧ (l = [] ∨ ∀ k, (Value.slice av l.length cw).ownBlock = some k → W1.heap.size ≤ k ∧ k < V2.heap.size) := ⟨hcel, hrd, hown⟩; clear hcel hrd hown hdt; have hb2 := HB1.out.kept ((Chg.refl (fun _ => False) W1).drew.trans hcv fun _ _ h => h) (by simp); obtain ⟨-, d2, d3⟩ := hb2.head; rw [HN.out] at d2; have dc : V2.cell? ⟨g, off, none⟩ = some (.slice au (m.atL (c : Int)).length cu) := (World.cell?_of_block (w := W1) (a := ⟨g, off, none⟩) (((Chg.refl (fun _ => False) W1).drew.trans hcv fun _ _ h => h).block g (block_lt_of_cell hcell1) (by simp))).trans hcell1; obtain ⟨d4, d5⟩ := hb2.v 0 HJ1.out; have hb3 := hb2.set_v 0 HJ1.out (.slice av l.length cw); obtain ⟨-, f2, f3⟩ := hb3.head; rw [HN.out] at f2; obtain ⟨f4, -⟩ := hb3.v 0 HJ1.out; rw [lsv_self _ _ (by rw [hb2.2.1]; exact HJ1.out)] at f4; simp only [Nat.add_zero] at d4 d5 f2 f3 f4; have fc : (V2.setCell ⟨G, 4, none⟩ (.slice av l.length cw)).cell? ⟨g, off, none⟩ = some (.slice au (m.atL (c : Int)).length cu) := (World.cell?_of_block (w := V2) (a := ⟨g, off, none⟩) ((Chg.setCell V2 ⟨G, 4, none⟩ (.slice av l.length cw)).block g (block_lt_of_cell dc) (by simp only []; have := HGL.out; have := HLOW.out; omega))).trans dc; have HIN := Lib.hid hin; have HB3 := Lib.hid hb3; have HCV := Lib.hid hcv; clear hin hb3 hcv hb2))
    go_wp2
    go_ret
    have hcv3 : Chg (fun k => k = G) W1 _ := ((Chg.refl (fun k => k = G) W1).drew.trans HCV.out fun _ _ h => h.elim).trans (Chg.setCell V2 ⟨G, 4 + 0, none⟩ (.slice av l.length cw)) fun _ _ h => h
    have hw3 := HCH1.out.trans hcv3 fun _ _ h => h
    rw [← HN.out]
    have hrd3 : RdC (V2.setCell ⟨G, 4 + 0, none⟩ (.slice av l.length cw)) (.slice av l.length cw) l := rdc_kept HIN.out.2.1 (Chg.setCell V2 ⟨G, 4 + 0, none⟩ (.slice av l.length cw)) (HIN.out.2.2.imp id fun hh k hk he => by
        simp only [] at he
        have := lt_of_block HB1.out.1
        have := (hh k hk).1
        omega)
    exact ⟨_, rfl, l, hrd3, HIN.out.1, H.out.fill (AtC.kept m) HALL.out HB.out.2.1 HB.out.2.2 hw3 0 HJ1.out HB3.out (S := fun k => W1.heap.size ≤ k ∧ k < V2.heap.size) ⟨l, (HCE.out l).2 HIN.out.1, hrd3, HIN.out.2.2⟩ fun k hk => ⟨Nat.le_trans HCH1.out.size hk.1, Nat.lt_of_lt_of_le hk.2 (Chg.setCell V2 ⟨G, 4 + 0, none⟩ (.slice av l.length cw)).size⟩, hw3⟩
  ·
    rw [hq] at q1
    obtain ⟨av, cw, hv⟩ := hrd.form
    rw [hv] at v1 hrd
    have HRD := Lib.hid hrd; have HCEL := Lib.hid ((HCE.out l).1 hcel)
    clear h hb hall hl hr hj2 hj3 hj4 hjc hq hone
    simp only [Nat.add_zero] at q1 q2 v1 v2
    clear hrd hcel hS hX hv HCE
    go_enter Try.func33, Try.ntmps33
    go_wp2
    go_ret
    exact ⟨_, rfl, l, HRD.out, HCEL.out, H.out, Chg.refl _ _⟩

end Go.Proofs.Ytokeoebhmjefoaa

/- The structure of what is built, when it is made: its zero value; a model and a function in it. THIS SPEAKS OF THE PROGRAM'S OWN TEXT (its types and two functions). -/
namespace Go.Proofs.Ytokeoebhmjefoaa
open Go.RowKit

/-- the structure as it is made: nothing is built, nothing asked for -/
def lsZ (fn : Nat) (x y z u : Value) : Array Value := (x :: y :: z :: .func (.func fn) #[] #[] :: (List.replicate 256 u ++ List.replicate 256 (.bool false))).toArray
theorem lsZ_size (fn : Nat) (x y z u : Value) : (lsZ fn x y z u).size = 516 := by
  unfold lsZ
  rw [List.size_toArray, List.length_cons, List.length_cons, List.length_cons, List.length_cons, List.length_append, List.length_replicate, List.length_replicate]
theorem lsZ_one (fn : Nat) {x y z u : Value} (hx : x.oneCell' = true) (hy : y.oneCell' = true) (hz : z.oneCell' = true) (hu : u.oneCell' = true) : (lsZ fn x y z u).all (·.oneCell') = true := by
  rw [Array.all_eq_true_iff_forall_mem]
  intro v hv
  unfold lsZ at hv
  rw [List.mem_toArray] at hv
  simp only [List.mem_cons, List.mem_append, List.mem_replicate] at hv
  rcases hv with rfl | rfl | rfl | rfl | ⟨_, rfl⟩ | ⟨_, rfl⟩ <;> first | assumption | rfl

set_option maxRecDepth 100000 in
theorem builtT (x y z : Value) : Try.prog.built 83 [(0, .agg #[x, y, z]), (1, .func (.func 42) #[] #[])] = some (lsZ 42 x y z (.pointer none)) := by kernel_rfl
set_option maxRecDepth 100000 in
theorem builtC (x y z : Value) : Try.prog.built 66 [(0, .agg #[x, y, z]), (1, .func (.func 31) #[] #[])] = some (lsZ 31 x y z (.slice none 0 0)) := by kernel_rfl
set_option maxRecDepth 100000 in
theorem zeroLsT : ∃ Z : Array Value, Z.size = 516 ∧ ∀ W : World, (zeroValue 83).run Try.prog W = .ok (.agg Z) W :=
  ⟨(.int .i64 0 :: .bool false :: .slice none 0 0 :: .nilFunc :: (List.replicate 256 (.pointer none) ++ List.replicate 256 (.bool false))).toArray, by rw [List.size_toArray, List.length_cons, List.length_cons, List.length_cons, List.length_cons, List.length_append, List.length_replicate, List.length_replicate], fun W => by kernel_rfl⟩
set_option maxRecDepth 100000 in
theorem zeroLsC : ∃ Z : Array Value, Z.size = 516 ∧ ∀ W : World, (zeroValue 66).run Try.prog W = .ok (.agg Z) W :=
  ⟨(.int .i64 0 :: .bool false :: .slice none 0 0 :: .nilFunc :: (List.replicate 256 (.slice none 0 0) ++ List.replicate 256 (.bool false))).toArray, by rw [List.size_toArray, List.length_cons, List.length_cons, List.length_cons, List.length_cons, List.length_append, List.length_replicate, List.length_replicate], fun W => by kernel_rfl⟩
theorem infoLsT : (Try.prog.info? 83).map (·.size) = some 516 := by kernel_rfl
theorem infoLsC : (Try.prog.info? 66).map (·.size) = some 516 := by kernel_rfl

set_option maxRecDepth 100000 in
theorem wpList_listsT {ops : Array Oper} {rest : List Oper} {o : Oper} {a : Act} {w : World} {Q : Exit → Act → World → Prop} (hg : o.guard = none) (X : Operand) (ho : o.op = .build 83 #[(0, X), (1, .func 42)]) (x y z : Value) (hx : a.eval X = .agg #[x, y, z])
    (h : wpList Try.prog ops Q rest (a.put o.dst (.agg (lsZ 42 x y z (.pointer none)))) w) : wpList Try.prog ops Q (o :: rest) a w := by
  have hb : Try.prog.built 83 ((#[(0, X), (1, Operand.func 42)]).map fun (i, x) => (i, a.eval x)).toList = some (lsZ 42 x y z (.pointer none)) := by
    have hm : ((#[(0, X), (1, Operand.func 42)]).map fun (i, x) => (i, a.eval x)).toList = [(0, .agg #[x, y, z]), (1, .func (.func 42) #[] #[])] := by
      simp only [List.map_toArray, List.map_cons, List.map_nil, hx]
      rfl
    rw [hm]
    exact builtT x y z
  refine wpList_build hg _ _ ho (by rw [hb]; rfl) ?_
  rw [hb]
  exact h
set_option maxRecDepth 100000 in
theorem wpList_listsC {ops : Array Oper} {rest : List Oper} {o : Oper} {a : Act} {w : World} {Q : Exit → Act → World → Prop} (hg : o.guard = none) (X : Operand) (ho : o.op = .build 66 #[(0, X), (1, .func 31)]) (x y z : Value) (hx : a.eval X = .agg #[x, y, z])
    (h : wpList Try.prog ops Q rest (a.put o.dst (.agg (lsZ 31 x y z (.slice none 0 0)))) w) : wpList Try.prog ops Q (o :: rest) a w := by
  have hb : Try.prog.built 66 ((#[(0, X), (1, Operand.func 31)]).map fun (i, x) => (i, a.eval x)).toList = some (lsZ 31 x y z (.slice none 0 0)) := by
    have hm : ((#[(0, X), (1, Operand.func 31)]).map fun (i, x) => (i, a.eval x)).toList = [(0, .agg #[x, y, z]), (1, .func (.func 31) #[] #[])] := by
      simp only [List.map_toArray, List.map_cons, List.map_nil, hx]
      rfl
    rw [hm]
    exact builtC x y z
  refine wpList_build hg _ _ ho (by rw [hb]; rfl) ?_
  rw [hb]
  exact h

/-- the structure that was made last -/
theorem LsJ.new {t : TypeId} {fn : Nat} {At : (Nat → Prop) → World → Value → Nat → Prop} {w W V : World} {m : Md} {cv u : Value} {X : Nat → Prop} (hc : Chg (fun _ => False) w W) (hV : V = W.alloc (.cells (lsZ fn (.int .i64 m.log) (.bool m.one) cv u) t)) (hX : ∀ k, X k → w.heap.size ≤ k ∧ k < W.heap.size) : LsJ t fn At w W.heap.size m cv V X := by
  subst hV
  have ca := Chg.alloc (fun _ => False) W (.cells (lsZ fn (.int .i64 m.log) (.bool m.one) cv u) t)
  refine ⟨hc.size, hc.trans ca fun _ _ h => h, fun k hk => ⟨(hX k hk).1, Nat.lt_of_lt_of_le (hX k hk).2 ca.size, by have := (hX k hk).2; omega⟩, List.replicate 256 u, List.replicate 256 (.bool false), ⟨heap_alloc_new W _, List.length_replicate, List.length_replicate⟩, fun c hc' => .inl ?_⟩
  rw [List.getD_eq_getElem?_getD, List.getElem?_replicate, if_pos hc']; rfl

end Go.Proofs.Ytokeoebhmjefoaa

/- What the document's own Bits, Number, Open and Take (puncheonref01, puncheonref02) tell. -/
namespace Go.Proofs.Ytokeoebhmjefoaa
open Go.RowKit


/-- The value v is a slice of the bits bs; it is not nil. -/
def RdL (w : World) (v : Value) (g off : Nat) (bs : List Bool) : Prop :=
  ∃ cap, v = .slice (some ⟨g, off, none⟩) bs.length cap ∧ bs.length ≤ cap ∧ cap ≤ maxLen ∧ ∀ j (h : j < bs.length), w.cell? ⟨g, off + j, none⟩ = some (.bool bs[j])

theorem val_drop_succ (bs : List Bool) (j : Nat) (h : j < bs.length) : val (bs.drop j) = (bs[j]).toNat + 2 * val (bs.drop (j + 1)) := by
  rw [List.drop_eq_getElem_cons h]; rfl

set_option maxHeartbeats 1000000 in
theorem rnumber_any (v : Value) (g off : Nat) (bs : List Bool) (w : World) (h : RdL w v g off bs) (hl : bs.length ≤ 24) :
    Calls Try.prog 62 #[v] w fun e w' => e = .returned (.int .u32 ((val bs : Nat) : Int)) ∧ w' = w := by
  obtain ⟨cap, rfl, hcap, hcap2, hcell⟩ := h
  have HCELL := Lib.hid hcell
  clear hcell
  go_enter Try.func62, Try.ntmps62
  go_wp2
  go_loopw [3, 4] (fun o3 o4 wr => ∃ j : Nat, j ≤ bs.length ∧ o4 = .int .i64 ((j : Int) - 1) ∧ o3 = .int .u32 ((val (bs.drop j) : Nat) : Int) ∧ wr = w) (fun _ o4 _ => (intOf o4 + 1).toNat)
  case atStart => exact ⟨bs.length, Nat.le_refl _, rfl, by simp [val], rfl⟩
  case round =>
    obtain ⟨j, hj, rfl, rfl, rfl⟩ := hrel
    rcases j with _ | j
    · go_wp2
      go_ret
      exact ⟨rfl, rfl⟩
    · have hij : (((j + 1 : Nat) : Int) - 1) = (j : Int) := by omega
      rw [hij]
      have hc := HCELL.out j (by omega)
      have hv := val_drop_succ bs j (by omega)
      have hb := val_lt (bs.drop (j + 1))
      have hb2 : 2 ^ (bs.drop (j + 1)).length ≤ 2 ^ 23 := Nat.pow_le_pow_right (by omega) (by rw [List.length_drop]; omega)
      obtain ⟨y, hy⟩ : ∃ y, val (bs.drop (j + 1)) = y := ⟨_, rfl⟩
      have hy2 : y < 8388608 := by rw [← hy]; omega
      rw [hy] at hv ⊢
      have HV := Lib.hid hv
      clear hv hb hb2 hy hij
      cases hbj : bs[j]
      · rw [hbj] at hc HV
        clear hbj
        go_wp2
        go_roundw
        case rel => exact ⟨j, by omega, rfl, by rw [HV.out]; simp <;> omega, trivial⟩
        case measure => simp [intOf]
      · rw [hbj] at hc HV
        clear hbj
        go_wp2
        go_roundw
        case rel => exact ⟨j, by omega, rfl, by rw [HV.out]; simp <;> omega, trivial⟩
        case measure => simp [intOf]

theorem bitsB_take_succ (xs : List Nat) (k : Nat) (h : k < xs.length) : bitsB (xs.take (k + 1)) = bitsB (xs.take k) ++ bitsOf (xs.getD k 0) 8 := by
  rw [List.take_succ_eq_append_getElem h, bitsB_append, List.getD_eq_getElem?_getD, List.getElem?_eq_getElem h]
  simp [bitsB]

theorem and_one_u8 : ∀ x : Nat, x < 256 → ∀ k : Nat, k < 8 → (bits BinOp.and IntKind.u8 ((x : Int) / 2 ^ k) 1 == 1) = decide (x / 2 ^ k % 2 = 1) := by decide +kernel

set_option maxRecDepth 20000 in
set_option maxHeartbeats 2000000 in
theorem rbits_any (v : Value) (xs : List Nat) (w : World) (h : RdB w v xs) (hx : ∀ x ∈ xs, x < 256) (hl : xs.length ≤ 1000000) :
    Calls Try.prog 61 #[v] w fun e w' => ∃ v', e = .returned v' ∧ w'.ownsRow w.heap.size 4 1 v' (bitsB xs).length (bl (bitsB xs)) ∧ Chg (fun _ => False) w w' := by
  obtain ⟨ao, cap, hv⟩ := h.form
  subst hv
  obtain ⟨i, hi, hz0, hz1, hz2⟩ := info_parts Try.infoBool
  have H := Lib.hid h; have HX := Lib.hid hx
  clear h hx
  go_enter Try.func61, Try.ntmps61
  go_wp2
  go_loopw [3, 4] (fun o3 o4 wr => ∃ k : Nat, k ≤ xs.length ∧ o4 = .int .i64 (k : Int) ∧ wr.ownsRow w.heap.size 4 1 o3 (8 * k) (bl (bitsB (xs.take k))) ∧ Chg (fun _ => False) w wr) (fun _ o4 _ => xs.length - (intOf o4).toNat)
  case atStart => exact ⟨0, Nat.zero_le _, rfl, by simpa [bitsB, bl] using World.ownsRow_nil w w.heap.size 4 1, Chg.refl _ _⟩
  case round =>
    obtain ⟨k, hk, rfl, ho, hc⟩ := hrel
    by_cases hlt : k < xs.length
    · obtain ⟨wa, hwa⟩ : ∃ wa, wa = wr := ⟨_, rfl⟩
      subst hwa
      obtain ⟨g, off, cap', hvv, hcc⟩ : ∃ g off cap', Value.slice ao xs.length cap = .slice (some ⟨g, off, none⟩) xs.length cap' ∧ ∀ j, j < xs.length → w.cell? ⟨g, off + j, none⟩ = some (.int .u8 ((xs.getD j 0 : Nat) : Int)) := by
        rcases H.out with ⟨h0, _⟩ | h
        · rw [h0] at hlt; simp at hlt
        · exact h
      simp only [Value.slice.injEq, true_and] at hvv
      obtain ⟨rfl, rfl⟩ := hvv
      have hcell := hcc k hlt
      obtain ⟨x, hxk⟩ : ∃ x, xs.getD k 0 = x := ⟨_, rfl⟩
      have hxl : x < 256 := by rw [← hxk]; exact getD_lt xs HX.out k
      have hsu := bitsB_take_succ xs k hlt
      rw [hxk] at hcell hsu
      have hlen : (bitsB (xs.take k)).length = 8 * k := by rw [bitsB_length, List.length_take, Nat.min_eq_left (by omega)]
      obtain ⟨A, hA⟩ : ∃ A, bitsB (xs.take k) = A := ⟨_, rfl⟩
      rw [hA] at hsu ho hlen
      have HSU := Lib.hid hsu; have HLEN := Lib.hid hlen
      clear hsu hxk hA hcc hlen
      go_wp2
      go_loopw [3, 5] (fun o3 o5 wr => ∃ m : Nat, m ≤ 8 ∧ o5 = .int .i64 (m : Int) ∧ wr.ownsRow w.heap.size 4 1 o3 (8 * k + m) (bl (A ++ bitsOf x m)) ∧ Chg (fun _ => False) w wr) (fun _ o5 _ => 8 - (intOf o5).toNat)
      case atStart => exact ⟨0, Nat.zero_le _, rfl, by simpa [bitsOf] using ho, hc⟩
      case round =>
        obtain ⟨m, hm, rfl, ho2, hc2⟩ := hrel
        clear ho hc
        by_cases hm8 : m < 8
        · have hc3 : wr.cell? ⟨g, off + k, none⟩ = some (.int .u8 (x : Int)) := by
            rw [World.cell?_of_block (w := w) (a := ⟨g, off + k, none⟩) (hc2.block g (block_lt_of_cell hcell) (by simp))]; exact hcell
          have hbit := and_one_u8 x hxl m hm8
          have hsn : bl (A ++ bitsOf x m) ++ [.bool (decide (x / 2 ^ m % 2 = 1))] = bl (A ++ bitsOf x (m + 1)) := by simp [bl, bitsOf]
          have HBit := Lib.hid hbit; have HSN := Lib.hid hsn
          have hsz := hc2.size
          clear hbit hsn
          go_wp2_with (at_builtin; refine wpList_append_own _ rfl (.tmp 16) (.tmp 25) 31 rfl w.heap.size 4 i (.bool false) 1 1 Try.underlying31 hi hz0 hz1 hz2 rfl (by decide) _ (8 * k + m) _ rfl (ho2.alloc _) ⟨wr.heap.size, 0, none⟩ 1 1 _ rfl rfl (cell_one_new _ _ _) ?_ (by unfold maxLen; omega) (by omega) (by simp; omega) ?_)
          · intro x hx; simp at hx; subst hx; rfl
          intro v' w1 ho1 hg1 _
          have hc1 : Chg (fun _ => False) w w1 := (hc2.trans (Chg.alloc (fun _ => False) wr _) (fun _ _ h => h)).trans (Chg.of_grown hg1) (fun j hj hx => by have := (ho2.lt j hx.symm).1; omega)
          rw [HBit.out, HSN.out] at ho1
          clear hg1 ho2 hc2 hc3
          go_wp2
          go_roundw
          case rel => exact ⟨m + 1, by omega, by go_num, ho1, hc1⟩
          case measure => simp [intOf]; omega
        · obtain rfl : m = 8 := by omega
          rw [← HSU.out] at ho2
          go_wp2
          go_roundw
          case rel => exact ⟨k + 1, by omega, by go_num, by rw [show 8 * (k + 1) = 8 * k + 8 from by omega]; exact ho2, hc2⟩
          case measure => simp [intOf]; omega
    · obtain rfl : k = xs.length := by omega
      rw [List.take_length] at ho
      go_wp2
      go_ret
      exact ⟨_, rfl, by rw [bitsB_length]; exact ho, hc⟩

theorem ropen_no (v : Value) (xs : List Nat) (w : World) (h : RdB w v xs) (hm : ¬ Marked xs) (hl : xs.length < 100000000000) :
    Calls Try.prog 35 #[v] w fun e w' => e = .returned (.tuple #[.slice none 0 0, .int .i64 2]) ∧ w = w' := by
  by_cases h0 : xs = []
  · obtain ⟨ao, cap, rfl⟩ : ∃ ao cap, v = .slice ao 0 cap := by
      rcases h with ⟨_, ao, c, rfl⟩ | ⟨g, off, cap, rfl, _⟩
      · exact ⟨ao, c, rfl⟩
      · exact ⟨_, cap, by rw [h0]; rfl⟩
    clear h
    go_enter Try.func35, Try.ntmps35
    go_wp2
    go_ret2
    exact ⟨rfl, rfl⟩
  · have hn : 0 < xs.length := List.length_pos_iff.2 h0
    have hz : xs.getD (xs.length - 1) 0 = 0 := by
      unfold Marked at hm
      exact Decidable.byContradiction fun hc => hm ⟨h0, hc⟩
    rcases h with ⟨h', _⟩ | ⟨g, off, cap, rfl, hc⟩
    · exact absurd h' h0
    obtain ⟨m, hm'⟩ : ∃ m, xs.length = m + 1 := ⟨xs.length - 1, by omega⟩
    have hcell := hc m (by omega)
    rw [hm', Nat.add_sub_cancel] at hz
    rw [hz] at hcell
    rw [hm'] at hl ⊢
    clear hc h0 hm hz
    go_enter Try.func35, Try.ntmps35
    go_wp2
    go_ret2
    exact ⟨rfl, rfl⟩

theorem RdL.kept {S : Nat → Prop} {w w' : World} {v : Value} {g off : Nat} {bs : List Bool} (h : RdL w v g off bs) (hc : Chg S w w') (hS : ¬ S g) : RdL w' v g off bs := by
  obtain ⟨cap, hv, h1, h2, hcell⟩ := h
  refine ⟨cap, hv, h1, h2, fun j hj => ?_⟩
  have := hcell j hj
  have hlt : g < w.heap.size := block_lt_of_cell this
  rw [World.cell?_of_block (w := w) (a := ⟨g, off + j, none⟩) (hc.block g hlt hS)]; exact this

set_option maxHeartbeats 2000000 in
theorem ropen_ok (v : Value) (xs : List Nat) (w : World) (h : RdB w v xs) (hm : Marked xs) (hl : xs.length ≤ 1000000) (hx : ∀ x ∈ xs, x < 256) :
    Calls Try.prog 35 #[v] w fun e w' => ∃ v' g, e = .returned (.tuple #[v', .int .i64 0]) ∧ RdL w' v' g 0 (openB xs) ∧ w.heap.size ≤ g ∧ Chg (fun _ => False) w w' := by
  have H := Lib.hid h; have HX := Lib.hid hx
  rcases h with ⟨h', _⟩ | ⟨g, off, cap, rfl, hc⟩
  · exact absurd h' hm.1
  have hsp := mark_split xs hx hm.1 hm.2
  have hlen := openB_length xs hx hm.1 hm.2
  have hmp := markPos_lt xs hx hm.1 hm.2
  have hnz : xs.getD (xs.length - 1) 0 ≠ 0 := hm.2
  obtain ⟨m, hm'⟩ : ∃ m, xs.length = m + 1 := ⟨xs.length - 1, by omega⟩
  have hml : m < 1000000 := by omega
  have hcell := hc m (by omega)
  rw [hm', Nat.add_sub_cancel] at hnz
  obtain ⟨x, hxm⟩ : ∃ x, xs.getD m 0 = x := ⟨_, rfl⟩
  rw [hxm] at hcell hnz
  have hne : ((x : Int) == 0) = false := by rw [beq_eq_false_iff_ne]; omega
  have hbl : (bitsB xs).length = 8 * (m + 1) := by rw [bitsB_length, hm']
  obtain ⟨M, hM⟩ : ∃ M, markPos xs = M := ⟨_, rfl⟩
  rw [hM, hm'] at hmp hsp
  rw [hM] at hlen
  have hMk : (bitsB xs)[M]? = some true := by rw [hsp, List.getElem?_append_right (by omega), hlen]; simp
  have hMz : ∀ j, M < j → j < 8 * (m + 1) → (bitsB xs)[j]? = some false := by
    intro j h1 h2
    rw [hsp, List.getElem?_append_right (by omega), hlen, show j - M = (j - M - 1) + 1 from by omega, List.getElem?_cons_succ, List.getElem?_replicate, if_pos (by omega)]
  have hop : openB xs = (bitsB xs).take M := by unfold openB; rw [hM]
  have HOP := Lib.hid hop; have HMK := Lib.hid hMk; have HMZ := Lib.hid hMz; have HMP := Lib.hid hmp; have HLEN := Lib.hid hlen; have HBL := Lib.hid hbl; have HM' := Lib.hid hm'
  clear hop hMk hMz hmp hlen hbl hsp hM hx hc hxm
  rw [hm'] at H ⊢
  clear hm' hm
  go_enter Try.func35, Try.ntmps35
  go_wp2_with fail
  refine (rbits_any _ xs w H.out HX.out hl).mono ?_
  rintro e w1 ⟨v1, rfl, ho, hc1⟩
  rw [HBL.out] at ho
  obtain ⟨gl, capl, hv1, hgl⟩ := slice_of_own ho (by omega)
  subst hv1
  have HCAP : Hid (8 * (m + 1) ≤ capl ∧ capl ≤ maxLen) := by
    rcases ho.2 with ⟨hx, _⟩ | ⟨g', cap', cur, hx, _, _, h1, h2, _⟩
    · simp at hx
    · simp only [Value.slice.injEq, Option.some.injEq, Addr.mk.injEq, and_true, true_and] at hx
      obtain ⟨rfl, rfl⟩ := hx
      exact Lib.hid ⟨h1, h2⟩
  have HCELL : Hid (∀ j, j < 8 * (m + 1) → w1.cell? ⟨gl, j, none⟩ = (bl (bitsB xs))[j]?) := Lib.hid (fun j hj => ho.cellAt j (by omega))
  have HBG : Hid (∀ (j : Nat) (b : Bool), (bitsB xs)[j]? = some b → (bl (bitsB xs))[j]? = some (.bool b)) := by
    refine Lib.hid fun j b hb => ?_
    simp [bl, hb]
  clear ho
  have hmp := HMP.out
  go_wp2
  go_loopw [5] (fun o5 wr => ∃ j : Nat, M ≤ j ∧ j < 8 * (m + 1) ∧ o5 = .int .i64 (j : Int) ∧ wr = w1) (fun o5 _ => (intOf o5).toNat)
  case atStart => exact ⟨8 * m + 7, by omega, by omega, by go_num, rfl⟩
  case round =>
    obtain ⟨j, hj, hj8, rfl, rfl⟩ := hrel
    by_cases hjm : j = M
    · subst hjm
      have hce := HCELL.out j hj8
      rw [HBG.out j true HMK.out] at hce
      have hcap := HCAP.out
      have hjc : j ≤ capl := by omega
      go_wp2
      go_ret2
      refine ⟨.slice (some ⟨gl, 0, none⟩) j capl, gl, rfl, ⟨capl, ?_, ?_, hcap.2, ?_⟩, hgl, hc1⟩
      · rw [HLEN.out]
      · rw [HLEN.out]; exact hjc
      · intro q hq
        rw [HLEN.out] at hq
        rw [Nat.zero_add, HCELL.out q (by omega)]
        refine HBG.out q _ ?_
        have e : (openB xs)[q]? = (bitsB xs)[q]? := by rw [HOP.out, List.getElem?_take, if_pos hq]
        rw [← e, List.getElem?_eq_getElem]
    · have hce := HCELL.out j hj8
      rw [HBG.out j false (HMZ.out j (by omega) hj8)] at hce
      go_wp2
      go_roundw
      case rel => exact ⟨j - 1, by omega, by omega, by go_num, trivial⟩
      case measure => simp [intOf]; omega

set_option maxHeartbeats 1000000 in
theorem rtake_no (v : Value) (g off : Nat) (bs : List Bool) (n : Int) (w : World) (h : RdL w v g off bs) (hn : n < 0 ∨ 24 < n ∨ (bs.length : Int) < n) :
    Calls Try.prog 36 #[v, .int .i64 n] w fun e w' => e = .returned (.tuple #[v, .int .u32 0, .bool false]) ∧ w = w' := by
  obtain ⟨cap, rfl, -, -, -⟩ := h
  by_cases h0 : n < 0
  · have h0' : decide (n < 0) = true := by simpa using h0
    go_enter Try.func36, Try.ntmps36
    go_wp2
    go_ret3
    exact ⟨rfl, rfl⟩
  · have h0' : decide (n < 0) = false := by simpa using h0
    by_cases h1 : 24 < n
    · have h1' : decide (24 < n) = true := by simpa using h1
      go_enter Try.func36, Try.ntmps36
      go_wp2
      go_ret3
      exact ⟨rfl, rfl⟩
    · have h1' : decide (24 < n) = false := by simpa using h1
      have h2' : decide ((bs.length : Int) < n) = true := by simp; omega
      go_enter Try.func36, Try.ntmps36
      go_wp2
      go_ret3
      exact ⟨rfl, rfl⟩

theorem takeR_get (bs : List Bool) (n j : Nat) (h : j < (takeR bs n).length) : (takeR bs n)[j] = bs[j]'(by rw [takeR_length] at h; omega) := by
  unfold takeR at h ⊢
  exact List.getElem_take

set_option maxHeartbeats 1000000 in
theorem rtake_yes (v : Value) (g off : Nat) (bs : List Bool) (n : Nat) (w : World) (h : RdL w v g off bs) (hn : n ≤ 24) (hnl : n ≤ bs.length) :
    Calls Try.prog 36 #[v, .int .i64 (n : Int)] w fun e w' => ∃ v', e = .returned (.tuple #[v', .int .u32 ((takeV bs n : Nat) : Int), .bool true]) ∧ RdL w' v' g off (takeR bs n) ∧ Chg (fun _ => False) w w' := by
  obtain ⟨cap, rfl, hcap, hmax, hcell⟩ := h
  obtain ⟨m, hm⟩ : ∃ m, bs.length = m + n := ⟨bs.length - n, by omega⟩
  have h0' : decide ((n : Int) < 0) = false := by simp
  have h1' : decide (24 < (n : Int)) = false := by simp; omega
  have h2' : decide ((bs.length : Int) < (n : Int)) = false := by simp; omega
  have hmc : m ≤ cap := by omega
  have hk : (bs.length : Int) - (n : Int) = (m : Int) := by omega
  have hml : m ≤ bs.length := by omega
  have c0 : (0 : Int) ≤ (m : Int) := by omega
  have c1 : (m : Int) ≤ (cap : Int) := by omega
  have c2 : (m : Int) ≤ (bs.length : Int) := by omega
  have c3 : (m : Int) ≤ 9223372036854775807 := by unfold maxLen at hmax; omega
  have HM := Lib.hid hm; have HCELL := Lib.hid hcell
  clear hm hcell
  by_cases hcm : cap = m
  · have hm2 := HM.out
    obtain rfl : n = 0 := by omega
    obtain rfl : cap = bs.length := by omega
    have HRD : Hid (RdL w (.slice (some ⟨g, off, none⟩) 0 0) g off []) := Lib.hid ⟨0, rfl, Nat.le_refl _, by omega, fun j hj => by simp at hj⟩
    subst hcm
    clear hm2 HM
    go_enter Try.func36, Try.ntmps36
    go_wp2
    go_quiet (first | (go_at_call 62; refine Calls.quiet_of_same (rnumber_any _ g _ [] _ HRD.out (by decide))))
    go_wp2
    go_ret3
    refine ⟨.slice (some ⟨g, off, none⟩) bs.length bs.length, ?_, ⟨bs.length, ?_, ?_, hmax, fun j hj => ?_⟩, (Chg.refl _ _).drewN nq⟩
    · unfold takeV; simp [val]
    · rw [takeR_length]; simp
    · rw [takeR_length]; omega
    · rw [takeR_length] at hj
      have e := HCELL.out j (by omega)
      show w.cell? ⟨g, off + j, none⟩ = _
      rw [e, takeR_get]
  · have hm2 := HM.out
    have hrd : RdL w (.slice (some ⟨g, off + m, none⟩) (bs.length - m) (cap - m)) g (off + m) (bs.drop m) := by
      refine ⟨(cap - m), by simp, by simp; omega, by omega, fun j hj => ?_⟩
      rw [List.length_drop] at hj
      rw [Nat.add_assoc, HCELL.out (m + j) (by omega), List.getElem_drop]
    have HRD := Lib.hid hrd
    clear hrd hm2
    go_enter Try.func36, Try.ntmps36
    go_wp2
    go_quiet (first | (go_at_call 62; refine Calls.quiet_of_same (rnumber_any _ g _ (bs.drop m) _ HRD.out (by rw [List.length_drop]; have := HM.out; omega))))
    go_wp2
    go_ret3
    have hm := HM.out
    refine ⟨.slice (some ⟨g, off, none⟩) m cap, ?_, ⟨cap, ?_, ?_, hmax, fun j hj => ?_⟩, (Chg.refl _ _).drewN nq⟩
    · unfold takeV; rw [show bs.length - n = m from by omega]; rfl
    · rw [takeR_length, show bs.length - n = m from by omega]
    · rw [takeR_length]; omega
    · rw [takeR_length] at hj
      have e := HCELL.out j (by omega)
      show w.cell? ⟨g, off + j, none⟩ = _
      rw [e, takeR_get]

end Go.Proofs.Ytokeoebhmjefoaa

/- What the document's own lanes (puncheonref17) tell: Decode. -/
namespace Go.Proofs.Ytokeoebhmjefoaa
open Go.RowKit

/-- the symbols that are told already, ahead of what is decoded of the rest -/
def preO (o : List Nat) : Except Nat (List Nat × List Bool × (Nat × Nat)) → Except Nat (List Nat × List Bool × (Nat × Nat))
  | .error e => .error e
  | .ok (p, b, s) => .ok (o ++ p, b, s)
theorem preO_nil (r : Except Nat (List Nat × List Bool × (Nat × Nat))) : preO [] r = r := by
  cases r with
  | error e => rfl
  | ok p => rfl
theorem decG_none {T : Nat → Option (List Cl)} {k i c : Nat} {bs : List Bool} {st : Nat × Nat} (h : T c = none) : decG T (k + 1) i c bs st = .error 13 := by
  simp only [decG, h]
theorem decG_short {T : Nat → Option (List Cl)} {k i c : Nat} {bs : List Bool} {st : Nat × Nat} {l : List Cl} {z : Cl} (h : T c = some l) (hz : l.getD (lane i st) cl0 = z) (hb : bs.length < z.Bits.toNat) : decG T (k + 1) i c bs st = .error 3 := by
  simp only [decG, h, hz]
  rw [if_pos hb]
theorem decG_step {T : Nat → Option (List Cl)} {k i c : Nat} {bs : List Bool} {st : Nat × Nat} {l : List Cl} {z : Cl} (o : List Nat) (h : T c = some l) (hz : l.getD (lane i st) cl0 = z) (hb : ¬ bs.length < z.Bits.toNat) :
    preO o (decG T (k + 1) i c bs st) = preO (o ++ [z.Sym]) (decG T k (i + 1) z.Sym (takeR bs z.Bits.toNat) (setLane i st (z.Base + ((takeV bs z.Bits.toNat : Nat) : Int)).toNat)) := by
  simp only [decG, h, hz]
  rw [if_neg hb]
  cases decG T k (i + 1) z.Sym (takeR bs z.Bits.toNat) (setLane i st (z.Base + ((takeV bs z.Bits.toNat : Nat) : Int)).toNat) with
  | error e => rfl
  | ok p =>
    obtain ⟨p, b, s⟩ := p
    simp [preO]

/-- the end: states that aren't 0, bits that are left -/
def finD : Except Nat (List Nat × List Bool × (Nat × Nat)) → Except Nat (List Nat)
  | .error e => .error e
  | .ok (o, b, st) => if st = (0, 0) ∧ b = [] then .ok o else .error 14
theorem lnDec_fin {R : Nat} {T : Nat → Option (List Cl)} {l : List Bool} {n : Nat} (h : ¬ l.length < 2 * R) : lnDec R T l n = finD (decG T n 0 0 (takeR (takeR l R) R) (takeV l R, takeV (takeR l R) R)) := by
  unfold lnDec
  rw [if_neg h]
  cases decG T n 0 0 (takeR (takeR l R) R) (takeV l R, takeV (takeR l R) R) with
  | error e => rfl
  | ok p => rfl

set_option maxRecDepth 100000 in
theorem makeCells : ∃ Z : Array Value, Z.toList = List.replicate 256 (.slice none 0 0) ∧ ∀ W : World, (Instr.makeSlice 73 (.int .i64 256) (.int .i64 256)).run Try.prog W = .ok (.slice (some ⟨W.heap.size, 0, none⟩) 256 256) (W.alloc (.cells Z 62)) := ⟨(List.replicate 256 (.slice none 0 0)).toArray, rfl, fun W => by kernel_rfl⟩

/-- the cells of each context whose list was asked; blocks from B on -/
def CellsAt (wr : World) (G B : Nat) (m : Md) (vs : List Value) : Prop :=
  wr.heap[G]? = some (.cells vs.toArray 62 (0, 0)) ∧ vs.length = 256 ∧ ∀ c, c < 256 → vs.getD c undef = .slice none 0 0 ∨ ∃ (l : List Cl) (g n : Nat), vs.getD c undef = .slice (some ⟨g, 0, none⟩) l.length n ∧ RowC wr g 76 l ∧ IsDtab (fM m c) (RM m) l ∧ m.atL (c : Int) ≠ [] ∧ B ≤ g
theorem CellsAt.kept {S : Nat → Prop} {w w' : World} {G B : Nat} {m : Md} {vs : List Value} (h : CellsAt w G B m vs) (hc : Chg S w w') (hG : ¬ S G) (hS : ∀ g l, B ≤ g → RowC w g 76 l → ¬ S g) : CellsAt w' G B m vs := by
  obtain ⟨h1, h2, h3⟩ := h
  refine ⟨(hc.block G (lt_of_block h1) hG).trans h1, h2, fun c hcl => ?_⟩
  rcases h3 c hcl with h0 | ⟨l, g, n, e1, e2, e3, e4, e5⟩
  · exact .inl h0
  · exact .inr ⟨l, g, n, e1, e2.kept hc (hS g l e5 e2), e3, e4, e5⟩
theorem CellsAt.set {w : World} {G B : Nat} {m : Md} {vs : List Value} (h : CellsAt w G B m vs) (hG : G < B) (c g n : Nat) (l : List Cl) (hc : c < 256) (h1 : RowC w g 76 l) (h2 : IsDtab (fM m c) (RM m) l) (h3 : m.atL (c : Int) ≠ []) (h4 : B ≤ g) :
    CellsAt (w.setCell ⟨G, c, none⟩ (.slice (some ⟨g, 0, none⟩) l.length n)) G B m (vs.set c (.slice (some ⟨g, 0, none⟩) l.length n)) := by
  obtain ⟨e1, e2, e3⟩ := h
  have hch := Chg.setCell w ⟨G, c, none⟩ (.slice (some ⟨g, 0, none⟩) l.length n)
  refine ⟨by rw [heap_setCell_same w G c _ _ _ e1, List.setIfInBounds_toArray], by rw [List.length_set]; exact e2, fun d hd => ?_⟩
  by_cases hdc : d = c
  · subst hdc
    refine .inr ⟨l, g, n, ?_, h1.kept hch (by simp; omega), h2, h3, h4⟩
    rw [List.getD_eq_getElem?_getD, List.getElem?_set_self (by omega)]; rfl
  · have hsame : (vs.set c (.slice (some ⟨g, 0, none⟩) l.length n)).getD d undef = vs.getD d undef := by
      rw [List.getD_eq_getElem?_getD, List.getElem?_set_ne (by omega), ← List.getD_eq_getElem?_getD]
    rw [hsame]
    rcases e3 d hd with h0 | ⟨l', g', n', f1, f2, f3, f4, f5⟩
    · exact .inl h0
    · exact .inr ⟨l', g', n', f1, f2.kept hch (by simp; omega), f3, f4, f5⟩
theorem CellsAt.cell {w : World} {G B : Nat} {m : Md} {vs : List Value} (h : CellsAt w G B m vs) (j : Nat) (hj : j < 256) : w.cell? ⟨G, j, none⟩ = some (vs.getD j undef) := by
  have hl : j < vs.length := by rw [h.2.1]; exact hj
  rw [cell_of_row w G j _ _ _ h.1, List.getElem?_toArray, List.getElem?_eq_getElem hl, List.getD_eq_getElem?_getD, List.getElem?_eq_getElem hl]; rfl
/-- two states in a row -/
def RowX (w : World) (g a b : Nat) : Prop := w.heap[g]? = some (.cells #[.int .i64 (a : Int), .int .i64 (b : Int)] 3 (0, 0))
theorem RowX.kept {S : Nat → Prop} {w w' : World} {g a b : Nat} (h : RowX w g a b) (hc : Chg S w w') (hS : ¬ S g) : RowX w' g a b := (hc.block g (lt_of_block h) hS).trans h
theorem RowX.cells {w : World} {g a b : Nat} (h : RowX w g a b) : w.cell? ⟨g, 0, none⟩ = some (.int .i64 (a : Int)) ∧ w.cell? ⟨g, 1, none⟩ = some (.int .i64 (b : Int)) :=
  ⟨by rw [cell_of_row w g 0 _ _ _ h]; rfl, by rw [cell_of_row w g 1 _ _ _ h]; rfl⟩
/-- the memory while it is decoded: bits, symbols, states, cells, the model -/
structure DecS (w wr : World) (gl X G B : Nat) (m : Md) (cv : Value) (bs : List Bool) (c9 : Nat) (out : Value) (o : List Nat) (x0 x1 : Nat) (vs : List Value) : Prop where
  bits : RdL wr (.slice (some ⟨gl, 0, none⟩) bs.length c9) gl 0 bs
  own : wr.ownsRow B 5 1 out o.length (bv o)
  row : RowX wr X x0 x1
  cells : CellsAt wr G B m vs
  mb : Mb wr w.heap.size m.log m.one cv
  chg : Chg (fun _ => False) w wr
  up : B ≤ wr.heap.size
theorem own_ge {w : World} {base : Nat} {e : TypeId} {v : Value} {n k : Nat} {xs : List Value} (h : w.ownsRow base e 1 v n xs) (hk : v.ownBlock = some k) : base ≤ k ∧ ∃ cur, w.heap[k]? = some (.cells cur e (0, 0)) := by
  rcases h.2 with ⟨rfl, _⟩ | ⟨g, cap, cur, rfl, h1, h2, _⟩
  · simp [Value.ownBlock] at hk
  · simp only [Value.ownBlock, Option.some.injEq] at hk
    subst hk
    exact ⟨h1, cur, h2⟩
theorem DecS.still {w wr wq : World} {gl X G B : Nat} {m : Md} {cv : Value} {bs : List Bool} {c9 : Nat} {out : Value} {o : List Nat} {x0 x1 : Nat} {vs : List Value} (h : DecS w wr gl X G B m cv bs c9 out o x0 x1 vs) (hc : Chg (fun _ => False) wr wq) : DecS w wq gl X G B m cv bs c9 out o x0 x1 vs :=
  ⟨h.bits.kept hc (by simp), hc.own h.own (by simp), h.row.kept hc (by simp), h.cells.kept hc (by simp) (by simp), h.mb.kept hc (by simp), h.chg.trans hc fun _ _ h => h, Nat.le_trans h.up hc.size⟩
theorem DecS.put {w wr : World} {gl X : Nat} {m : Md} {cv : Value} {bs : List Bool} {c9 : Nat} {out : Value} {o : List Nat} {x0 x1 : Nat} {vs : List Value} (h : DecS w wr gl X (X + 1) (X + 2) m cv bs c9 out o x0 x1 vs) (hw : w.heap.size < X) (hg : gl < X)
    (c g n : Nat) (l : List Cl) (hc : c < 256) (h1 : RowC wr g 76 l) (h2 : IsDtab (fM m c) (RM m) l) (h3 : m.atL (c : Int) ≠ []) (h4 : X + 2 ≤ g) :
    DecS w (wr.setCell ⟨X + 1, c, none⟩ (.slice (some ⟨g, 0, none⟩) l.length n)) gl X (X + 1) (X + 2) m cv bs c9 out o x0 x1 (vs.set c (.slice (some ⟨g, 0, none⟩) l.length n)) := by
  have hch := Chg.setCell wr ⟨X + 1, c, none⟩ (.slice (some ⟨g, 0, none⟩) l.length n)
  refine ⟨h.bits.kept hch (by simp; omega), hch.own h.own (fun k hk he => ?_), h.row.kept hch (by simp), h.cells.set (by omega) c g n l hc h1 h2 h3 h4, h.mb.kept hch (by simp; omega), h.chg.trans hch fun q hq he => by simp at he; omega, Nat.le_trans h.up hch.size⟩
  have := (own_ge h.own hk).1
  simp at he
  omega
theorem RowX.set {w : World} {g a b : Nat} (h : RowX w g a b) (k y : Nat) : RowX (w.setCell ⟨g, k % 2, none⟩ (.int .i64 (y : Int))) g (setLane k (a, b) y).1 (setLane k (a, b) y).2 := by
  unfold RowX setLane
  rcases (show k % 2 = 1 ∨ k % 2 = 0 by omega) with hp | hp
  · rw [if_pos hp, hp, heap_setCell_same w g 1 _ _ _ h]; rfl
  · rw [if_neg (by omega), hp, heap_setCell_same w g 0 _ _ _ h]; rfl
theorem DecS.step {w wc w9 wz : World} {gl X : Nat} {m : Md} {cv : Value} {bs bs' : List Bool} {c9 c' : Nat} {out out' : Value} {o : List Nat} {x0 x1 : Nat} {vs : List Value} {ob : Obj} (h : DecS w wc gl X (X + 1) (X + 2) m cv bs c9 out o x0 x1 vs) (hw : w.heap.size < X) (hg : gl < X)
    (hc : Chg (fun _ => False) wc w9) (hb : RdL w9 (.slice (some ⟨gl, 0, none⟩) bs'.length c') gl 0 bs') (k y s : Nat) (hown : wz.ownsRow (X + 2) 5 1 out' (o ++ [s]).length (bv (o ++ [s])))
    (happ : Chg (fun k => some k = out.ownBlock) ((w9.setCell ⟨X, k % 2, none⟩ (.int .i64 (y : Int))).alloc ob) wz) :
    DecS w wz gl X (X + 1) (X + 2) m cv bs' c' out' (o ++ [s]) (setLane k (x0, x1) y).1 (setLane k (x0, x1) y).2 vs := by
  have h9 := h.still hc
  have h1 := Chg.setCell w9 ⟨X, k % 2, none⟩ (.int .i64 (y : Int))
  have h2 := Chg.alloc (fun _ => False) (w9.setCell ⟨X, k % 2, none⟩ (.int .i64 (y : Int))) ob
  have h12 := h1.trans h2 fun _ _ h => h.elim
  have hout : ∀ k, some k = out.ownBlock → X + 2 ≤ k ∧ ∃ cur, w9.heap[k]? = some (.cells cur 5 (0, 0)) := fun k hk => own_ge h9.own hk.symm
  have hch := (h12.mono (T := fun k => k = X ∨ some k = out.ownBlock) fun k _ hk => .inl hk).trans happ fun k _ hk => .inr hk
  refine ⟨hb.kept hch fun hh => ?_, hown, ?_, h9.cells.kept hch (fun hh => ?_) (fun g l hgB hr hh => ?_), h9.mb.kept hch fun hh => ?_, h9.chg.trans hch fun q hq hh => ?_, Nat.le_trans h9.up hch.size⟩
  · rcases hh with hh | hh
    · omega
    · have := (hout _ hh).1; omega
  · refine ((h9.row.set k y).kept h2 (by simp)).kept happ fun hh => ?_
    have := (hout _ hh).1; omega
  · rcases hh with hh | hh
    · omega
    · have := (hout _ hh).1; omega
  · rcases hh with hh | hh
    · omega
    · obtain ⟨_, cur, hcur⟩ := hout _ hh
      unfold RowC at hr
      rw [hr] at hcur
      simp at hcur
  · rcases hh with hh | hh
    · omega
    · have := (hout _ hh).1; omega
  · rcases hh with hh | hh
    · omega
    · have := (hout _ hh).1; omega
/-- what is decoded so far -/
structure DecP (m : Md) (K : Nat) (bs0 : List Bool) (st0 : Nat × Nat) (k last : Nat) (bs : List Bool) (o : List Nat) (x0 x1 : Nat) : Prop where
  lastLt : last < 256
  lt0 : x0 < 2 ^ RM m
  lt1 : x1 < 2 ^ RM m
  len : o.length = k
  sym : ∀ y ∈ o, y < 256
  rest : decG (tabM m) K 0 0 bs0 st0 = preO o (decG (tabM m) (K - k) k last bs (x0, x1))
theorem DecP.step {m : Md} {K : Nat} {bs0 : List Bool} {st0 : Nat × Nat} {k last : Nat} {bs : List Bool} {o : List Nat} {x0 x1 : Nat} (h : DecP m K bs0 st0 k last bs o x0 x1) (hk : k < K) {l : List Cl} {s b : Nat} {Ba : Int} (ht : tabM m last = some l) (hz : l.getD (lane k (x0, x1)) cl0 = ⟨s, (b : Int), Ba⟩) (hs : s < 256) (hb : ¬ bs.length < b) {y : Nat} (hy : Ba + ((takeV bs b : Nat) : Int) = (y : Int)) (hy2 : y < 2 ^ RM m) :
    DecP m K bs0 st0 (k + 1) s (takeR bs b) (o ++ [s]) (setLane k (x0, x1) y).1 (setLane k (x0, x1) y).2 := by
  have hst := set_lt (i := k) (st := (x0, x1)) (N := 2 ^ RM m) ⟨h.lt0, h.lt1⟩ hy2
  refine ⟨hs, hst.1, hst.2, by rw [List.length_append, h.len]; rfl, fun z hz => ?_, ?_⟩
  · rcases List.mem_append.1 hz with h1 | h1
    · exact h.sym z h1
    · rw [List.mem_singleton] at h1; omega
  · rw [h.rest, show K - k = (K - (k + 1)) + 1 by omega, decG_step o ht hz (by simpa using hb)]
    simp only [Int.toNat_natCast, hy]
theorem DecP.short {m : Md} {K : Nat} {bs0 : List Bool} {st0 : Nat × Nat} {k last : Nat} {bs : List Bool} {o : List Nat} {x0 x1 : Nat} (h : DecP m K bs0 st0 k last bs o x0 x1) (hk : k < K) {l : List Cl} {s b : Nat} {Ba : Int} (ht : tabM m last = some l) (hz : l.getD (lane k (x0, x1)) cl0 = ⟨s, (b : Int), Ba⟩) (hb : bs.length < b) :
    finD (decG (tabM m) K 0 0 bs0 st0) = .error 3 := by
  rw [h.rest, show K - k = (K - (k + 1)) + 1 by omega, decG_short ht hz (by simpa using hb)]
  rfl
theorem DecP.fin {m : Md} {K : Nat} {bs0 : List Bool} {st0 : Nat × Nat} {last : Nat} {bs : List Bool} {o : List Nat} {x0 x1 : Nat} (h : DecP m K bs0 st0 K last bs o x0 x1) : finD (decG (tabM m) K 0 0 bs0 st0) = if x0 = 0 ∧ x1 = 0 ∧ bs = [] then .ok o else .error 14 := by
  rw [h.rest, Nat.sub_self]
  simp only [decG, preO, finD, List.append_nil, Prod.mk.injEq, and_assoc]

end Go.Proofs.Ytokeoebhmjefoaa

/- What putStates and takeStates tell: both states as bits. THIS SPEAKS OF THE PROGRAM'S OWN TEXT. -/
namespace Go.Proofs.Ytokeoebhmjefoaa
open Go.RowKit

set_option maxRecDepth 100000 in
set_option maxHeartbeats 1000000 in
theorem lputst_any (b : Nat) (o : Option Nat) (bs : List Bool) (R x0 x1 : Nat) (w : World) (h : Wr w b o bs) (hlen : bs.length < 800000000) (hR : R ≤ 12) (h0 : x0 < 2 ^ R) (h1 : x1 < 2 ^ R) :
    Calls Try.prog 43 #[.pointer (some ⟨b, 0, none⟩), .int .i64 (R : Int), .agg #[.int .i64 (x0 : Int), .int .i64 (x1 : Int)]] w fun e w' => (∃ v, e = .returned v) ∧ ∃ o', Wr w' b o' (payB R bs (x0, x1)) ∧ Chg (fun k => k = b ∨ some k = o) w w' := by
  have h2 := pow12 (k := R) hR
  have hx0 : (x0 : Int) < 4096 := by omega
  have hx1 : (x1 : Int) < 4096 := by omega
  have ca := Chg.alloc (fun _ => False) w (.cells #[.int .i64 (x0 : Int), .int .i64 (x1 : Int)] 58)
  have hst : Stt (w.alloc (.cells #[.int .i64 (x0 : Int), .int .i64 (x1 : Int)] 58)) w.heap.size x0 x1 := heap_alloc_new w _
  have hwa := h.kept ca (by simp) (by simp)
  have hbl := h.lt
  obtain ⟨W, hW⟩ : ∃ W, w.alloc (.cells #[.int .i64 (x0 : Int), .int .i64 (x1 : Int)] 58) = W := ⟨_, rfl⟩
  rw [hW] at ca hst hwa
  have HPUT := Lib.hid (put_in b o bs (x1 : Int) (R : Int) W hwa (by omega) (by omega) (by omega) (by omega) (by omega))
  have HW := Lib.hid hW; have HST := Lib.hid hst; have CA := Lib.hid ca; have HBL := Lib.hid hbl; have HLEN := Lib.hid hlen
  clear h hwa hbl h0 h1 h2 hst ca hW hlen
  go_enter Try.func43, Try.ntmps43
  go_upto_region 1 with fail
  rw [HW.out]
  obtain ⟨q0, q1⟩ := HST.out.cells
  go_wp2_with fail
  refine HPUT.out.mono ?_
  rintro e W2 ⟨rfl, o2, hw2, c2, ho2⟩
  rw [Int.toNat_natCast, Int.toNat_natCast] at hw2
  have hg : ¬ (w.heap.size = b ∨ some w.heap.size = o) := fun hh => by
    rcases hh with hh | hh
    · have := HBL.out.1; omega
    · have := (HBL.out.2 _ hh.symm).2; omega
  have hst2 := HST.out.kept c2 hg
  obtain ⟨r0, r1⟩ := hst2.cells
  have HPUT2 := Lib.hid (put_in b o2 (bs ++ bitsOf x1 R) (x0 : Int) (R : Int) W2 hw2 (by have := HLEN.out; rw [List.length_append, bitsOf_length]; omega) (by omega) (by omega) (by omega) (by omega))
  have C2 := Lib.hid c2; have HO2 := Lib.hid ho2
  clear hw2 c2 ho2 hst2 hg q0 q1 HPUT
  go_wp2_with fail
  refine HPUT2.out.mono ?_
  rintro e W3 ⟨rfl, o3, hw3, c3, ho3⟩
  rw [Int.toNat_natCast, Int.toNat_natCast] at hw3
  have HW3 := Lib.hid hw3
  have c23 : Chg (fun k => k = b ∨ some k = o) w W3 := (CA.out.mono fun _ _ h => h.elim).trans (C2.out.trans c3 fun k hk hh => by
    rcases hh with hh | hh
    · exact .inl hh
    · rcases HO2.out with e1 | ⟨q, e1, e2⟩
      · rw [e1] at hh; exact .inr hh
      · rw [e1] at hh; injection hh with hh; omega) fun _ _ h => h
  have C23 := Lib.hid c23
  clear hw3 c3 ho3 c23 HPUT2 r0 r1
  go_wp2
  go_end0
  exact ⟨⟨_, rfl⟩, o3, HW3.out, C23.out⟩

end Go.Proofs.Ytokeoebhmjefoaa

/- What model's Right tells: every list is asked by a method value. THIS SPEAKS OF THE PROGRAM'S OWN TEXT (and of slices.IndexFunc and slices.ContainsFunc over lists). -/
namespace Go.Proofs.Ytokeoebhmjefoaa
open Go.RowKit

theorem totalI_nil : totalI [] = 0 := by unfold totalI; rw [if_neg (fun h => by have := h.1; simp at this)]
theorem logI_zero : logI 0 = 0 := logI_none fun r _ _ he => by have := Nat.two_pow_pos r; omega

/-- a block of two fields: a number, and whether -/
def Kd (w : World) (g : Nat) (log : Int) (one : Bool) : Prop := w.heap[g]? = some (.cells #[.int .i64 log, .bool one] 94 (0, 0))
theorem Kd.made (w : World) (log : Int) (one : Bool) : Kd (w.alloc (.cells #[.int .i64 log, .bool one] 94)) w.heap.size log one := heap_alloc_new w _
theorem Kd.kept {S : Nat → Prop} {w w' : World} {g : Nat} {log : Int} {one : Bool} (h : Kd w g log one) (hc : Chg S w w') (hS : ¬ S g) : Kd w' g log one := (hc.block g (lt_of_block h) hS).trans h
theorem Kd.cells {w : World} {g : Nat} {log : Int} {one : Bool} (h : Kd w g log one) : w.cell? ⟨g, 0, none⟩ = some (.int .i64 log) ∧ w.cell? ⟨g, 1, none⟩ = some (.bool one) :=
  ⟨by rw [cell_of_row _ _ 0 _ _ _ h]; rfl, by rw [cell_of_row _ _ 1 _ _ _ h]; rfl⟩

set_option maxRecDepth 100000 in
theorem mbroken_any (log : Int) (one : Bool) (u : Value) (l : List Int) (w : World) (h : RdI w u l) (hb : ∀ z ∈ l, -9223372036854775808 ≤ z ∧ z ≤ 9223372036854775807) (hl : l.length < 100000000000) (h1 : 1 ≤ log) (h2 : log ≤ 12) :
    Calls Try.prog 52 #[.agg #[.int .i64 log, .bool (!one)], u] w fun e w' => e = .returned (.bool (decide (¬ okL log one l))) ∧ Chg (fun _ => False) w w' := by
  obtain ⟨ao, cap, rfl⟩ := h.form
  have hk := Kd.made w log (!one)
  have hc := Chg.alloc (fun _ => False) w (.cells #[.int .i64 log, .bool (!one)] 94)
  have hR := nright_any (.slice ao l.length cap) l log _ (h.kept hc (by simp)) hb hl (by omega)
  obtain ⟨may, hmay⟩ : ∃ may, (!one) = may := ⟨_, rfl⟩
  rw [hmay] at hk hc hR ⊢
  obtain ⟨W, hW⟩ : ∃ W, w.alloc (.cells #[.int .i64 log, .bool may] 94) = W := ⟨_, rfl⟩
  rw [hW] at hk hc hR
  obtain ⟨c0, c1⟩ := hk.cells
  have HC := Lib.hid hc; have HR := Lib.hid hR
  by_cases h0 : l = []
  · have hlg : logI (totalI l) = 0 := by rw [h0, totalI_nil, logI_zero]
    have hv : decide (¬ okL log one l) = !may := by
      have hi : okL log one l ↔ one = false := by
        unfold okL
        constructor
        · rintro (h3 | h3)
          · exact h3.2
          · omega
        · exact fun h3 => .inl ⟨h0, h3⟩
      rw [← hmay, Bool.not_not]
      cases one with
      | true => exact decide_eq_true (fun h3 => by simpa using hi.1 h3)
      | false => exact decide_eq_false (fun h3 => h3 (hi.2 rfl))
    rw [hv]
    have hlen : l.length = 0 := by rw [h0]; rfl
    rw [hlen]
    clear hk hc hR h hb hl hv hlg hlen h0 hmay
    go_enter Try.func52, Try.ntmps52
    go_wp2
    go_ret
    exact ⟨rfl, HC.out⟩
  · have hv : decide (¬ okL log one l) = !(decide (0 < logI (totalI l) ∧ ((logI (totalI l) : Nat) : Int) = log)) := by
      rw [← decide_not]
      refine decide_eq_decide.2 (not_congr ?_)
      unfold okL
      constructor
      · rintro (⟨h3, _⟩ | h3)
        · exact absurd h3 h0
        · exact ⟨by omega, h3⟩
      · exact fun h3 => .inr h3.2
    rw [hv]
    have hpos : 0 < l.length := List.length_pos_iff.2 h0
    obtain ⟨n, hn⟩ : ∃ n, l.length = n := ⟨_, rfl⟩
    rw [hn] at hpos HR ⊢
    obtain ⟨D, hD⟩ : ∃ D, decide (0 < logI (totalI l) ∧ ((logI (totalI l) : Nat) : Int) = log) = D := ⟨_, rfl⟩
    rw [hD] at HR ⊢
    have hne : ((n : Int) == 0) = false := by simp; omega
    have hn0 : ¬ n = 0 := by omega
    clear hk hc hR h hb hl hv h0 hn hD hmay
    go_enter Try.func52, Try.ntmps52
    go_wp2_with fail
    refine HR.out.mono ?_
    rintro e w1 ⟨rfl, hc1⟩
    have C1 := Lib.hid (HC.out.trans hc1 fun _ _ h => h)
    clear hc1
    go_wp2
    go_ret
    exact ⟨rfl, C1.out⟩

theorem mlistsN_any (one : Bool) (w : World) : Calls Try.prog 50 #[.bool one] w fun e w' => e = .returned (.int .i64 (if one then 1 else 256)) ∧ w' = w := by
  cases one with
  | true =>
    go_enter Try.func50, Try.ntmps50
    go_wp2
    go_ret
    exact ⟨rfl, rfl⟩
  | false =>
    go_enter Try.func50, Try.ntmps50
    go_wp2
    go_ret
    exact ⟨rfl, rfl⟩
theorem Try.entersBr (args : Array Value) (w : World) : (callFunc 52 args).run Try.prog w = .ok (.enter 52 args) w := by kernel_rfl

/-- the first list of which it is so, asked of each by a function that is handed in -/
def FirstOf (L : List (List Int)) (P : List Int → Prop) (r : Int) : Prop := (r = -1 ∧ ∀ j, j < L.length → ¬ P (L.getD j [])) ∨ ∃ k : Nat, r = (k : Int) ∧ k < L.length ∧ P (L.getD k [])

set_option maxRecDepth 20000 in
set_option maxHeartbeats 1000000 in
theorem mindex_any (m1 : Nat) (first : Value) (P : List Int → Prop) [DecidablePred P] (v : Value) (L : List (List Int)) (w : World) (h : RdLL w v L) (hl : L.length < 100000000000)
    (hm1 : ∀ args W, (callFunc m1 args).run Try.prog W = .ok (.enter m1 args) W)
    (hc : ∀ W u j, Chg (fun _ => False) w W → j < L.length → RdI W u (L.getD j []) → Calls Try.prog m1 #[first, u] W fun e W' => e = .returned (.bool (decide (P (L.getD j [])))) ∧ Chg (fun _ => False) W W') :
    Calls Try.prog 78 #[v, .func (.func m1) #[first] #[]] w fun e w' => ∃ r, e = .returned (.int .i64 r) ∧ FirstOf L P r ∧ Chg (fun _ => False) w w' := by
  obtain ⟨ao, cap, rfl⟩ := h.form
  have H := Lib.hid h; have HC := Lib.hid hc
  obtain ⟨n, hn⟩ : ∃ n, L.length = n := ⟨_, rfl⟩
  have HN := Lib.hid hn
  rw [hn] at hl ⊢
  have hlI : (n : Int) < 100000000000 := by omega
  clear h hc hn
  go_enter Try.func78, Try.ntmps78
  go_wp2
  go_loopw [4, 5, 8] (fun _ _ o8 wr => ∃ k : Nat, k ≤ n ∧ o8 = .int .i64 (k : Int) ∧ (∀ j, j < k → ¬ P (L.getD j [])) ∧ Chg (fun _ => False) w wr) (fun _ _ o8 _ => n - (intOf o8).toNat)
  case atStart => exact ⟨0, Nat.zero_le _, rfl, fun j hj => by omega, Chg.refl _ _⟩
  case round =>
    obtain ⟨k, hk, rfl, hno, hcg⟩ := hrel
    have NO := Lib.hid hno; have CG := Lib.hid hcg
    clear hno
    by_cases hkn : k < n
    · obtain ⟨g, off, u, rfl, hu1, hu2⟩ := (H.out.kept hcg).at k (by rw [HN.out]; exact hkn)
      have CL := Lib.hid (HC.out wr u k hcg (by rw [HN.out]; exact hkn) hu2)
      have hki : (k : Int) < (n : Int) := by omega
      clear hcg hu2
      go_wp2_with fail
      refine (CL.out).mono ?_
      rintro e w1 ⟨rfl, hc1⟩
      have C1 := Lib.hid (CG.out.trans hc1 fun _ _ h => h)
      clear hc1
      by_cases hp : P (L.getD k [])
      · rw [decide_eq_true hp]
        have HP := Lib.hid hp
        clear hp
        go_wp2
        go_ret
        exact ⟨_, rfl, .inr ⟨k, rfl, by rw [HN.out]; exact hkn, HP.out⟩, C1.out⟩
      · rw [decide_eq_false hp]
        have HP := Lib.hid hp
        clear hp
        go_wp2
        go_roundw
        case rel => exact ⟨k + 1, by omega, by go_num, fun j hj => by
          by_cases hjk : j = k
          · rw [hjk]; exact HP.out
          · exact NO.out j (by omega), C1.out⟩
        case measure => simp [intOf]; omega
    · obtain rfl : k = n := by omega
      clear hcg
      go_wp2
      go_ret
      exact ⟨_, rfl, .inl ⟨rfl, fun j hj => NO.out j (by rw [HN.out] at hj; exact hj)⟩, CG.out⟩

theorem mcontains_any (m1 : Nat) (first : Value) (P : List Int → Prop) [DecidablePred P] (v : Value) (L : List (List Int)) (w : World) (h : RdLL w v L) (hl : L.length < 100000000000)
    (hm1 : ∀ args W, (callFunc m1 args).run Try.prog W = .ok (.enter m1 args) W)
    (hc : ∀ W u j, Chg (fun _ => False) w W → j < L.length → RdI W u (L.getD j []) → Calls Try.prog m1 #[first, u] W fun e W' => e = .returned (.bool (decide (P (L.getD j [])))) ∧ Chg (fun _ => False) W W') :
    Calls Try.prog 51 #[v, .func (.func m1) #[first] #[]] w fun e w' => e = .returned (.bool (decide (∃ j, j < L.length ∧ P (L.getD j [])))) ∧ Chg (fun _ => False) w w' := by
  have IX := Lib.hid (mindex_any m1 first P v L w h hl hm1 hc)
  clear h hl hm1 hc
  go_enter Try.func51, Try.ntmps51
  go_wp2_with fail
  refine (IX.out).mono ?_
  rintro e w1 ⟨r, rfl, hr, hc1⟩
  have hv : decide (0 ≤ r) = decide (∃ j, j < L.length ∧ P (L.getD j [])) := by
    refine decide_eq_decide.2 ⟨fun h => ?_, fun ⟨j, h1, h2⟩ => ?_⟩
    · rcases hr with ⟨rfl, _⟩ | ⟨k, _, h1, h2⟩
      · omega
      · exact ⟨k, h1, h2⟩
    · rcases hr with ⟨_, h3⟩ | ⟨k, rfl, _⟩
      · exact absurd h2 (h3 j h1)
      · omega
  have C1 := Lib.hid hc1; have HV := Lib.hid hv
  clear hc1 hv hr
  go_wp2
  go_ret
  exact ⟨by rw [← HV.out]; rfl, C1.out⟩

set_option maxRecDepth 100000 in
set_option maxHeartbeats 2000000 in
theorem mright_any (v : Value) (m : Md) (w : World) (h : RdM w v m) (hf : m.fit64) : Calls Try.prog 28 #[v] w fun e w' => e = .returned (.bool (decide m.right)) ∧ Chg (fun _ => False) w w' := by
  obtain ⟨cv, rfl, hl⟩ := h
  obtain ⟨ao, cap, rfl⟩ := hl.form
  unfold mdv
  have hca := Chg.alloc (fun _ => False) w (.cells #[.int .i64 m.log, .bool m.one, .slice ao m.cs.length cap] 24)
  have hmb : Mb _ _ m.log m.one (.slice ao m.cs.length cap) := heap_alloc_new w (.cells #[.int .i64 m.log, .bool m.one, .slice ao m.cs.length cap] 24)
  have hl1 := hl.kept hca
  have HFA := Lib.hid hf.at
  obtain ⟨⟨hlo, hhi⟩, hlen, -⟩ := hf
  obtain ⟨D, hD⟩ : ∃ D, decide m.right = D := ⟨_, rfl⟩
  rw [hD]
  have HD := Lib.hid hD
  have HLS := Lib.hid (mlistsN_any m.one)
  obtain ⟨log, one, cs⟩ := m
  simp only [] at *
  obtain ⟨n, hn⟩ : ∃ n, cs.length = n := ⟨_, rfl⟩
  have HN := Lib.hid hn
  rw [hn] at hca hmb hl1 hlen ⊢
  obtain ⟨W1, hW1⟩ : ∃ W, w.alloc (.cells #[.int .i64 log, .bool one, .slice ao n cap] 24) = W := ⟨_, rfl⟩
  rw [hW1] at hca hmb hl1
  obtain ⟨b0, b1, b2⟩ := hmb.cells
  have HCA := Lib.hid hca
  by_cases g1 : log < 1
  · have hv : D = false := by rw [← HD.out]; exact decide_eq_false fun hh => by have := hh.1; simp only [] at this; omega
    subst hv
    have d1 : decide (log < 1) = true := decide_eq_true g1
    clear hl hmb hl1 hD hn hca
    go_enter Try.func28, Try.ntmps28
    go_wp2
    go_quiet (fail)
    go_wp2
    go_ret
    exact ⟨rfl, HCA.out.drewN _⟩
  have d1 : decide (log < 1) = false := decide_eq_false g1
  by_cases g2 : 12 < log
  · have hv : D = false := by rw [← HD.out]; exact decide_eq_false fun hh => by have := hh.1; simp only [] at this; omega
    subst hv
    have d2 : decide (12 < log) = true := decide_eq_true g2
    clear hl hmb hl1 hD hn hca
    go_enter Try.func28, Try.ntmps28
    go_wp2
    go_quiet (fail)
    go_wp2
    go_ret
    exact ⟨rfl, HCA.out.drewN _⟩
  have d2 : decide (12 < log) = false := decide_eq_false g2
  obtain ⟨NL, hNL⟩ : ∃ NL : Nat, NL = (if one then 1 else 256) := ⟨_, rfl⟩
  have hli : (if one = true then (1 : Int) else 256) = (NL : Int) := by rw [hNL]; split <;> rfl
  rw [hli] at HLS
  have hnl : NL ≤ 256 := by rw [hNL]; split <;> omega
  have HNL := Lib.hid hNL
  clear hNL hli
  by_cases g3 : n = NL
  · subst g3
    have e1 : ((n : Int) == (n : Int)) = true := by simp
    have HBI := Lib.hid (fun W2 (hW2 : Chg (fun _ => False) W1 W2) => mcontains_any 52 (.agg #[.int .i64 log, .bool (!one)]) (fun l => ¬ okL log one l) (.slice ao cs.length cap) cs W2 (by rw [HN.out]; exact hl1.kept hW2) (by rw [HN.out]; omega) Try.entersBr
      fun W u j _ hj hu => mbroken_any log one u _ W hu (HFA.out j hj).2 (HFA.out j hj).1 (by omega) (by omega))
    have hv : D = !(decide (∃ j, j < cs.length ∧ ¬ okL log one (cs.getD j []))) := by
      rw [← HD.out, ← decide_not]
      refine decide_eq_decide.2 ⟨fun hh => ?_, fun hh => ?_⟩
      · rintro ⟨j, hj, hk⟩
        exact hk (hh.at j hj)
      · refine ⟨by simp only []; omega, by simp only []; rw [HN.out, HNL.out], right_take (k := cs.length) (fun j hj => ?_) rfl⟩
        exact Decidable.byContradiction fun hk => hh ⟨j, hj, hk⟩
    obtain ⟨X, hX⟩ : ∃ X, decide (∃ j, j < cs.length ∧ ¬ okL log one (cs.getD j [])) = X := ⟨_, rfl⟩
    rw [hX] at hv HBI
    rw [HN.out] at HBI
    subst hv
    have HMB := Lib.hid hmb
    clear hl hmb hl1 hD hn hca hX
    go_enter Try.func28, Try.ntmps28
    go_wp2
    go_quiet (first | (go_at_call 50; with_reducible exact Calls.quiet_of_same (HLS.out _)))
    obtain ⟨W2, hW2⟩ : ∃ W2, W1.drewN nq = W2 := ⟨_, rfl⟩
    have hc2 : Chg (fun _ => False) W1 W2 := by rw [← hW2]; exact (Chg.refl _ _).drewN _
    rw [hW2]
    have hmb2 := HMB.out.kept hc2 (by simp)
    obtain ⟨x0, x1, x2⟩ := hmb2.cells
    have hk := Kd.made W2 log (!one)
    have hc3 := Chg.alloc (fun _ => False) W2 (.cells #[.int .i64 log, .bool (!one)] 94)
    have hmb3 := hmb2.kept hc3 (by simp)
    obtain ⟨W3, hW3⟩ : ∃ W3, W2.alloc (.cells #[.int .i64 log, .bool (!one)] 94) = W3 := ⟨_, rfl⟩
    rw [hW3] at hk hc3 hmb3
    obtain ⟨k0, k1⟩ := hk.cells
    obtain ⟨y0, y1, y2⟩ := hmb3.cells
    have HBW := Lib.hid (HBI.out W3 (hc2.trans hc3 fun _ _ h => h))
    have HC3 := Lib.hid ((HCA.out.trans hc2 fun _ _ h => h).trans hc3 fun _ _ h => h)
    clear hk hc3 hmb3 hmb2 hc2 hW2 b0 b1 b2 hW1
    go_wp2_with fail
    with_reducible refine Calls.mono HBW.out ?_
    rintro e w5 ⟨rfl, hc5⟩
    have C5 := Lib.hid (HC3.out.trans hc5 fun _ _ h => h)
    clear hc5
    go_wp2
    go_ret
    exact ⟨rfl, C5.out⟩
  · have hv : D = false := by
      rw [← HD.out]
      refine decide_eq_false fun hh => g3 ?_
      have := hh.2.1
      simp only [] at this
      rw [← HN.out, this, HNL.out]
    subst hv
    have e1 : ((n : Int) == (NL : Int)) = false := by simp; omega
    have g4 : ¬ (n : Int) = (NL : Int) := by omega
    clear hl hmb hl1 hD hn hca
    go_enter Try.func28, Try.ntmps28
    go_wp2
    go_quiet (first | (go_at_call 50; with_reducible exact Calls.quiet_of_same (HLS.out _)))
    go_wp2
    go_ret
    exact ⟨rfl, HCA.out.drewN _⟩

end Go.Proofs.Ytokeoebhmjefoaa

/- What model's At and Fits tell. THIS SPEAKS OF THE PROGRAM'S OWN TEXT (and of slices.Clone of ints). -/
namespace Go.Proofs.Ytokeoebhmjefoaa
open Go.RowKit

theorem eqlNilI (w : World) (a : Addr) (n cap : Nat) : (binOp .eql 41 (.slice (some a) n cap) (.slice none 0 0)).run Try.prog w = .ok (.bool false) w := by kernel_rfl
theorem eqlNilI0 (w : World) (n cap : Nat) : (binOp .eql 41 (.slice none n cap) (.slice none 0 0)).run Try.prog w = .ok (.bool true) w := by kernel_rfl

set_option maxHeartbeats 1000000 in
theorem mlist_any (log : Int) (one : Bool) (ao : Option Addr) (n cap : Nat) (cs : List (List Int)) (c : Nat) (w : World) (h : RdLL w (.slice ao n cap) cs) (hn : n = (if one then 1 else 256)) (hcn : cs.length = n) (hc : c < 256) :
    Calls Try.prog 71 #[.agg #[.int .i64 log, .bool one, .slice ao n cap], .int .i64 (c : Int)] w fun e w' => ∃ u, e = .returned u ∧ RdI w' u (cs.getD (if one then 0 else c) []) ∧ Chg (fun _ => False) w w' := by
  have hca := Chg.alloc (fun _ => False) w (.cells #[.int .i64 log, .bool one, .slice ao n cap] 24)
  have hmb : Mb _ _ log one (.slice ao n cap) := heap_alloc_new w (.cells #[.int .i64 log, .bool one, .slice ao n cap] 24)
  have hl1 := h.kept hca
  obtain ⟨W1, hW1⟩ : ∃ W, w.alloc (.cells #[.int .i64 log, .bool one, .slice ao n cap] 24) = W := ⟨_, rfl⟩
  rw [hW1] at hca hmb hl1
  obtain ⟨b0, b1, b2⟩ := hmb.cells
  have HCA := Lib.hid hca
  have hcI : (c : Int) < 256 := by omega
  clear h hca hmb
  cases one with
  | true =>
    simp only [if_true] at hn ⊢
    subst hn
    obtain ⟨g, off, u, rfl, hu1, hu2⟩ := hl1.at 0 (by omega)
    obtain ⟨Q, hQ⟩ : ∃ Q, cs.getD 0 [] = Q := ⟨_, rfl⟩
    rw [hQ] at hu2 ⊢
    obtain ⟨nq, hnq⟩ : ∃ nq, Q.length = nq := ⟨_, rfl⟩
    obtain ⟨a, q, e⟩ := hu2.form
    have HU := Lib.hid hu2
    rw [Nat.add_zero] at hu1
    rw [e, hnq] at hu1 HU
    clear hl1 hu2 hQ hnq
    go_enter Try.func71, Try.ntmps71
    go_wp2
    go_ret
    exact ⟨_, rfl, HU.out, HCA.out⟩
  | false =>
    simp only [Bool.false_eq_true, if_false] at hn ⊢
    subst hn
    obtain ⟨g, off, u, rfl, hu1, hu2⟩ := hl1.at c (by omega)
    obtain ⟨Q, hQ⟩ : ∃ Q, cs.getD c [] = Q := ⟨_, rfl⟩
    rw [hQ] at hu2 ⊢
    obtain ⟨nq, hnq⟩ : ∃ nq, Q.length = nq := ⟨_, rfl⟩
    obtain ⟨a, q, e⟩ := hu2.form
    have HU := Lib.hid hu2
    rw [e, hnq] at hu1 HU
    clear hl1 hu2 hQ hnq
    go_enter Try.func71, Try.ntmps71
    go_wp2
    go_ret
    exact ⟨_, rfl, HU.out, HCA.out⟩

theorem atL_is {m : Md} (c : Nat) (hr : m.right) (hc : c < 256) : m.atL (c : Int) = m.cs.getD (if m.one then 0 else c) [] := by
  unfold Md.atL
  rw [if_pos ⟨hr, by omega, by omega⟩, Int.toNat_natCast]
  by_cases h : m.one = true
  · rw [if_pos h, if_pos h]
  · rw [if_neg h, if_neg h]

theorem own_roomI {w : World} {base : Nat} {v : Value} {n : Nat} {xs : List Value} (h : w.ownsRow base 3 1 v n xs) : RoomOk v := by
  rcases h.2 with ⟨rfl, _⟩ | ⟨g, cap, cur, rfl, _, _, hc, _⟩
  · exact RoomOk.of (Nat.le_refl _)
  · exact RoomOk.of hc

set_option maxRecDepth 100000 in
set_option maxHeartbeats 4000000 in
theorem mfits_any (v u : Value) (m : Md) (xs : List Nat) (w : World) (h : RdM w v m) (hf : m.fit64) (hb : RdB w u xs) (hx : ∀ x ∈ xs, x < 256) (hl : xs.length < 1000000) :
    Calls Try.prog 40 #[v, u] w fun e w' => e = .returned (.bool (decide (m.fits xs))) ∧ Chg (fun _ => False) w w' := by
  obtain ⟨cv, rfl, h1⟩ := h
  obtain ⟨ao, cap, rfl⟩ := h1.form
  obtain ⟨ab, capb, rfl⟩ := hb.form
  unfold mdv
  have hca := Chg.alloc (fun _ => False) w (.cells #[.int .i64 m.log, .bool m.one, .slice ao m.cs.length cap] 24)
  have hmb : Mb _ _ m.log m.one (.slice ao m.cs.length cap) := heap_alloc_new w (.cells #[.int .i64 m.log, .bool m.one, .slice ao m.cs.length cap] 24)
  have hll := h1.kept hca
  have hbl := hb.kept hca (by simp)
  have HR := Lib.hid fun W (hW : RdLL W (.slice ao m.cs.length cap) m.cs) => mright_any (mdv m (.slice ao m.cs.length cap)) m W ⟨_, rfl, hW⟩ hf
  unfold mdv at HR
  obtain ⟨D, hD⟩ : ∃ D, decide (m.fits xs) = D := ⟨_, rfl⟩
  rw [hD]
  have HD := Lib.hid hD
  have HX := Lib.hid hx
  obtain ⟨W1, hW1⟩ : ∃ W, w.alloc (.cells #[.int .i64 m.log, .bool m.one, .slice ao m.cs.length cap] 24) = W := ⟨_, rfl⟩
  rw [hW1] at hca hmb hll hbl
  have HST := Lib.hid (show ∀ W, Chg (fun _ => False) W1 W → (Mb W w.heap.size m.log m.one (.slice ao m.cs.length cap) ∧ RdLL W (.slice ao m.cs.length cap) m.cs ∧ RdB W (.slice ab xs.length capb) xs ∧ Chg (fun _ => False) w W) from fun W hW => ⟨hmb.kept hW (by simp), hll.kept hW, hbl.kept hW (by simp), hca.trans hW fun _ _ h => h⟩)
  obtain ⟨b0, b1, b2⟩ := hmb.cells
  by_cases hr : m.right
  · have hlen := hr.2.1
    have HFIT := Lib.hid hr
    rw [decide_eq_true hr] at HR
    have HLI := Lib.hid fun W (k : Nat) (hk : k < 256) (hW : RdLL W (.slice ao m.cs.length cap) m.cs) => mlist_any m.log m.one ao m.cs.length cap m.cs k W hW hlen rfl hk
    have HAT := Lib.hid fun W (i : Nat) (hi : i < xs.length) (hW : RdB W (.slice ab xs.length capb) xs) => xat_any (.slice ab xs.length capb) xs (i : Int) W hW hx (by omega) (by omega)
    have HLQ := Lib.hid (show ∀ k, k < 256 → (m.cs.getD (if m.one then 0 else k) []).length = 0 ∨ (m.cs.getD (if m.one then 0 else k) []).length = 256 from fun k hk => by
      have := atL_len m (k : Int)
      rw [atL_is k hr hk] at this
      by_cases he : m.cs.getD (if m.one then 0 else k) [] = []
      · left; rw [he]; rfl
      · exact .inr (this he))
    have HFA := Lib.hid (show ∀ i, i < xs.length → (m.fitAt xs i ↔ m.cs.getD (if m.one then 0 else (0 :: xs).getD i 0) [] ≠ [] ∧ (m.cs.getD (if m.one then 0 else (0 :: xs).getD i 0) []).getD (xs.getD i 0) 0 ≠ 0) from fun i hi => by
      unfold Md.fitAt
      rw [atL_is _ hr (ahead_lt hx i)])
    obtain ⟨nb, hnb⟩ : ∃ nb, xs.length = nb := ⟨_, rfl⟩
    have HNB := Lib.hid hnb
    rw [hnb] at hl HST HAT HFA ⊢
    have hnI : (nb : Int) < 1000000 := by omega
    have HFF := Lib.hid hf.at
    obtain ⟨log, one, cs⟩ := m
    simp only [] at *
    obtain ⟨n, hn⟩ : ∃ n, cs.length = n := ⟨_, rfl⟩
    rw [hn] at hW1 b2 HST HR HLI ⊢
    clear hf hmb hca hn hr hlen hll hbl hb h1 hx hD hnb
    go_enter Try.func40, Try.ntmps40
    go_wp2_with fail
    with_reducible refine Calls.mono (HR.out _ (HST.out _ (Chg.refl _ _)).2.1) ?_
    rintro e w2 ⟨rfl, hc2⟩
    have C2 := Lib.hid hc2
    clear hc2 b0 b1 b2 hW1
    go_wp2
    go_loopw [5, 6, 7, 13] (fun _ _ _ o13 wr => ∃ k : Nat, k ≤ nb ∧ o13 = .int .i64 (k : Int) ∧ (∀ i, i < k → Md.fitAt ⟨log, one, cs⟩ xs i) ∧ Chg (fun _ => False) W1 wr) (fun _ _ _ o13 _ => nb - (intOf o13).toNat)
    case atStart => exact ⟨0, Nat.zero_le _, rfl, fun j hj => by omega, C2.out⟩
    case round =>
      clear C2
      obtain ⟨k, hk, rfl, hfi, hcg⟩ := hrel
      have HFI := Lib.hid hfi; have HCG := Lib.hid hcg
      clear hfi
      by_cases hlt : k < nb
      · have hkI : (k : Int) < (nb : Int) := by omega
        have st := HST.out _ hcg
        obtain ⟨gb, ob, rfl, hbc⟩ := st.2.2.1.at k (by rw [HNB.out]; exact hlt)
        have hxk := getD_lt xs HX.out k
        obtain ⟨x, hxe⟩ : ∃ x, xs.getD k 0 = x := ⟨_, rfl⟩
        have HXE := Lib.hid hxe
        rw [hxe] at hbc hxk
        have hp := ahead_lt HX.out k
        obtain ⟨p, hpe⟩ : ∃ p, (0 :: xs).getD k 0 = p := ⟨_, rfl⟩
        have HPE := Lib.hid hpe
        rw [hpe] at hp
        have HA := Lib.hid (show ∀ W, Chg (fun _ => False) W1 W → Calls Try.prog 58 #[.slice (some ⟨gb, ob, none⟩) nb capb, .int .i64 (k : Int)] W fun e w' => e = .returned (.int .i64 (p : Int)) ∧ Chg (fun _ => False) W w' from fun W hW => by
          have := HAT.out W k hlt (HST.out W hW).2.2.1
          rw [atI_nat xs k (by rw [HNB.out]; exact hlt), HPE.out] at this
          exact this.mono fun e w' ⟨h1, m, h2⟩ => ⟨h1, by rw [h2]; exact (Chg.refl _ _).drewN m⟩)
        have hlq := HLQ.out p hp
        obtain ⟨Q, hQ⟩ : ∃ Q, cs.getD (if one = true then 0 else p) [] = Q := ⟨_, rfl⟩
        have HQ := Lib.hid hQ
        have HL := Lib.hid (fun W hW => HLI.out W p hp (HST.out W hW).2.1)
        rw [hQ] at HL hlq
        have hfa := HFA.out k hlt
        rw [HPE.out, HXE.out, HQ.out] at hfa
        have HFK := Lib.hid hfa
        obtain ⟨y0, y1, y2⟩ := st.1.cells
        clear hcg st hfa hxe hpe hQ
        go_wp2
        go_region_held3 (fun W => W.cell? ⟨w.heap.size, 0, none⟩ = some (.int .i64 log) ∧ W.cell? ⟨w.heap.size, 1, none⟩ = some (.bool one) ∧ W.cell? ⟨w.heap.size, 2, none⟩ = some (.slice ao n cap)) (first | exact ⟨y0, y1, y2⟩ | exact k0 | exact q0) (first
          | (go_at_call 58; refine (HA.out _ (HCG.out.drew)).mono ?_; rintro e w3 ⟨rfl, hc3⟩; have C3 := Lib.hid (HCG.out.drew.trans hc3 fun _ _ h => h); have k0 := (HST.out _ C3.out).1.cells; clear hc3)
          | (go_at_call 71; refine (HL.out _ C3.out).mono ?_; rintro e w4 ⟨u, rfl, hu, hc4⟩; have C4 := Lib.hid (C3.out.trans hc4 fun _ _ h => h); have q0 := (HST.out _ C4.out).1.cells; have HU := Lib.hid hu; clear hc4 hu))
        obtain ⟨aq, lq, hue⟩ := HU.out.form
        subst hue
        obtain ⟨nq, hnq⟩ : ∃ nq, Q.length = nq := ⟨_, rfl⟩
        have HNQ := Lib.hid hnq
        rw [hnq] at hlq HU ⊢
        clear hnq
        rcases hlq with rfl | rfl
        · have hv : D = false := by
            rw [← HD.out]
            refine decide_eq_false fun hh => ?_
            have := (HFK.out.1 (hh.2 k (by rw [HNB.out]; exact hlt))).1
            exact this (List.length_eq_zero_iff.1 HNQ.out)
          subst hv
          go_wp2
          go_ret
          exact ⟨rfl, (HST.out _ C4.out).2.2.2⟩
        · obtain ⟨gq, oq, rfl, hqc⟩ := HU.out.at x (by rw [HNQ.out]; exact hxk)
          obtain ⟨z, hz⟩ : ∃ z, Q.getD x 0 = z := ⟨_, rfl⟩
          have HZ := Lib.hid hz
          rw [hz] at hqc
          by_cases hz0 : z = 0
          · have hv : D = false := by
              rw [← HD.out]
              refine decide_eq_false fun hh => ?_
              exact (HFK.out.1 (hh.2 k (by rw [HNB.out]; exact hlt))).2 (by rw [HZ.out]; exact hz0)
            subst hv
            subst hz0
            clear hz
            go_wp2
            go_ret
            exact ⟨rfl, (HST.out _ C4.out).2.2.2⟩
          · have hzb : (z == 0) = false := by simpa using hz0
            clear hz
            go_wp2
            go_roundw
            case rel => exact ⟨k + 1, by omega, by go_num, fun i hi => by
              by_cases hik : i = k
              · subst hik
                exact HFK.out.2 ⟨fun he => by have := HNQ.out; rw [he] at this; simp at this, by rw [HZ.out]; exact hz0⟩
              · exact HFI.out i (by omega), C4.out⟩
            case measure => simp [intOf]; omega
      · obtain rfl : k = nb := by omega
        have hv : D = true := by
          rw [← HD.out]
          exact decide_eq_true ⟨HFIT.out, fun i hi => HFI.out i (by rw [← HNB.out]; exact hi)⟩
        subst hv
        clear hcg
        go_wp2
        go_ret
        exact ⟨rfl, (HST.out _ HCG.out).2.2.2⟩
  · have hv : D = false := by rw [← HD.out]; exact decide_eq_false fun hh => hr hh.1
    subst hv
    rw [decide_eq_false hr] at HR
    obtain ⟨n, hn⟩ : ∃ n, m.cs.length = n := ⟨_, rfl⟩
    rw [hn] at hW1 b2 HST HR ⊢
    clear hf hmb hca hn hr hll hbl hb h1 hx hD
    go_enter Try.func40, Try.ntmps40
    go_wp2_with fail
    with_reducible refine Calls.mono (HR.out _ (HST.out _ (Chg.refl _ _)).2.1) ?_
    rintro e w2 ⟨rfl, hc2⟩
    have C2 := Lib.hid (HST.out _ hc2).2.2.2
    clear hc2
    go_wp2
    go_ret
    exact ⟨rfl, C2.out⟩

end Go.Proofs.Ytokeoebhmjefoaa

/- What written, Encode and Bits tell. THIS SPEAKS OF THE PROGRAM'S OWN TEXT. -/
namespace Go.Proofs.Ytokeoebhmjefoaa
open Go.RowKit

theorem encS_pay {m : Md} {xs : List Nat} {bs : List Bool} {a b : Nat} (h : EncS m xs xs.length (RM m) 0 bs a b) : payL m xs = payB (RM m) bs (a, b) := by
  have := h.1
  rw [List.drop_zero] at this
  exact payL_of this

set_option maxRecDepth 100000 in
set_option maxHeartbeats 4000000 in
theorem lwritten_any (v u : Value) (m : Md) (xs : List Nat) (w : World) (h : RdM w v m) (hf : m.fit64) (hb : RdB w u xs) (hx : ∀ x ∈ xs, x < 256) (hl : xs.length < 1000000) :
    Calls Try.prog 19 #[v, u] w fun e w' => (¬ lnOk m xs → e = .returned (.tuple #[.pointer none, .int .i64 1])) ∧ (lnOk m xs → ∃ b o, e = .returned (.tuple #[.pointer (some ⟨b, 0, none⟩), .int .i64 0]) ∧ Wr w' b o (payL m xs)) ∧ Chg (fun _ => False) w w' := by
  have HFITS := Lib.hid fun W (hW : RdM W v m) (hB : RdB W u xs) => mfits_any v u m xs W hW hf hB hx hl
  obtain ⟨cv, rfl, h1⟩ := h
  obtain ⟨ao, cap, rfl⟩ := h1.form
  obtain ⟨ab, capb, rfl⟩ := hb.form
  have hca := Chg.alloc (fun _ => False) w (.cells #[.int .i64 m.log, .bool m.one, .slice ao m.cs.length cap] 24)
  have hmb : Mb _ _ m.log m.one (.slice ao m.cs.length cap) := heap_alloc_new w (.cells #[.int .i64 m.log, .bool m.one, .slice ao m.cs.length cap] 24)
  have hll := h1.kept hca
  have hbl := hb.kept hca (by simp)
  obtain ⟨W1, hW1⟩ : ∃ W, w.alloc (.cells #[.int .i64 m.log, .bool m.one, .slice ao m.cs.length cap] 24) = W := ⟨_, rfl⟩
  rw [hW1] at hca hmb hll hbl
  obtain ⟨b0, b1, b2⟩ := hmb.cells
  obtain ⟨N, hN⟩ : ∃ N, xs.length = N := ⟨_, rfl⟩
  have HW1 := Lib.hid hW1; have HCA := Lib.hid hca; have HMB := Lib.hid hmb; have HLL := Lib.hid hll; have HBL := Lib.hid hbl; have H1 := Lib.hid h1; have HB := Lib.hid hb; have HX := Lib.hid hx; have HF := Lib.hid hf; have HN := Lib.hid hN
  have hNI : (N : Int) < 1000000 := by omega
  have hN0 : (0 : Int) ≤ (N : Int) := by omega
  unfold mdv
  by_cases hlen : 131072 < N
  · have hno : ¬ lnOk m xs := fun hh => by have := hh.2; omega
    have HNO := Lib.hid hno
    rw [hN]
    clear hno hca hmb hll hbl h1 hb hx hf hN hW1
    have hlI : (131072 : Int) < (N : Int) := by omega
    go_enter Try.func19, Try.ntmps19
    go_upto_region 1 with fail
    rw [HW1.out]
    go_wp2
    go_ret2
    exact ⟨fun _ => rfl, fun hh => absurd hh HNO.out, HCA.out⟩
  · have hlI : (N : Int) ≤ 131072 := by omega
    have hdec : decide ((131072 : Int) < (N : Int)) = false := decide_eq_false (by omega)
    have hfe := HFITS.out W1 ⟨_, rfl, hll⟩ hbl
    rw [hN] at hfe ⊢
    unfold mdv at hfe
    have HFE := Lib.hid hfe
    by_cases hfit : m.fits xs
    · have hok : lnOk m xs := ⟨hfit, by omega⟩
      have HOK := Lib.hid hok
      rw [decide_eq_true hfit] at HFE
      have hmf : ∀ (fn : Fn) (first cap : Array Value) (w : World), (Instr.makeFunc fn first cap).run Try.prog w = .ok (.func fn first cap) w := fun _ _ _ _ => rfl
      obtain ⟨-, hR2, hR3⟩ := RM_le hfit.1
      have HR2 := Lib.hid hR2; have HR3 := Lib.hid hR3
      clear hok hca hmb hll hbl h1 hb hx hf hN hW1 hfe hfit hR2 hR3
      go_enter Try.func19, Try.ntmps19
      go_upto_region 1 with fail
      rw [HW1.out]
      go_wp2_with fail
      refine HFE.out.mono ?_
      rintro e W2 ⟨rfl, hc2⟩
      have mb2 := HMB.out.kept hc2 (by simp)
      have C2 := Lib.hid hc2; have MB2 := Lib.hid mb2
      clear hc2 HFE b0 b1 b2 mb2
      go_upto_region 4 with (go_at_call 41; refine (new_wr W2).mono ?_; rintro e W3 ⟨rfl, hw3, hc3⟩)
      obtain ⟨b0, b1, b2⟩ := (MB2.out.kept hc3 (by simp)).cells
      have HW3 := Lib.hid hw3; have C3 := Lib.hid (C2.out.trans hc3 fun _ _ h => h)
      obtain ⟨b, hb⟩ : ∃ b, W2.heap.size = b := ⟨_, rfl⟩
      have HBE := Lib.hid hb
      rw [hb] at hw3 ⊢
      clear hw3 hc3 hb
      obtain ⟨Z, hZ, hzero⟩ := zeroLsT
      have HZ := Lib.hid hZ
      clear hZ
      go_upto_region 5 with (first
        | (refine wpList_listsT rfl _ rfl _ _ _ rfl ?_)
        | (refine wpList_store_row rfl 83 _ _ rfl W3.heap.size _ rfl rfl _ _ (heap_alloc_new W3 (.cells Z 83)) (by rw [lsZ_size]; exact infoLsT) (by rw [lsZ_size]; exact HZ.out) (lsZ_one _ rfl rfl rfl rfl) ?_))
      simp only [Act.put]
      rw [World.setRow_alloc_new]
      obtain ⟨W4, hW4⟩ : ∃ V, W3.alloc (.cells (lsZ 42 (.int .i64 m.log) (.bool m.one) (.slice ao m.cs.length cap) (.pointer none)) 83) = V := ⟨_, rfl⟩
      rw [hW4]
      have hc4 : Chg (fun _ => False) W3 W4 := hW4 ▸ Chg.alloc _ W3 _
      have hwl := HW3.out.lt
      have hls : LsT W1 W3.heap.size m (.slice ao m.cs.length cap) W4 (fun k => k = b) := LsJ.new C3.out hW4.symm (fun k hk => by
        subst hk
        have := C2.out.size
        rw [HBE.out] at hwl
        exact ⟨by rw [← HBE.out]; exact this, hwl.1⟩)
      have hw4 : Wr W4 b none [] := by
        have := HW3.out
        rw [HBE.out] at this
        exact this.kept hc4 (by simp) (by simp)
      have hbw : W1.heap.size ≤ b := by have := C2.out.size; have := HBE.out; omega
      have hbk := lback_any W1 W3.heap.size b m (.slice ao m.cs.length cap) ab N capb xs W4.drew (hls.still (AtT.kept m) ((Chg.refl (fun _ => False) W4).drew)) HLL.out (hw4.kept ((Chg.refl (fun _ => False) W4).drew) (by simp) (by simp)) (by have := HBL.out; rw [HN.out] at this; exact this) HX.out (by rw [HN.out]; omega) HOK.out.1
      have HBK := Lib.hid hbk; have HBW := Lib.hid hbw
      obtain ⟨d0, -, -⟩ := (HMB.out.kept (C3.out.trans hc4 fun _ _ h => h) (by simp)).cells
      clear hc4 hwl hls hw4 hbk hbw hW4 hzero b0 b1 b2
      go_region_held3 (fun V => V.cell? ⟨w.heap.size, 0, none⟩ = some (.int .i64 m.log)) (first | exact d0 | exact q0 | exact r0) (first
        | (go_at_call 44; refine HBK.out.mono ?_; rintro e W5 ⟨x0, x1, rfl, bs, o, hw5, henc, hc5⟩; obtain ⟨q0, -, -⟩ := (HMB.out.kept hc5 (by simp)).cells; have hps := lputst_any b o bs (RM m) x0 x1 W5 hw5 (Nat.lt_of_le_of_lt henc.2.1 (Nat.lt_of_le_of_lt (Nat.mul_le_mul (show xs.length ≤ 131072 from HOK.out.2) HR2.out) (by decide))) HR2.out henc.2.2.1 henc.2.2.2; rw [HR3.out] at hps; have HPS := Lib.hid hps; have HENC := Lib.hid henc; have C5 := Lib.hid hc5; have HO5 := Lib.hid hw5.lt.2; clear hps henc hc5 hw5)
        | (go_at_call 43; refine HPS.out.mono ?_; rintro e W6 ⟨⟨v6, rfl⟩, o6, hw6, hc6⟩; have hc16 : Chg (fun _ => False) W1 W6 := C5.out.trans hc6 (fun q hq hh => by (rcases hh with hh | hh); (have := HBW.out; omega); (have := HBW.out; have := (HO5.out q hh.symm).1; omega)); obtain ⟨r0, -, -⟩ := (HMB.out.kept hc16 (by simp)).cells; have HW6 := Lib.hid hw6; have C16 := Lib.hid hc16; clear hw6 hc6 hc16))
      go_wp2
      go_ret2
      exact ⟨fun hh => absurd HOK.out hh, fun _ => ⟨b, o6, rfl, by rw [encS_pay HENC.out]; exact HW6.out⟩, HCA.out.trans C16.out fun _ _ h => h⟩
    · have hno : ¬ lnOk m xs := fun hh => hfit hh.1
      rw [decide_eq_false hfit] at HFE
      have HNO := Lib.hid hno
      clear hno hca hmb hll hbl h1 hb hx hf hN hW1 hfe hfit
      go_enter Try.func19, Try.ntmps19
      go_upto_region 1 with fail
      rw [HW1.out]
      go_wp2_with fail
      refine HFE.out.mono ?_
      rintro e W2 ⟨rfl, hc2⟩
      have C2 := Lib.hid hc2
      clear hc2 HFE
      go_wp2
      go_ret2
      exact ⟨fun _ => rfl, fun hh => absurd hh HNO.out, HCA.out.trans C2.out fun _ _ h => h⟩

end Go.Proofs.Ytokeoebhmjefoaa

/- What lanes' Encode and Bits tell. THIS SPEAKS OF THE PROGRAM'S OWN TEXT. -/
namespace Go.Proofs.Ytokeoebhmjefoaa
open Go.RowKit

theorem lnown_room {w : World} {base : Nat} {v : Value} {n : Nat} {xs : List Value} (h : w.ownsRow base 5 1 v n xs) : RoomOk v := by
  rcases h.2 with ⟨rfl, _⟩ | ⟨g, cap, cur, rfl, _, _, hc, _⟩
  · exact RoomOk.of (Nat.le_refl _)
  · exact RoomOk.of hc
theorem lnpay_len {m : Md} {xs : List Nat} (h : lnOk m xs) (hx : ∀ x ∈ xs, x < 256) : (payL m xs).length < 900000000 := by
  have h1 := (payL_bounds h.1 hx).2
  have h2 := (RM_le h.1.1).2.1
  have h3 : xs.length * RM m ≤ 131072 * 12 := Nat.mul_le_mul h.2 h2
  omega

set_option maxRecDepth 100000 in
set_option maxHeartbeats 1000000 in
theorem lencode_any (v u : Value) (m : Md) (xs : List Nat) (w : World) (h : RdM w v m) (hf : m.fit64) (hb : RdB w u xs) (hx : ∀ x ∈ xs, x < 256) (hl : xs.length < 1000000) :
    Calls Try.prog 11 #[v, u] w fun e w' => ∃ p, e = .returned (.tuple #[p, .int .i64 (lnErr m xs)]) ∧ RdB w' p (lnEnc m xs) ∧ RoomOk p ∧ Chg (fun _ => False) w w' := by
  have HWR := Lib.hid fun W (hW : RdM W v m) (hB : RdB W u xs) => lwritten_any v u m xs W hW hf hB hx hl
  have HX := Lib.hid hx
  obtain ⟨cv, rfl, h1⟩ := h
  obtain ⟨ao, cap, rfl⟩ := h1.form
  obtain ⟨ab, capb, rfl⟩ := hb.form
  have hca := Chg.alloc (fun _ => False) w (.cells #[.int .i64 m.log, .bool m.one, .slice ao m.cs.length cap] 24)
  have hmb : Mb _ _ m.log m.one (.slice ao m.cs.length cap) := heap_alloc_new w (.cells #[.int .i64 m.log, .bool m.one, .slice ao m.cs.length cap] 24)
  have hwe := HWR.out _ ⟨_, rfl, h1.kept hca⟩ (hb.kept hca (by simp))
  obtain ⟨W1, hW1⟩ : ∃ W, w.alloc (.cells #[.int .i64 m.log, .bool m.one, .slice ao m.cs.length cap] 24) = W := ⟨_, rfl⟩
  rw [hW1] at hca hmb hwe
  obtain ⟨b0, b1, b2⟩ := hmb.cells
  unfold mdv at hwe ⊢
  have HW1 := Lib.hid hW1; have HWE := Lib.hid hwe; have HCA := Lib.hid hca
  clear hW1 hwe hca hmb h1 hb hf hl HWR hx
  by_cases hok : lnOk m xs
  · have HOK := Lib.hid hok
    rw [show lnErr m xs = 0 by unfold lnErr; rw [if_pos hok], show lnEnc m xs = pack (payL m xs ++ [true]) by unfold lnEnc; rw [if_pos hok]]
    clear hok
    go_enter Try.func11, Try.ntmps11
    go_upto_region 1 with fail
    rw [HW1.out]
    go_wp2_with fail
    refine HWE.out.mono ?_
    rintro e W2 ⟨-, h2, c2⟩
    obtain ⟨b, o, rfl, hw2⟩ := h2 HOK.out
    have HCL := Lib.hid (close_any b o (payL m xs) W2 hw2 (Nat.lt_trans (lnpay_len HOK.out HX.out) (by decide)))
    have C2 := Lib.hid (HCA.out.trans c2 fun _ _ h => h)
    clear h2 c2 hw2 HWE b0 b1 b2
    go_wp2_with fail
    refine HCL.out.mono ?_
    rintro e W3 ⟨g, cap3, rfl, hown, c3⟩
    have HOWN := Lib.hid hown; have C3 := Lib.hid (C2.out.trans c3 fun _ _ h => h)
    clear hown c3 HCL
    go_wp2
    go_ret2
    exact ⟨_, rfl, RdB.of_own HOWN.out, lnown_room HOWN.out, C3.out⟩
  · have HOK := Lib.hid hok
    rw [show lnErr m xs = 1 by unfold lnErr; rw [if_neg hok], show lnEnc m xs = [] by unfold lnEnc; rw [if_neg hok]]
    clear hok
    go_enter Try.func11, Try.ntmps11
    go_upto_region 1 with fail
    rw [HW1.out]
    go_wp2_with fail
    refine HWE.out.mono ?_
    rintro e W2 ⟨h2, -, c2⟩
    obtain rfl := h2 HOK.out
    have C2 := Lib.hid (HCA.out.trans c2 fun _ _ h => h)
    clear h2 c2 HWE b0 b1 b2
    go_wp2
    go_ret2
    exact ⟨_, rfl, .inl ⟨rfl, none, 0, rfl⟩, .of (Nat.le_refl _), C2.out⟩

set_option maxRecDepth 100000 in
set_option maxHeartbeats 1000000 in
theorem lbits_any (v u : Value) (m : Md) (xs : List Nat) (w : World) (h : RdM w v m) (hf : m.fit64) (hb : RdB w u xs) (hx : ∀ x ∈ xs, x < 256) (hl : xs.length < 1000000) :
    Calls Try.prog 15 #[v, u] w fun e w' => e = .returned (.int .i64 ((lnBits m xs : Nat) : Int)) ∧ Chg (fun _ => False) w w' := by
  have HWR := Lib.hid fun W (hW : RdM W v m) (hB : RdB W u xs) => lwritten_any v u m xs W hW hf hB hx hl
  obtain ⟨cv, rfl, h1⟩ := h
  obtain ⟨ao, cap, rfl⟩ := h1.form
  obtain ⟨ab, capb, rfl⟩ := hb.form
  have hca := Chg.alloc (fun _ => False) w (.cells #[.int .i64 m.log, .bool m.one, .slice ao m.cs.length cap] 24)
  have hmb : Mb _ _ m.log m.one (.slice ao m.cs.length cap) := heap_alloc_new w (.cells #[.int .i64 m.log, .bool m.one, .slice ao m.cs.length cap] 24)
  have hwe := HWR.out _ ⟨_, rfl, h1.kept hca⟩ (hb.kept hca (by simp))
  obtain ⟨W1, hW1⟩ : ∃ W, w.alloc (.cells #[.int .i64 m.log, .bool m.one, .slice ao m.cs.length cap] 24) = W := ⟨_, rfl⟩
  rw [hW1] at hca hmb hwe
  obtain ⟨b0, b1, b2⟩ := hmb.cells
  unfold mdv at hwe ⊢
  have HW1 := Lib.hid hW1; have HWE := Lib.hid hwe; have HCA := Lib.hid hca
  clear hW1 hwe hca hmb h1 hb hf hl HWR hx
  by_cases hok : lnOk m xs
  · have HOK := Lib.hid hok
    rw [show lnBits m xs = (payL m xs).length by unfold lnBits; rw [if_pos hok]]
    clear hok
    go_enter Try.func15, Try.ntmps15
    go_upto_region 1 with fail
    rw [HW1.out]
    go_wp2_with fail
    refine HWE.out.mono ?_
    rintro e W2 ⟨-, h2, c2⟩
    obtain ⟨b, o, rfl, hw2⟩ := h2 HOK.out
    have HBI := Lib.hid (bits_any b o (payL m xs) W2 hw2)
    have C2 := Lib.hid (HCA.out.trans c2 fun _ _ h => h)
    clear h2 c2 hw2 HWE b0 b1 b2
    go_wp2_with fail
    refine HBI.out.mono ?_
    rintro e W3 ⟨rfl, rfl⟩
    clear HBI
    go_wp2
    go_ret
    exact ⟨rfl, C2.out⟩
  · have HOK := Lib.hid hok
    rw [show lnBits m xs = 0 by unfold lnBits; rw [if_neg hok]]
    clear hok
    go_enter Try.func15, Try.ntmps15
    go_upto_region 1 with fail
    rw [HW1.out]
    go_wp2_with fail
    refine HWE.out.mono ?_
    rintro e W2 ⟨h2, -, c2⟩
    obtain rfl := h2 HOK.out
    have C2 := Lib.hid (HCA.out.trans c2 fun _ _ h => h)
    clear h2 c2 HWE b0 b1 b2
    go_wp2
    go_ret
    exact ⟨rfl, C2.out⟩

end Go.Proofs.Ytokeoebhmjefoaa

/- The memory of forth's loop: the states, the bytes told, the Reader, what is built. THIS SPEAKS OF THE PROGRAM'S OWN TEXT. -/
namespace Go.Proofs.Ytokeoebhmjefoaa
open Go.RowKit

theorem Try.entersOfC (args : Array Value) (w : World) : (callFunc 33 args).run Try.prog w = .ok (.enter 33 args) w := by kernel_rfl
theorem lofC_any (w : World) (G : Nat) (m : Md) (cv : Value) (W : World) (X : Nat → Prop) (c : Nat) (h : LsC w G m cv W X) (hl : RdLL w cv m.cs) (hr : m.right) (hc : c < 256) :
    Calls Try.prog 33 #[.pointer (some ⟨G, 0, none⟩), .int .i64 (c : Int)] W fun e W' => ∃ v, e = .returned v ∧ ∃ l, RdC W' v l ∧ CelsOf m c l ∧ LsC w G m cv W' X ∧ Chg (fun k => k = G) W W' := by
  rcases Bool.eq_false_or_eq_true m.one with ho | ho
  · exact lofC_one w G m cv W X c h hl hr ho hc
  · exact lofC_each w G m cv W X c h hl hr ho hc

/-- which blocks turn in the loop -/
def FoX (A rb : Nat) (q : Nat) : Prop := q = rb ∨ (A ≤ q ∧ q < A + 2)
structure FoS (w : World) (G A rb rg : Nat) (m : Md) (cv : Value) (V : World) (L : List Nat) (x0 x1 : Nat) (bs : List Bool) : Prop where
  st : Stt V A x0 x1
  out : RowB V (A + 1) 5 L
  rd : Rr V rb rg bs
  ls : LsC w G m cv V (FoX A rb)
  gA : G < A
  rA : rb < A
  sA : rg < A
  sG : rg ≠ G
theorem FoS.size {w : World} {G A rb rg : Nat} {m : Md} {cv : Value} {V : World} {L : List Nat} {x0 x1 : Nat} {bs : List Bool} (h : FoS w G A rb rg m cv V L x0 x1 bs) : A + 1 < V.heap.size := h.out.lt
theorem FoS.rG {w : World} {G A rb rg : Nat} {m : Md} {cv : Value} {V : World} {L : List Nat} {x0 x1 : Nat} {bs : List Bool} (h : FoS w G A rb rg m cv V L x0 x1 bs) : rb ≠ G := (h.ls.lt rb (.inl rfl)).2.2
theorem FoS.turn {w : World} {G A rb rg : Nat} {m : Md} {cv : Value} {V V' : World} {L : List Nat} {x0 x1 : Nat} {bs : List Bool} (h : FoS w G A rb rg m cv V L x0 x1 bs) (hls : LsC w G m cv V' (FoX A rb)) (hc : Chg (fun q => q = G) V V') : FoS w G A rb rg m cv V' L x0 x1 bs :=
  ⟨h.st.kept hc (by have := h.gA; omega), h.out.kept hc (by have := h.gA; omega), h.rd.kept hc h.rG h.sG, hls, h.gA, h.rA, h.sA, h.sG⟩
theorem FoS.still {w : World} {G A rb rg : Nat} {m : Md} {cv : Value} {V V' : World} {L : List Nat} {x0 x1 : Nat} {bs : List Bool} (h : FoS w G A rb rg m cv V L x0 x1 bs) (hc : Chg (fun _ => False) V V') : FoS w G A rb rg m cv V' L x0 x1 bs :=
  h.turn (h.ls.still (AtC.kept m) hc) (hc.mono fun _ _ h => h.elim)
theorem FoS.take {w : World} {G A rb rg : Nat} {m : Md} {cv : Value} {V V' : World} {L : List Nat} {x0 x1 : Nat} {bs bs' : List Bool} (h : FoS w G A rb rg m cv V L x0 x1 bs) (hr : Rr V' rb rg bs') (hc : Chg (fun q => q = rb) V V') : FoS w G A rb rg m cv V' L x0 x1 bs' :=
  ⟨h.st.kept hc (by have := h.rA; omega), h.out.kept hc (by have := h.rA; omega), hr, h.ls.kept (AtC.kept m) (hc.mono fun _ _ h => .inl h) fun q hq => ⟨Nat.lt_of_lt_of_le (h.ls.lt q hq).2.1 hc.size, .inl hq⟩, h.gA, h.rA, h.sA, h.sG⟩
theorem FoS.put {w : World} {G A rb rg : Nat} {m : Md} {cv : Value} {V : World} {L : List Nat} {x0 x1 : Nat} {bs : List Bool} (h : FoS w G A rb rg m cv V L x0 x1 bs) (k s y : Nat) :
    FoS w G A rb rg m cv ((V.setCell ⟨A + 1, k, none⟩ (.int .u8 (s : Int))).setCell ⟨A, k % 2, none⟩ (.int .i64 (y : Int))) (L.set k s) (setLane k (x0, x1) y).1 (setLane k (x0, x1) y).2 bs := by
  have c1 := Chg.setCell V ⟨A + 1, k, none⟩ (.int .u8 (s : Int))
  have c2 := Chg.setCell (V.setCell ⟨A + 1, k, none⟩ (.int .u8 (s : Int))) ⟨A, k % 2, none⟩ (.int .i64 (y : Int))
  have hr := h.rA
  have hs := h.sA
  have c12 : Chg (FoX A rb) V ((V.setCell ⟨A + 1, k, none⟩ (.int .u8 (s : Int))).setCell ⟨A, k % 2, none⟩ (.int .i64 (y : Int))) := (c1.mono (T := FoX A rb) fun q _ hq => .inr (by simp only [] at hq; omega)).trans c2 fun q _ hq => .inr (by simp only [] at hq; omega)
  have hno : ∀ q, q < A → q ≠ rb → ¬ FoX A rb q := fun q h1 h2 hq => by
    rcases hq with hq | hq
    · exact h2 hq
    · omega
  have hrA : ¬ (fun q => q = A + 1) rb := by simp only []; omega
  refine ⟨(h.st.kept c1 (by simp)).set k y, (h.out.set k s).kept c2 (by simp), (h.rd.kept c1 (by simp only []; omega) (by simp only []; omega)).kept c2 (by simp only []; omega) (by simp only []; omega), h.ls.kept (AtC.kept m) c12 fun q hq => ⟨Nat.lt_of_lt_of_le (h.ls.lt q hq).2.1 c12.size, .inl hq⟩, h.gA, h.rA, h.sA, h.sG⟩

end Go.Proofs.Ytokeoebhmjefoaa

/- The example of chapters 10 to 12: counts 5, 2, 1. -/
namespace Go.Proofs.Ytokeoebhmjefoaa
open Go.RowKit

def exS : List Int := ((List.replicate 256 0).set 0 5).set 1 2 |>.set 2 1
theorem exS_len : exS.length = 256 := by decide +kernel
theorem exS_bnd : ∀ z ∈ exS, -9223372036854775808 ≤ z ∧ z ≤ 9223372036854775807 := by decide +kernel
theorem exS_log : logI (totalI exS) = 3 := by decide +kernel
theorem exS_spread : IsSpread (fq exS) 256 [0, 1, 2, 0, 0, 1, 0, 0] := by
  refine ⟨by decide +kernel, ?_⟩
  have h : ∀ s, s < 256 → ∀ d, d < fq exS s → ([0, 1, 2, 0, 0, 1, 0, 0] : List Nat).getD (placeF (fq exS) 256 s (fq exS s + d)) 0 = s := by decide +kernel
  exact fun s d hs hd => h s hs d hd

end Go.Proofs.Ytokeoebhmjefoaa

/- What puncheonlaw11.awake tells: the chapter's example holds. -/
namespace Go.Proofs.Ytokeoebhmjefoaa
open Go.RowKit

theorem exS_sum : sumTo (fq exS) 256 = 2 ^ 3 := by decide +kernel
theorem exS_five {l : List Cl} (h : IsDtab (fq exS) 3 l) : l.getD 5 cl0 = ⟨1, 2, 4⟩ := by
  have h1 := h.at' 1 1 (by decide) (by decide +kernel)
  rw [show placeF (fq exS) 256 1 (fq exS 1 + 1) = 5 by decide +kernel, show cellOf 3 1 (fq exS 1 + 1) = ⟨1, 2, 4⟩ by decide +kernel] at h1
  exact h1

/-- cells of a table lie within their kinds -/
theorem IsDtab.bounds {f : Nat → Nat} {R : Nat} {l : List Cl} (h : IsDtab f R l) (hs : sumTo f 256 = 2 ^ R) (h2 : R ≤ 12) {a : Nat} (ha : a < 2 ^ R) :
    (l.getD a cl0).Sym < 256 ∧ 0 ≤ (l.getD a cl0).Bits ∧ (l.getD a cl0).Bits ≤ (R : Int) ∧ 0 ≤ (l.getD a cl0).Base ∧ (l.getD a cl0).Base + ((2 ^ (l.getD a cl0).Bits.toNat : Nat) : Int) ≤ ((2 ^ R : Nat) : Int) := by
  obtain ⟨s, d, hs1, hd, hpl, he⟩ := h.is hs ha
  rw [he]
  have hb := cell_bounds (R := R) (q := f s) (s := s) (i := f s + d) (by omega) (f_le hs hs1) (by omega) (by omega)
  have e : (cellOf R s (f s + d)).Bits = ((bitsN R (f s + d) : Nat) : Int) := rfl
  rw [e, Int.toNat_natCast]
  have : bitsN R (f s + d) ≤ R := by unfold bitsN; omega
  exact ⟨hs1, by omega, by omega, hb.1, hb.2⟩
theorem IsDtab.fits {f : Nat → Nat} {R : Nat} {l : List Cl} (h : IsDtab f R l) (hs : sumTo f 256 = 2 ^ R) (h2 : R ≤ 12) : ∀ c ∈ l, c.fits := by
  intro c hc
  obtain ⟨a, ha, rfl⟩ := List.mem_iff_getElem.1 hc
  have hb := h.bounds hs h2 (a := a) (by rw [← h.len]; exact ha)
  have hp := pow12 h2
  rw [List.getD_eq_getElem?_getD, List.getElem?_eq_getElem ha] at hb
  simp only [Option.getD_some] at hb
  have hq := Nat.two_pow_pos l[a].Bits.toNat
  exact ⟨hb.1, by omega, by omega⟩
theorem IsDtab.baseOk {f : Nat → Nat} {R : Nat} {l : List Cl} (h : IsDtab f R l) (hs : sumTo f 256 = 2 ^ R) (h2 : R ≤ 12) (x : Int) : baseOk l x := by
  intro h0 h1
  have hb := h.bounds hs h2 (a := x.toNat) (by rw [← h.len]; omega)
  have hp := pow12 h2
  have hq := Nat.two_pow_pos (l.getD x.toNat cl0).Bits.toNat
  omega

end Go.Proofs.Ytokeoebhmjefoaa

/- What forth tells: what is decoded of a Reader's bits. THIS SPEAKS OF THE PROGRAM'S OWN TEXT. -/
namespace Go.Proofs.Ytokeoebhmjefoaa
open Go.RowKit

/-- bytes, or an error and none -/
def ForSays (res : Except Nat (List Nat)) (w : World) (e : Ending) (w' : World) : Prop :=
  ∃ y, e = .returned (.tuple #[y, .int .i64 ((errOf res : Nat) : Int)]) ∧ RdB w' y (outOf res) ∧ Chg (fun _ => False) w w'
theorem forSays_err {res : Except Nat (List Nat)} {w w' : World} {k : Nat} {z : Int} (h : res = .error k) (hz : z = (k : Int)) (hc : Chg (fun _ => False) w w') : ForSays res w (.returned (.tuple #[.slice none 0 0, .int .i64 z])) w' :=
  ⟨_, by rw [h, hz]; rfl, by rw [h]; exact .inl ⟨rfl, none, 0, rfl⟩, hc⟩
theorem set_zeros {o : List Nat} {K k : Nat} (s : Nat) (ho : o.length = k) (hk : k < K) : (o ++ List.replicate (K - k) 0).set k s = (o ++ [s]) ++ List.replicate (K - (k + 1)) 0 := by
  rw [List.set_append_right _ _ (by omega), ho, Nat.sub_self, show K - k = (K - (k + 1)) + 1 by omega, List.replicate_succ, List.set_cons_zero, List.append_assoc]; rfl
theorem decP_zero (m : Md) (K : Nat) (bs : List Bool) {x0 x1 : Nat} (h0 : x0 < 2 ^ RM m) (h1 : x1 < 2 ^ RM m) : DecP m K bs (x0, x1) 0 0 bs [] x0 x1 :=
  ⟨by omega, h0, h1, rfl, fun y hy => (by cases hy), by rw [preO_nil, Nat.sub_zero]⟩
theorem decP_none {m : Md} {K : Nat} {bs0 : List Bool} {st0 : Nat × Nat} {k last : Nat} {bs : List Bool} {o : List Nat} {x0 x1 : Nat} (h : DecP m K bs0 st0 k last bs o x0 x1) (hk : k < K) (hn : m.atL (last : Int) = []) : finD (decG (tabM m) K 0 0 bs0 st0) = .error 13 := by
  rw [h.rest, show K - k = (K - (k + 1)) + 1 by omega, decG_none (tabM_none hn)]
  rfl

theorem eqSt0 (W : World) : (Op.equalIn 10000 58 (.agg #[.int .i64 0, .int .i64 0]) (.agg #[.int .i64 0, .int .i64 0])).run Try.prog W = .ok true W := by kernel_rfl
theorem eqStA (n : Nat) (b : Int) (W : World) : (Op.equalIn 10000 58 (.agg #[.int .i64 ((n + 1 : Nat) : Int), .int .i64 b]) (.agg #[.int .i64 0, .int .i64 0])).run Try.prog W = .ok false W := by kernel_rfl
theorem eqStB (n : Nat) (W : World) : (Op.equalIn 10000 58 (.agg #[.int .i64 0, .int .i64 ((n + 1 : Nat) : Int)]) (.agg #[.int .i64 0, .int .i64 0])).run Try.prog W = .ok false W := by kernel_rfl
theorem eqSt_no {a b : Nat} (h : ¬ (a = 0 ∧ b = 0)) (W : World) : (Op.equalIn 10000 58 (.agg #[.int .i64 (a : Int), .int .i64 (b : Int)]) (.agg #[.int .i64 0, .int .i64 0])).run Try.prog W = .ok false W := by
  cases a with
  | succ n => exact eqStA n _ W
  | zero =>
    cases b with
    | zero => exact absurd ⟨rfl, rfl⟩ h
    | succ n => exact eqStB n W
theorem rdc_apart {V : World} {rb rg g off n cap j : Nat} {l : List Cl} {bs : List Bool} (h : RdC V (.slice (some ⟨g, off, none⟩) n cap) l) (hj : j < l.length) (hr : Rr V rb rg bs) : g ≠ rb := by
  intro he
  subst he
  obtain ⟨h1, -, -⟩ := h.at' j hj
  obtain ⟨xs, -, -, -, -, hb, -⟩ := hr
  rw [cell_of_row V _ _ _ _ _ hb] at h1
  rcases (show off + j * 3 = 0 ∨ off + j * 3 = 1 ∨ 2 ≤ off + j * 3 by omega) with h2 | h2 | h2
  · rw [h2] at h1; simp at h1
  · rw [h2] at h1; simp at h1
  · rw [Array.getElem?_eq_none (by simpa using h2)] at h1; cases h1

set_option maxRecDepth 100000 in
set_option maxHeartbeats 8000000 in
theorem lforth_any (w : World) (G rb rg : Nat) (m : Md) (cv : Value) (K : Nat) (bs0 : List Bool) (y0 y1 : Nat) (W : World) (h : LsC w G m cv W (fun k => k = rb)) (hl : RdLL w cv m.cs) (hrd : Rr W rb rg bs0) (hsG : rg ≠ G) (hr : m.right) (hK : K ≤ 131072) (hy0 : y0 < 2 ^ RM m) (hy1 : y1 < 2 ^ RM m) :
    Calls Try.prog 32 #[.pointer (some ⟨rb, 0, none⟩), .agg #[.int .i64 (y0 : Int), .int .i64 (y1 : Int)], .int .i64 (K : Int), .func (.func 33) #[.pointer (some ⟨G, 0, none⟩)] #[]] W fun e W' => ForSays (finD (decG (tabM m) K 0 0 bs0 (y0, y1))) w e W' := by
  have hent := Try.entersOfC
  obtain ⟨res, hres⟩ : ∃ res, finD (decG (tabM m) K 0 0 bs0 (y0, y1)) = res := ⟨_, rfl⟩
  rw [hres]
  have HRES := Lib.hid hres
  have ca := Chg.alloc (fun _ => False) W (.cells #[.int .i64 (y0 : Int), .int .i64 (y1 : Int)] 58)
  have hst : Stt (W.alloc (.cells #[.int .i64 (y0 : Int), .int .i64 (y1 : Int)] 58)) W.heap.size y0 y1 := heap_alloc_new W _
  have hsz : (W.alloc (.cells #[.int .i64 (y0 : Int), .int .i64 (y1 : Int)] 58)).heap.size = W.heap.size + 1 := by simp
  obtain ⟨W1, hW1⟩ : ∃ V, W.alloc (.cells #[.int .i64 (y0 : Int), .int .i64 (y1 : Int)] 58) = V := ⟨_, rfl⟩
  rw [hW1] at ca hst hsz
  obtain ⟨A, hA⟩ : ∃ A, W.heap.size = A := ⟨_, rfl⟩
  rw [hA] at hst hsz
  have HW1 := Lib.hid hW1; have HA := Lib.hid hA; have CA := Lib.hid ca; have HST := Lib.hid hst; have HSZ := Lib.hid hsz; have H := Lib.hid h; have HL := Lib.hid hl; have HRD := Lib.hid hrd; have HSG := Lib.hid hsG; have HR := Lib.hid hr; have HY := Lib.hid (And.intro hy0 hy1)
  have hKI : (K : Int) ≤ 131072 := by omega
  have hK0 : (0 : Int) ≤ (K : Int) := by omega
  clear hW1 hA ca hst hsz h hl hrd hsG hr hy0 hy1 hres
  go_enter Try.func32, Try.ntmps32
  go_upto_region 1 with fail
  rw [HW1.out, HA.out]
  go_wp2_with (at_make; refine wpList_make_bytes rfl (.tmp 16) (.tmp 16) rfl _ _ K rfl rfl rfl rfl (by omega) _ rfl ?_)
  intro W2 hrow c2
  rw [HSZ.out] at hrow ⊢
  have hinit : FoS w G A rb rg m cv W2 (List.replicate K 0) y0 y1 bs0 := by
    have hi := H.out.lt rb rfl
    have hin := H.out.inn
    have hlt := HRD.out.lt
    have hA := HA.out
    have c02 := CA.out.trans c2 fun _ _ h => h
    exact ⟨HST.out.kept c2 (by simp), hrow, HRD.out.kept c02 (by simp) (by simp), H.out.kept (AtC.kept m) (c02.mono fun _ _ h => h.elim) (fun q hq => by
      have := hrow.lt
      rcases hq with rfl | hq
      · exact ⟨by omega, .inl rfl⟩
      · exact ⟨by omega, .inr (by omega)⟩), by omega, by omega, by omega, HSG.out⟩
  have HI := Lib.hid hinit
  clear hrow c2 hinit HST CA HSZ H HRD HSG
  go_wp2
  go_loopw [20] (fun o20 wr => ∃ (k last x0 x1 : Nat) (o : List Nat) (bs : List Bool), k ≤ K ∧ o20 = .int .i64 (k : Int) ∧ FoS w G A rb rg m cv wr (o ++ List.replicate (K - k) 0) x0 x1 bs ∧ DecP m K bs0 (y0, y1) k last bs o x0 x1 ∧ (k < K → (0 :: (o ++ List.replicate (K - k) 0)).getD k 0 = last)) (fun o20 _ => K - (intOf o20).toNat)
  case atStart => exact ⟨0, 0, y0, y1, [], bs0, Nat.zero_le _, rfl, HI.out, decP_zero m K bs0 HY.out.1 HY.out.2, fun _ => rfl⟩
  case round =>
    clear HI HY
    obtain ⟨k, last, x0, x1, o, bs, hk, rfl, hs, hd, hlast⟩ := hrel
    have HS := Lib.hid hs; have HD := Lib.hid hd
    by_cases hkK : k < K
    · have hkI : (k : Int) < (K : Int) := by omega
      have hk0 : (0 : Int) ≤ (k : Int) := by omega
      have hlen : (o ++ List.replicate (K - k) 0).length = K := by rw [List.length_append, List.length_replicate, hd.len]; omega
      have hbnd : ∀ y ∈ o ++ List.replicate (K - k) 0, y < 256 := fun y hy => by
        rcases List.mem_append.1 hy with h1 | h1
        · exact hd.sym y h1
        · rw [(List.mem_replicate.1 h1).2]; omega
      have hxat := xat_any (.slice (some ⟨A + 1, 0, none⟩) (o ++ List.replicate (K - k) 0).length K) (o ++ List.replicate (K - k) 0) (k : Int) wr (hs.out.rd K) hbnd (by omega) (by omega)
      rw [atI_nat _ k (by omega), hlast hkK, hlen] at hxat
      have HXAT := Lib.hid hxat; have HKK := Lib.hid hkK; have HLEN := Lib.hid hlen
      have hlastI : (last : Int) < 256 := by have := hd.lastLt; omega
      clear hxat hlast hs hd hkK hlen hbnd hk
      go_wp2_with fail
      refine HXAT.out.mono ?_
      rintro e U1 ⟨rfl, mm, rfl⟩
      have cu1 : Chg (fun _ => False) wr (wr.drewN mm) := (Chg.refl (fun _ => False) wr).drewN mm
      obtain ⟨U1, hU1⟩ : ∃ U, wr.drewN mm = U := ⟨_, rfl⟩
      rw [hU1] at cu1 ⊢
      have hs1 := HS.out.still cu1
      have HOF := Lib.hid (lofC_any w G m cv U1 _ last hs1.ls HL.out HR.out HD.out.lastLt)
      have HS1 := Lib.hid hs1
      clear cu1 hU1 hs1 HXAT HS
      go_wp2_with fail
      refine HOF.out.mono ?_
      rintro e V2 ⟨v, rfl, l, hrd, hcel, hls, c2⟩
      have hs2 := HS1.out.turn hls c2
      obtain ⟨av, cw, rfl⟩ := hrd.form
      have HS2 := Lib.hid hs2; have HRDC := Lib.hid hrd
      by_cases hne : m.atL (last : Int) = []
      · have hl0 : l.length = 0 := by rw [hcel.1 hne]; rfl
        have HE := Lib.hid (decP_none HD.out HKK.out hne)
        rw [hl0]
        clear hl0 hne hrd hcel hls c2 hs2 HS1 HOF
        go_wp2
        go_ret2
        exact forSays_err (HRES.out.symm.trans HE.out) rfl HS2.out.ls.chg
      · have hdt := hcel.2 hne
        have hnq := norm_at HR.out _ hne
        have hsum : sumTo (fM m last) 256 = 2 ^ RM m := hnq.sum
        obtain ⟨-, hR2, -⟩ := RM_le HR.out
        have htab := tabM_one HR.out hne hdt
        have hll := hdt.len
        have hxl : lane k (x0, x1) < 2 ^ RM m := by
          unfold lane
          split
          · exact HD.out.lt1
          · exact HD.out.lt0
        have hbd := hdt.bounds hsum hR2 hxl
        have hfits := hdt.fits hsum hR2
        obtain ⟨x, hxe⟩ : ∃ x, lane k (x0, x1) = x := ⟨_, rfl⟩
        obtain ⟨R, hR⟩ : ∃ R, RM m = R := ⟨_, rfl⟩
        obtain ⟨z, hz⟩ : ∃ z, l.getD x cl0 = z := ⟨_, rfl⟩
        have hbase := hdt.baseOk hsum hR2 (x : Int)
        have hp2 := pow12 (k := RM m) hR2
        have hst := hs2.st.lane k
        rw [hxe] at hxl hbd hst
        rw [hz] at hbd
        rw [hR] at hll hxl hbd hR2 hp2
        obtain ⟨p, hp⟩ : ∃ p, k % 2 = p := ⟨_, rfl⟩
        have htm : (k : Int).tmod 2 = (p : Int) := by rw [Int.tmod_eq_emod_of_nonneg (by omega)]; omega
        have hpI : (p : Int) < 2 := by omega
        have hp0 : (0 : Int) ≤ (p : Int) := by omega
        rw [hp] at hst
        obtain ⟨gv, ov, rfl, cc0, cc1, cc2⟩ := hrd.at x (by omega)
        rw [hz] at cc0 cc1 cc2
        obtain ⟨s, I, Ba⟩ := z
        simp only [] at hbd cc0 cc1 cc2
        obtain ⟨hs256, hb0, hbR, hBa, hBe⟩ := hbd
        obtain ⟨bN, rfl⟩ := Int.eq_ofNat_of_zero_le hb0
        rw [Int.toNat_natCast] at hBe
        have h2b : 2 ^ bN ≤ 4096 := pow12 (by omega)
        obtain ⟨nl, hnl⟩ : ∃ nl, l.length = nl := ⟨_, rfl⟩
        have hxI : (x : Int) < (nl : Int) := by omega
        have hx0I : (0 : Int) ≤ (x : Int) := by omega
        have hnz : ((nl : Int) == 0) = false := by rw [beq_eq_false_iff_ne]; omega
        have hnz2 : ¬ nl = 0 := by omega
        have htk := take_any rb rg bs (bN : Int) V2 hs2.rd
        have HTK := Lib.hid htk; have HTAB := Lib.hid htab; have HXE := Lib.hid hxe; have HZ := Lib.hid hz; have HNL := Lib.hid hnl; have HFI := Lib.hid hfits; have HBASE := Lib.hid hbase; have HP := Lib.hid hp; have HRE := Lib.hid hR; have HS256 := Lib.hid hs256; have HBR := Lib.hid (show bN ≤ 12 by omega); have HBA := Lib.hid hBa; have HBE := Lib.hid hBe; have HP2 := Lib.hid hp2; have H2B := Lib.hid h2b; have HNL2 := Lib.hid (show nl ≤ 4096 by omega)
        rw [hnl]
        clear htk htab hxe hz hnl hfits hbase hp hR hs256 hBa hBe hp2 h2b hll hxl hdt hnq hsum hrd hcel hls c2 hs2 HS1 HOF hne hR2 hb0 hbR
        by_cases hbl : bs.length < bN
        · have HTN := Lib.hid (show Calls Try.prog 54 #[.pointer (some ⟨rb, 0, none⟩), .int .i64 (bN : Int)] V2 fun e w' => e = .returned (.tuple #[.int .u32 0, .bool false]) ∧ V2 = w' from HTK.out.mono fun e w' hh => by
            rcases hh with ⟨q, e1, -, e0, -, -, -⟩ | ⟨-, e2, e3⟩
            · omega
            · exact ⟨e2, e3⟩)
          have HE := Lib.hid (HD.out.short HKK.out HTAB.out (by rw [HXE.out]; exact HZ.out) hbl)
          clear HTK hbl
          go_wp2_with fail
          refine HTN.out.mono ?_
          rintro e w' ⟨rfl, rfl⟩
          clear HTN
          go_wp2
          go_ret2
          exact forSays_err (HRES.out.symm.trans HE.out) rfl HS2.out.ls.chg
        · have hv := takeV_lt bs bN
          obtain ⟨mo, hmo⟩ : ∃ mo, takeV bs bN = mo := ⟨_, rfl⟩
          rw [hmo] at hv
          have HTY := Lib.hid (show Calls Try.prog 54 #[.pointer (some ⟨rb, 0, none⟩), .int .i64 (bN : Int)] V2 fun e w' => e = .returned (.tuple #[.int .u32 (mo : Int), .bool true]) ∧ Rr w' rb rg (takeR bs bN) ∧ Chg (fun k => k = rb) V2 w' from HTK.out.mono fun e w' hh => by
            rcases hh with ⟨q, e1, -, -, e2, e3, e4⟩ | ⟨e1, -, -⟩
            · obtain rfl : bN = q := by omega
              rw [hmo] at e2
              exact ⟨e2, e3, e4⟩
            · have := HBR.out; omega)
          have HBL := Lib.hid hbl; have HMO := Lib.hid hmo; have HV := Lib.hid hv
          clear HTK hbl hmo hv
          go_wp2_with fail
          refine HTY.out.mono ?_
          rintro e V3 ⟨rfl, hr3, c3⟩
          have hs3 := HS2.out.take hr3 c3
          have hxnl : x < l.length := by rw [HNL.out]; omega
          have hgr := rdc_apart HRDC.out hxnl HS2.out.rd
          have hrd3 : RdC V3 (.slice (some ⟨gv, ov, none⟩) l.length cw) l := HRDC.out.kept c3 fun q hq => by
            simp only [Value.ownBlock, Option.some.injEq] at hq
            omega
          have hcan : canC l (x : Int) mo := by
            unfold canC
            rw [Int.toNat_natCast, HZ.out]
            simp only [Int.toNat_natCast]
            exact ⟨by omega, by omega, by omega, by have := HBR.out; omega, HV.out⟩
          have hds := dstep_any _ l (x : Int) mo V3 hrd3 HFI.out (by rw [HNL.out]; have := HNL2.out; omega) (by have := HNL2.out; omega) (Nat.lt_of_lt_of_le HV.out (Nat.le_trans H2B.out (by decide))) HBASE.out
          have hS : stepS l (x : Int) mo = s := by unfold stepS; rw [if_pos hcan, Int.toNat_natCast, HZ.out]
          have hNN : stepN l (x : Int) mo = Ba + (mo : Int) := by unfold stepN; rw [if_pos hcan, Int.toNat_natCast, HZ.out]
          obtain ⟨y, hy⟩ : ∃ y : Nat, Ba + (mo : Int) = (y : Int) := ⟨(Ba + (mo : Int)).toNat, by have := HBA.out; omega⟩
          have hyl : y < 2 ^ R := by have := HBE.out; have := HV.out; omega
          rw [hS, hNN, hy, decide_eq_true hcan, HNL.out] at hds
          have hst3 := hs3.st.lane k
          rw [HXE.out, HP.out] at hst3
          have HDS := Lib.hid hds; have HS3 := Lib.hid hs3
          have HNEXT := Lib.hid (HD.out.step HKK.out HTAB.out (by rw [HXE.out]; exact HZ.out) HS256.out HBL.out (y := y) (by rw [HMO.out]; exact hy) (by rw [HRE.out]; exact hyl))
          have hsI : (s : Int) < 256 := by have := HS256.out; omega
          have hyI : (y : Int) < 4096 := by have := HP2.out; omega
          clear hr3 c3 hs3 HTY hxnl hgr hrd3 hcan hds hS hNN hy hyl hst cc0 cc1 cc2
          go_wp2_with fail
          refine HDS.out.mono ?_
          rintro e V4 ⟨rfl, c4⟩
          have hs4 := HS3.out.still c4
          have ho1 := hs4.out.cell k (by rw [HLEN.out]; exact HKK.out)
          have ho2 := hs4.out.free k
          have hc5 := Chg.setCell V4 ⟨A + 1, k, none⟩ (.int .u8 (s : Int))
          have hst5 := hs4.st.kept hc5 (by simp)
          have hl5 := hst5.lane k
          rw [HXE.out, HP.out] at hl5
          have hf5 := hst5.free p
          obtain ⟨ov1, hov1⟩ : ∃ q, (o ++ List.replicate (K - k) 0).getD k 0 = q := ⟨_, rfl⟩
          rw [hov1] at ho1
          have hput := hs4.put k s y
          rw [HP.out] at hput
          have HPUT := Lib.hid hput
          clear c4 hs4 hc5 hst5 hov1 HDS hst3 hput
          go_wp2
          go_roundw
          case rel =>
            have hlen := HLEN.out
            have hol := HD.out.len
            have hput := HPUT.out
            rw [set_zeros s hol HKK.out] at hput
            refine ⟨k + 1, s, _, _, o ++ [s], takeR bs bN, HKK.out, by go_num, hput, HNEXT.out, fun _ => ?_⟩
            rw [List.getD_cons_succ, List.getD_eq_getElem?_getD, List.getElem?_append_left (by rw [List.length_append, hol]; simp), List.getElem?_append_right (by omega), hol, Nat.sub_self]
            rfl
          case measure =>
            have := HKK.out
            simp [intOf]
            omega
    · obtain rfl : k = K := by omega
      rw [Nat.sub_self, List.replicate_zero, List.append_nil] at hs
      have hfin := hd.fin
      rw [HRES.out] at hfin
      have hol := hd.len
      obtain ⟨q0, q1⟩ := hs.st.cells
      have HFIN := Lib.hid hfin; have HS2 := Lib.hid hs; have HLE := Lib.hid (left_any rb rg bs wr hs.rd); have HOL := Lib.hid hol
      clear hs hd hlast HS HD hk hfin hol
      by_cases hz : x0 = 0 ∧ x1 = 0
      · obtain ⟨rfl, rfl⟩ := hz
        rw [show ((0 : Nat) : Int) = 0 from rfl] at q0 q1
        have heq := eqSt0
        by_cases hb : bs = []
        · subst hb
          have HF := Lib.hid (HFIN.out.trans (if_pos ⟨rfl, rfl, rfl⟩))
          rw [show (([] : List Bool).length : Int) = 0 from rfl] at HLE
          go_wp2_with (go_at_call 60; refine HLE.out.mono ?_; rintro e w' ⟨rfl, rfl⟩)
          go_ret2
          have hrb := HS2.out.out.rd k
          rw [HOL.out] at hrb
          exact ⟨_, by rw [HF.out]; rfl, by rw [HF.out]; exact hrb, HS2.out.ls.chg⟩
        · have hbp : (0 : Int) < (bs.length : Int) := by
            have := List.length_pos_iff.2 hb
            omega
          have HF := Lib.hid (HFIN.out.trans (if_neg fun hh => hb hh.2.2))
          go_wp2_with (go_at_call 60; refine HLE.out.mono ?_; rintro e w' ⟨rfl, rfl⟩)
          go_ret2
          exact forSays_err HF.out rfl HS2.out.ls.chg
      · have HF := Lib.hid (HFIN.out.trans (if_neg fun hh => hz ⟨hh.1, hh.2.1⟩))
        have heq := eqSt_no hz
        clear hz
        go_wp2
        go_ret2
        exact forSays_err HF.out rfl HS2.out.ls.chg

end Go.Proofs.Ytokeoebhmjefoaa
