/- LanesEncode: the payload of any bytes by any model, and how many bits it has, or that there is none, is as the document says. -/
import Derived.Test.YtokeoebhmjefoaaBase6
namespace Go.Proofs.Ytokeoebhmjefoaa
open Go.RowKit

theorem few_fit {m : Md} (hlog : -9223372036854775808 ≤ m.log ∧ m.log ≤ 9223372036854775807) (hzz : ∀ l ∈ m.cs, ∀ z ∈ l, -9223372036854775808 ≤ z ∧ z ≤ 9223372036854775807) (hf : fewL m.cs) : m.fit64 :=
  ⟨hlog, by have := hf.2.1; omega, fun l hl => ⟨by
    obtain ⟨j, hj, rfl⟩ := List.mem_iff_getElem.1 hl
    have := hf.1 j hj
    rw [List.getD_eq_getElem?_getD, List.getElem?_eq_getElem hj] at this
    simp only [Option.getD_some] at this
    omega, hzz l hl⟩⟩

set_option maxHeartbeats 4000000 in
theorem lnencode_any (v u : Value) (m : Md) (xs : List Nat) (w : World) (h : RdM w v m) (hw : m.wide) (hlog : -9223372036854775808 ≤ m.log ∧ m.log ≤ 9223372036854775807) (hzz : ∀ l ∈ m.cs, ∀ z ∈ l, -9223372036854775808 ≤ z ∧ z ≤ 9223372036854775807) (hb : RdB w u xs) (hx : ∀ x ∈ xs, x < 256) :
    Calls Try.prog 3 #[v, u] w fun e w' => Says w e w' := by
  obtain ⟨ab, pb, rfl⟩ := hb.form
  obtain ⟨cv, rfl, h1⟩ := h
  have hfit := few_fit hlog hzz
  have HFW := Lib.hid (show ∀ W, RdLL W cv m.cs → Calls Try.prog 10 #[mdv m cv] W fun e w' => e = .returned (.bool (decide (fewL m.cs))) ∧ Chg (fun _ => False) W w' from fun W hW => r16few_wide _ m W ⟨cv, rfl, hW⟩ hw)
  have HLE := Lib.hid (show fewL m.cs → xs.length ≤ 60 → ∀ W, RdLL W cv m.cs → RdB W (.slice ab xs.length pb) xs → Calls Try.prog 11 #[mdv m cv, .slice ab xs.length pb] W fun e w' => ∃ p, e = .returned (.tuple #[p, .int .i64 (lnErr m xs)]) ∧ RdB w' p (lnEnc m xs) ∧ RoomOk p ∧ Chg (fun _ => False) W w' from fun hf hl W hW hb => lencode_any _ _ m xs W ⟨cv, rfl, hW⟩ (hfit hf) hb hx (by omega))
  have HRE := Lib.hid (show fewL m.cs → xs.length ≤ 60 → ∀ W, RdLL W cv m.cs → RdB W (.slice ab xs.length pb) xs → Calls Try.prog 12 #[mdv m cv, .slice ab xs.length pb] W fun e w' => ∃ p, e = .returned (.tuple #[p, .int .i64 (lnErr m xs)]) ∧ RdB w' p (lnEnc m xs) ∧ Chg (fun _ => False) W w' from fun hf hl W hW hb => r17encode_any _ _ m xs W ⟨cv, rfl, hW⟩ (hfit hf) hb hx (by omega))
  have HRB := Lib.hid (show xs.length ≤ 60 → m.fits xs → ∀ W, RdLL W cv m.cs → RdB W (.slice ab xs.length pb) xs → Calls Try.prog 13 #[mdv m cv, .slice ab xs.length pb] W fun e w' => ∃ v', e = .returned v' ∧ Bools w' v' (payL m xs) ∧ Chg (fun _ => False) W w' from fun hl hf W hW hb => r17bits_any _ _ m xs W ⟨cv, rfl, hW⟩ hf hb hx (by omega))
  have HLB := Lib.hid (show fewL m.cs → xs.length ≤ 60 → ∀ W, RdLL W cv m.cs → RdB W (.slice ab xs.length pb) xs → Calls Try.prog 15 #[mdv m cv, .slice ab xs.length pb] W fun e w' => e = .returned (.int .i64 ((lnBits m xs : Nat) : Int)) ∧ Chg (fun _ => False) W w' from fun hf hl W hW hb => lbits_any _ _ m xs W ⟨cv, rfl, hW⟩ (hfit hf) hb hx (by omega))
  have HLT := Lib.hid (show ∀ x ∈ lnEnc m xs, x < 256 from by
    unfold lnEnc
    split
    · exact pack_lt _
    · simp)
  have HLL := Lib.hid (show xs.length ≤ 60 → (lnEnc m xs).length < 1000000 from fun hl => by
    unfold lnEnc
    split
    · rename_i hok
      rw [(close_last (payL m xs)).1]
      have := payL_len hok.1 hx (by omega)
      omega
    · simp)
  have HOK := Lib.hid (show (¬ lnOk m xs → lnErr m xs = 1 ∧ lnBits m xs = 0) ∧ (lnOk m xs → lnErr m xs = 0 ∧ lnBits m xs = (payL m xs).length) from ⟨fun hh => by unfold lnErr lnBits; rw [if_neg hh, if_neg hh]; exact ⟨rfl, rfl⟩, fun hh => by unfold lnErr lnBits; rw [if_pos hh, if_pos hh]; exact ⟨rfl, rfl⟩⟩)
  obtain ⟨ao, cap, rfl⟩ := h1.form
  obtain ⟨M, hM⟩ : ∃ M, m = M := ⟨_, rfl⟩
  rw [hM] at HFW HLE HRE HRB HLB HLT HLL HOK
  have hmdv : ∀ cv, mdv M cv = .agg #[.int .i64 M.log, .bool M.one, cv] := fun cv => rfl
  obtain ⟨log, hlg⟩ : ∃ log, M.log = log := ⟨_, rfl⟩
  obtain ⟨one, hon⟩ : ∃ one, M.one = one := ⟨_, rfl⟩
  obtain ⟨cs, hcs⟩ : ∃ cs, M.cs = cs := ⟨_, rfl⟩
  rw [hM] at h1 ⊢
  rw [hmdv, hlg, hon, hcs] at HFW HLE HRE HRB HLB
  rw [hmdv, hlg, hon, hcs]
  rw [hcs] at h1
  have hlog' : -9223372036854775808 ≤ log ∧ log ≤ 9223372036854775807 := by rw [← hlg, ← hM]; exact hlog
  obtain ⟨N, hN⟩ : ∃ N, xs.length = N := ⟨_, rfl⟩
  rw [hN] at HLE HRE HRB HLB HLL ⊢
  obtain ⟨n, hn⟩ : ∃ n, cs.length = n := ⟨_, rfl⟩
  rw [hn] at HFW HLE HRE HRB HLB h1 ⊢
  have hca := Chg.alloc (fun _ => False) w (.cells #[.int .i64 log, .bool one, .slice ao n cap] 24)
  have hmb : Mb _ _ log one (.slice ao n cap) := heap_alloc_new w (.cells #[.int .i64 log, .bool one, .slice ao n cap] 24)
  obtain ⟨W, hW⟩ : ∃ W, w.alloc (.cells #[.int .i64 log, .bool one, .slice ao n cap] 24) = W := ⟨_, rfl⟩
  rw [hW] at hca hmb
  have hbb := hb.kept hca (by simp)
  rw [hN] at hbb
  have HK := Lib.hid (show ∀ W W' : World, (Mb W w.heap.size log one (.slice ao n cap) ∧ RdLL W (.slice ao n cap) cs ∧ RdB W (.slice ab N pb) xs ∧ Chg (fun _ => False) w W) → Chg (fun _ => False) W W' → (Mb W' w.heap.size log one (.slice ao n cap) ∧ RdLL W' (.slice ao n cap) cs ∧ RdB W' (.slice ab N pb) xs ∧ Chg (fun _ => False) w W') from fun W W' ⟨h1, h2, h3, h4⟩ hc => ⟨h1.kept hc (by simp), h2.kept hc, h3.kept hc (by simp), h4.trans hc fun _ _ h => h⟩)
  have HS := Lib.hid (show Mb W w.heap.size log one (.slice ao n cap) ∧ RdLL W (.slice ao n cap) cs ∧ RdB W (.slice ab N pb) xs ∧ Chg (fun _ => False) w W from ⟨hmb, h1.kept hca, hbb, hca⟩)
  have HAW := Lib.hid (awake17_any W)
  obtain ⟨hl0, hl1⟩ := hlog'
  clear h1 hw hlog hzz hb hx hfit hca hmb hbb hn hN hM hmdv hlg hon hcs
  go_enter Try.func3, Try.ntmps3
  go_wp2_with fail
  refine HAW.out.mono ?_
  rintro e w1 ⟨rfl, hc1⟩
  have HS1 := Lib.hid (HK.out _ _ HS.out hc1)
  obtain ⟨b0, b1, b2⟩ := HS1.out.1.cells
  clear hc1 HS HAW hW
  go_wp2_with fail
  refine (HFW.out w1 HS1.out.2.1).mono ?_
  rintro e w2 ⟨rfl, hc2⟩
  have HS2 := Lib.hid (HK.out _ _ HS1.out hc2)
  obtain ⟨c0, c1, c2⟩ := HS2.out.1.cells
  clear hc2 b0 b1 b2 HS1 HFW
  by_cases hfew : fewL cs
  · rw [decide_eq_true hfew]
    by_cases hbig : 60 < N
    · have d1 : decide (60 < (N : Int)) = true := decide_eq_true (by omega)
      go_wp2
      go_ret
      exact ⟨rfl, HS2.out.2.2.2⟩
    · have d1 : decide (60 < (N : Int)) = false := decide_eq_false (by omega)
      by_cases hlb : 9 < log
      · have d2 : decide (9 < log) = true := decide_eq_true hlb
        go_wp2
        go_ret
        exact ⟨rfl, HS2.out.2.2.2⟩
      · have d2 : decide (9 < log) = false := decide_eq_false hlb
        have HLE := Lib.hid (HLE.out hfew (by omega)); have HRE := Lib.hid (HRE.out hfew (by omega)); have HLB := Lib.hid (HLB.out hfew (by omega)); have HRB := Lib.hid (HRB.out (by omega)); have HLL := Lib.hid (HLL.out (by omega))
        obtain ⟨E, hE⟩ : ∃ E, lnErr M xs = E := ⟨_, rfl⟩
        obtain ⟨B, hB⟩ : ∃ B, lnBits M xs = B := ⟨_, rfl⟩
        obtain ⟨P, hP⟩ : ∃ P, lnEnc M xs = P := ⟨_, rfl⟩
        rw [hE, hP] at HLE HRE
        rw [hB] at HLB
        rw [hP] at HLT HLL
        rw [hE, hB] at HOK
        clear hE hB hP hfew hbig hlb
        go_wp2_with fail
        refine (HLE.out w2 HS2.out.2.1 HS2.out.2.2.1).mono ?_
        rintro e w3 ⟨p, rfl, hp, _, hc3⟩
        obtain ⟨ap, cp, rfl⟩ := hp.form
        have HS3 := Lib.hid (HK.out _ _ HS2.out hc3); have HP3 := Lib.hid hp
        clear hc3 hp c0 c1 c2 HS2 HLE
        obtain ⟨c0, c1, c2⟩ := HS3.out.1.cells
        go_wp2_with fail
        refine (HRE.out w3 HS3.out.2.1 HS3.out.2.2.1).mono ?_
        rintro e w4 ⟨q, rfl, hq, hc4⟩
        obtain ⟨aq, cq, rfl⟩ := hq.form
        have HS4 := Lib.hid (HK.out _ _ HS3.out hc4); have HP4 := Lib.hid (HP3.out.kept hc4 (by simp)); have HQ4 := Lib.hid hq
        clear hc4 hq c0 c1 c2 HS3 HP3 HRE
        obtain ⟨c0, c1, c2⟩ := HS4.out.1.cells
        by_cases hok : lnOk M xs
        · obtain ⟨hE, hB⟩ := HOK.out.2 hok
          subst hE
          have HBB := Lib.hid hB; have HFT := Lib.hid hok.1
          clear hB hok HOK
          go_wp2_with fail
          refine (HRB.out HFT.out w4 HS4.out.2.1 HS4.out.2.2.1).mono ?_
          rintro e w5 ⟨v5, rfl, ⟨base5, hbo⟩, hc5⟩
          obtain ⟨a5, c5, rfl⟩ := own_formL hbo
          have HS5 := Lib.hid (HK.out _ _ HS4.out hc5); have HP5 := Lib.hid (HP4.out.kept hc5 (by simp)); have HQ5 := Lib.hid (HQ4.out.kept hc5 (by simp))
          rw [← HBB.out]
          clear hc5 hbo c0 c1 c2 HS4 HP4 HQ4 HRB
          obtain ⟨c0, c1, c2⟩ := HS5.out.1.cells
          go_wp2_with fail
          refine (same_any _ _ P P w5 HP5.out HQ5.out HLT.out HLT.out).mono ?_
          rintro e w6 ⟨rfl, rfl⟩
          rw [decide_eq_true rfl]
          go_wp2_with fail
          refine (HLB.out _ HS5.out.2.1 HS5.out.2.2.1).mono ?_
          rintro e w7 ⟨rfl, hc7⟩
          have HC7 := Lib.hid (HS5.out.2.2.2.trans hc7 fun _ _ h => h)
          clear hc7
          go_wp2
          go_ret
          exact ⟨rfl, HC7.out⟩
        · obtain ⟨hE, hB⟩ := HOK.out.1 hok
          subst hE
          subst hB
          clear hok HOK HRB
          go_wp2_with fail
          refine (same_any _ _ P P w4 HP4.out HQ4.out HLT.out HLT.out).mono ?_
          rintro e w6 ⟨rfl, rfl⟩
          rw [decide_eq_true rfl]
          go_wp2_with fail
          refine (HLB.out _ HS4.out.2.1 HS4.out.2.2.1).mono ?_
          rintro e w7 ⟨rfl, hc7⟩
          have HC7 := Lib.hid (HS4.out.2.2.2.trans hc7 fun _ _ h => h)
          clear hc7
          go_wp2
          go_ret
          exact ⟨rfl, HC7.out⟩
  · rw [decide_eq_false hfew]
    go_wp2
    go_ret
    exact ⟨rfl, HS2.out.2.2.2⟩

end Go.Proofs.Ytokeoebhmjefoaa
