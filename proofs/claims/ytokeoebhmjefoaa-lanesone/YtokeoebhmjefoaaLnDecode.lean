/- LanesDecode: the bytes of any payload by any model, or why there are none, are as the document says. -/
import Derived.Test.YtokeoebhmjefoaaLnEncode
import Derived.Test.YtokeoebhmjefoaaBase6
namespace Go.Proofs.Ytokeoebhmjefoaa
open Go.RowKit

theorem out_lt {m : Md} {ps : List Nat} {n : Int} (hps : ∀ x ∈ ps, x < 256) : ∀ y ∈ outOf (lnRes m ps n), y < 256 := by
  cases hr : lnRes m ps n with
  | ok ys => exact (ln_one hps hr).2.2.2
  | error e => simp [outOf]
theorem out_len {m : Md} {ps : List Nat} {n : Int} (hps : ∀ x ∈ ps, x < 256) : (outOf (lnRes m ps n)).length ≤ 131072 := by
  cases hr : lnRes m ps n with
  | ok ys => exact (ln_one hps hr).2.1.2
  | error e => simp [outOf]

set_option maxHeartbeats 4000000 in
theorem lndecode_any (v u : Value) (m : Md) (xs : List Nat) (k : Int) (w : World) (h : RdM w v m) (hw : m.wide) (hlog : -9223372036854775808 ≤ m.log ∧ m.log ≤ 9223372036854775807) (hzz : ∀ l ∈ m.cs, ∀ z ∈ l, -9223372036854775808 ≤ z ∧ z ≤ 9223372036854775807) (hb : RdB w u xs) (hx : ∀ x ∈ xs, x < 256) (hk : -9223372036854775808 ≤ k ∧ k ≤ 9223372036854775807) :
    Calls Try.prog 4 #[v, u, .int .i64 k] w fun e w' => Says w e w' := by
  obtain ⟨ab, pb, rfl⟩ := hb.form
  obtain ⟨cv, rfl, h1⟩ := h
  have hfit := few_fit hlog hzz
  have HFW := Lib.hid (show ∀ W, RdLL W cv m.cs → Calls Try.prog 10 #[mdv m cv] W fun e w' => e = .returned (.bool (decide (fewL m.cs))) ∧ Chg (fun _ => False) W w' from fun W hW => r16few_wide _ m W ⟨cv, rfl, hW⟩ hw)
  have HLD := Lib.hid (show fewL m.cs → xs.length ≤ 100 → ∀ W, RdLL W cv m.cs → RdB W (.slice ab xs.length pb) xs → Calls Try.prog 16 #[mdv m cv, .slice ab xs.length pb, .int .i64 k] W fun e w' => ∃ y, e = .returned (.tuple #[y, .int .i64 ((errOf (lnRes m xs k) : Nat) : Int)]) ∧ RdB w' y (outOf (lnRes m xs k)) ∧ Chg (fun _ => False) W w' from fun hf hl W hW hb => ldecode_any _ _ m xs k W ⟨cv, rfl, hW⟩ (hfit hf) hb hx (by omega) hk)
  have HRD := Lib.hid (show fewL m.cs → xs.length ≤ 100 → ∀ W, RdLL W cv m.cs → RdB W (.slice ab xs.length pb) xs → Calls Try.prog 17 #[mdv m cv, .slice ab xs.length pb, .int .i64 k] W fun e w' => ∃ y, e = .returned (.tuple #[y, .int .i64 ((errOf (lnRes m xs k) : Nat) : Int)]) ∧ RdB w' y (outOf (lnRes m xs k)) ∧ Chg (fun _ => False) W w' from fun hf hl W hW hb => r17decode_any _ _ m xs k W ⟨cv, rfl, hW⟩ (hfit hf) hb hx (by omega) hk)
  have HLT := Lib.hid (out_lt (m := m) (n := k) hx)
  obtain ⟨Y, hY⟩ : ∃ Y, outOf (lnRes m xs k) = Y := ⟨_, rfl⟩
  obtain ⟨E, hE⟩ : ∃ E, errOf (lnRes m xs k) = E := ⟨_, rfl⟩
  rw [hY, hE] at HLD HRD
  rw [hY] at HLT
  obtain ⟨ao, cap, rfl⟩ := h1.form
  obtain ⟨log, one, cs⟩ := m
  simp only [] at h1 hlog hfit
  unfold mdv at HFW HLD HRD ⊢
  simp only [] at HFW HLD HRD ⊢
  obtain ⟨N, hN⟩ : ∃ N, xs.length = N := ⟨_, rfl⟩
  rw [hN] at HLD HRD ⊢
  obtain ⟨n, hn⟩ : ∃ n, cs.length = n := ⟨_, rfl⟩
  rw [hn] at HFW HLD HRD h1 ⊢
  have hca := Chg.alloc (fun _ => False) w (.cells #[.int .i64 log, .bool one, .slice ao n cap] 24)
  have hmb : Mb _ _ log one (.slice ao n cap) := heap_alloc_new w (.cells #[.int .i64 log, .bool one, .slice ao n cap] 24)
  obtain ⟨W, hW⟩ : ∃ W, w.alloc (.cells #[.int .i64 log, .bool one, .slice ao n cap] 24) = W := ⟨_, rfl⟩
  rw [hW] at hca hmb
  have hbb := hb.kept hca (by simp)
  rw [hN] at hbb
  have HK := Lib.hid (show ∀ W W' : World, (Mb W w.heap.size log one (.slice ao n cap) ∧ RdLL W (.slice ao n cap) cs ∧ RdB W (.slice ab N pb) xs ∧ Chg (fun _ => False) w W) → Chg (fun _ => False) W W' → (Mb W' w.heap.size log one (.slice ao n cap) ∧ RdLL W' (.slice ao n cap) cs ∧ RdB W' (.slice ab N pb) xs ∧ Chg (fun _ => False) w W') from fun W W' ⟨h1, h2, h3, h4⟩ hc => ⟨h1.kept hc (by simp), h2.kept hc, h3.kept hc (by simp), h4.trans hc fun _ _ h => h⟩)
  have HS := Lib.hid (show Mb W w.heap.size log one (.slice ao n cap) ∧ RdLL W (.slice ao n cap) cs ∧ RdB W (.slice ab N pb) xs ∧ Chg (fun _ => False) w W from ⟨hmb, h1.kept hca, hbb, hca⟩)
  have HAW := Lib.hid (awake17_any W)
  obtain ⟨hl0, hl1⟩ := hlog
  obtain ⟨hk0, hk1⟩ := hk
  clear h1 hw hzz hb hx hfit hca hmb hbb hn hN hY hE
  go_enter Try.func4, Try.ntmps4
  go_wp2_with fail
  refine HAW.out.mono ?_
  rintro e w1 ⟨rfl, hc1⟩
  have HS1 := Lib.hid (HK.out _ _ HS.out hc1)
  obtain ⟨b0, b1, b2⟩ := HS1.out.1.cells
  clear hc1 HS HAW hW
  go_wp2_with fail
  refine (HFW.out w1 HS1.out.2.1).mono ?_
  rintro e w2 ⟨rfl, hc2⟩
  have HS2 := Lib.hid (HK.out _ _ HS1.out hc2)
  obtain ⟨c0, c1, c2⟩ := HS2.out.1.cells
  clear hc2 b0 b1 b2 HS1 HFW
  by_cases hfew : fewL cs
  · rw [decide_eq_true hfew]
    by_cases hbig : 100 < N
    · have d1 : decide (100 < (N : Int)) = true := decide_eq_true (by omega)
      go_wp2
      go_ret
      exact ⟨rfl, HS2.out.2.2.2⟩
    · have d1 : decide (100 < (N : Int)) = false := decide_eq_false (by omega)
      by_cases hlb : 9 < log
      · have d2 : decide (9 < log) = true := decide_eq_true hlb
        go_wp2
        go_ret
        exact ⟨rfl, HS2.out.2.2.2⟩
      · have d2 : decide (9 < log) = false := decide_eq_false hlb
        by_cases hkk : 60 < k ∧ k ≤ 131072
        · have d3 : decide (60 < k) = true := decide_eq_true hkk.1
          have d4 : decide (k ≤ 131072) = true := decide_eq_true hkk.2
          clear hkk
          go_wp2
          go_ret
          exact ⟨rfl, HS2.out.2.2.2⟩
        · have HLD := Lib.hid (HLD.out hfew (by omega)); have HRD := Lib.hid (HRD.out hfew (by omega))
          have hrest : ∀ P : Prop, (decide (60 < k) = false → P) → (decide (60 < k) = true → decide (k ≤ 131072) = false → P) → P := fun P h1 h2 => by
            by_cases hh : 60 < k
            · exact h2 (decide_eq_true hh) (decide_eq_false fun h => hkk ⟨hh, h⟩)
            · exact h1 (decide_eq_false hh)
          clear hkk hfew hbig hlb
          refine hrest _ (fun d3 => ?_) (fun d3 d4 => ?_)
          · clear hrest
            go_wp2_with fail
            refine (HLD.out w2 HS2.out.2.1 HS2.out.2.2.1).mono ?_
            rintro e w3 ⟨p, rfl, hp, hc3⟩
            obtain ⟨ap, cp, rfl⟩ := hp.form
            have HS3 := Lib.hid (HK.out _ _ HS2.out hc3); have HP3 := Lib.hid hp
            clear hc3 hp c0 c1 c2 HS2 HLD
            obtain ⟨c0, c1, c2⟩ := HS3.out.1.cells
            go_wp2_with fail
            refine (HRD.out w3 HS3.out.2.1 HS3.out.2.2.1).mono ?_
            rintro e w4 ⟨q, rfl, hq, hc4⟩
            obtain ⟨aq, cq, rfl⟩ := hq.form
            have HS4 := Lib.hid (HK.out _ _ HS3.out hc4); have HP4 := Lib.hid (HP3.out.kept hc4 (by simp)); have HQ4 := Lib.hid hq
            clear hc4 hq c0 c1 c2 HS3 HP3 HRD
            go_wp2_with fail
            refine (same_any _ _ Y Y w4 HP4.out HQ4.out HLT.out HLT.out).mono ?_
            rintro e w6 ⟨rfl, rfl⟩
            rw [decide_eq_true rfl]
            go_wp2
            go_ret
            exact ⟨rfl, HS4.out.2.2.2⟩
          · clear hrest
            go_wp2_with fail
            refine (HLD.out w2 HS2.out.2.1 HS2.out.2.2.1).mono ?_
            rintro e w3 ⟨p, rfl, hp, hc3⟩
            obtain ⟨ap, cp, rfl⟩ := hp.form
            have HS3 := Lib.hid (HK.out _ _ HS2.out hc3); have HP3 := Lib.hid hp
            clear hc3 hp c0 c1 c2 HS2 HLD
            obtain ⟨c0, c1, c2⟩ := HS3.out.1.cells
            go_wp2_with fail
            refine (HRD.out w3 HS3.out.2.1 HS3.out.2.2.1).mono ?_
            rintro e w4 ⟨q, rfl, hq, hc4⟩
            obtain ⟨aq, cq, rfl⟩ := hq.form
            have HS4 := Lib.hid (HK.out _ _ HS3.out hc4); have HP4 := Lib.hid (HP3.out.kept hc4 (by simp)); have HQ4 := Lib.hid hq
            clear hc4 hq c0 c1 c2 HS3 HP3 HRD
            go_wp2_with fail
            refine (same_any _ _ Y Y w4 HP4.out HQ4.out HLT.out HLT.out).mono ?_
            rintro e w6 ⟨rfl, rfl⟩
            rw [decide_eq_true rfl]
            go_wp2
            go_ret
            exact ⟨rfl, HS4.out.2.2.2⟩
  · rw [decide_eq_false hfew]
    go_wp2
    go_ret
    exact ⟨rfl, HS2.out.2.2.2⟩

end Go.Proofs.Ytokeoebhmjefoaa
