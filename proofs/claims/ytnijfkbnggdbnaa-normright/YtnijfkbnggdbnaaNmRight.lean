/- The walk of NormRight. -/
import Derived.Test.YtnijfkbnggdbnaaNmNear
namespace Go.Proofs.Ytnijfkbnggdbnaa
open Go.RowKit

theorem norm_twice {c : List Int} {k : Nat} (h : normOk c (k : Int)) : normOk (normR c (k : Int)) (k : Int) ∧ normR (normR c (k : Int)) (k : Int) = normR c (k : Int) ∧ totalI (normR c (k : Int)) = ((2 ^ k : Nat) : Int) := by
  have hf := h.fit
  rw [Int.toNat_natCast] at hf
  have hr : normR c (k : Int) = normC c ((2 ^ k : Nat) : Int) := by unfold normR; rw [Int.toNat_natCast]
  have hk : k ≤ 12 := by have := h.2.2.2.1; omega
  have hp := pow12 hk
  have hS1 := Nat.two_pow_pos k
  rw [hr]
  have hl := norm_len hf
  have hs := norm_sum hf
  have hn := norm_nonneg hf
  have hrt : isRight (normC c ((2 ^ k : Nat) : Int)) := ⟨hl, hn, by rw [hs]; omega⟩
  have hpos : pos (normC c ((2 ^ k : Nat) : Int)) = pos c := pos_same _ _ (by rw [hl, hf.len]) (fun s hs => (norm_pos hf s (by omega)).2)
  refine ⟨⟨hrt, by rw [hs]; omega, h.2.2.1, h.2.2.2.1, by rw [hpos, Int.toNat_natCast]; exact hf.many⟩, ?_, ?_⟩
  · unfold normR
    rw [Int.toNat_natCast]
    have := norm_again (q := normC c ((2 ^ k : Nat) : Int)) hn (by rw [hs]; omega)
    rw [hs] at this
    exact this
  · unfold totalI; rw [if_pos hrt, hs]

set_option maxHeartbeats 4000000 in
set_option maxRecDepth 100000 in
theorem nright_walk (v : Value) (xs : List Nat) (r : Nat) (w : World) (h : RdH w v xs) (hx : ∀ x ∈ xs, x < 65536) (hr : r < 256) :
    Calls Try.prog 5 #[v, .int .u8 (r : Int)] w fun e w' => Says w e w' := by
  obtain ⟨ao, cap, rfl⟩ := h.form
  have H := Lib.hid h; have HX := Lib.hid hx
  clear h hx
  by_cases hbig : 80 < xs.length
  · have hb' : decide (80 < (xs.length : Int)) = true := by simp; omega
    go_enter Try.func5, Try.ntmps5
    go_wp2_with fail
    refine (awake8_any w).mono ?_
    rintro e w1 ⟨rfl, q1⟩
    go_wp2
    go_ret
    exact ⟨rfl, q1⟩
  have hb' : decide (80 < (xs.length : Int)) = false := by simp; omega
  obtain ⟨hrt, htot⟩ := someC_right xs HX.out
  obtain ⟨C, hC⟩ : ∃ C, someC xs = C := ⟨_, rfl⟩
  rw [hC] at hrt htot
  have HC := Lib.hid hC; have HRT := Lib.hid hrt; have HCB := Lib.hid (right_bnd hrt)
  have HCL := Lib.hid hrt.1
  have htI : totalI C = tot C := by unfold totalI; rw [if_pos hrt]
  have hmI : manyI C = pos C := by unfold manyI; rw [if_pos hrt]
  have hmle := manyI_le C
  rw [hmI] at hmle
  have htn := tot_nonneg C hrt.2.1
  obtain ⟨rr, hrr⟩ : ∃ rr, r % 12 = rr := ⟨_, rfl⟩
  have hrr' : (r : Int) % 12 = (rr : Int) := by omega
  obtain ⟨k, hk⟩ : ∃ k, 1 + rr = k := ⟨_, rfl⟩
  have hkI : 1 + (rr : Int) = (k : Int) := by omega
  have hk12 : k ≤ 12 := by omega
  have hk1 : 1 ≤ k := by omega
  have hk12I : (k : Int) ≤ 12 := by omega
  have hrr12 : (rr : Int) < 12 := by omega
  have hS := pow12 hk12
  have hS1 := Nat.two_pow_pos k
  have hlg := logI_pow hk1 hk12
  obtain ⟨S, hSe⟩ : ∃ S, 2 ^ k = S := ⟨_, rfl⟩
  rw [hSe] at hS hS1 hlg
  have eS : (2 : Int) ^ k = (S : Int) := by rw [← hSe]; simp
  have hokI : normOk C (k : Int) ↔ 0 < tot C ∧ (pos C : Int) ≤ (S : Int) := by
    unfold normOk
    rw [Int.toNat_natCast, hSe]
    exact ⟨fun hh => ⟨hh.2.1, hh.2.2.2.2⟩, fun hh => ⟨hrt, hh.1, by omega, by omega, hh.2⟩⟩
  obtain ⟨n, hn⟩ : ∃ n, tot C = n := ⟨_, rfl⟩
  obtain ⟨p, hp⟩ : ∃ p, pos C = p := ⟨_, rfl⟩
  rw [hn] at htI hokI htot htn
  rw [hp] at hmI hokI hmle
  have HSE := Lib.hid hSe; have HOKI := Lib.hid hokI; have HTI := Lib.hid htI; have HMI := Lib.hid hmI; have HLG := Lib.hid hlg
  have hmle' : (p : Int) ≤ 256 := by omega
  have HMLE := Lib.hid hmle
  clear hC hrt hrr hk hSe hokI htI hmI hn hp hlg hmle
  go_enter Try.func5, Try.ntmps5
  go_wp2_with fail
  refine (awake8_any w).mono ?_
  rintro e w1 ⟨rfl, q1⟩
  go_wp2_with fail
  refine (r5some_any _ xs w1 (H.out.kept q1 (by simp)) HX.out (by omega)).mono ?_
  rintro e w2 ⟨v2, rfl, ho2, hc2⟩
  rw [HC.out] at ho2
  have q2 := q1.trans hc2 (fun _ _ h => h)
  clear q1 hc2
  go_wp2_with fail
  refine (ncounts_any _ C (k : Int) w2 ho2.rd HCB.out (by rw [HCL.out]; omega) (by omega)).mono ?_
  rintro e w3 ⟨v3, rfl, y3, n3, hc3⟩
  have q3 := q2.trans hc3 (fun _ _ h => h)
  have o2 := ho2.kept hc3 (by simp)
  clear q2 hc3 ho2
  have HTQ : Hid (∀ m : Nat, Calls Try.prog 17 #[v2] (w3.drewN m) fun e w' => e = .returned (.int .i64 n) ∧ ∃ m', w' = (w3.drewN m).drewN m') :=
    Lib.hid fun m => by rw [← HTI.out]; exact htotal_any _ C (w3.drewN m) (o2.rd.kept ((Chg.refl (fun _ => False) w3).drewN m) (by simp)) HCB.out (by rw [HCL.out]; omega)
  have HMQ : Hid (∀ m : Nat, Calls Try.prog 18 #[v2] (w3.drewN m) fun e w' => e = .returned (.int .i64 (p : Int)) ∧ ∃ m', w' = (w3.drewN m).drewN m') :=
    Lib.hid fun m => by rw [← HMI.out]; exact hmany_any _ C (w3.drewN m) (o2.rd.kept ((Chg.refl (fun _ => False) w3).drewN m) (by simp)) HCB.out (by rw [HCL.out]; omega)
  by_cases hok : normOk C (k : Int)
  · rw [if_pos hok]
    obtain ⟨hn0, hpS⟩ := HOKI.out.1 hok
    have o3 := y3 hok
    obtain ⟨t1, t2, t3⟩ := norm_twice hok
    have hfit := hok.fit
    have hnl : (normR C (k : Int)).length = 256 := norm_len hfit
    have hpos : ∀ s, s < 256 → (0 < (normR C (k : Int)).getD s 0 ↔ 0 < C.getD s 0) := fun s hs => (norm_pos hfit s hs).2
    rw [HSE.out] at t3
    obtain ⟨Q, hQ⟩ : ∃ Q, normR C (k : Int) = Q := ⟨_, rfl⟩
    rw [hQ] at o3 hnl t1 t2 t3 hpos
    have HT1 := Lib.hid t1; have HT2 := Lib.hid t2; have HT3 := Lib.hid t3; have HNL := Lib.hid hnl; have HPOS := Lib.hid hpos
    have HQB := Lib.hid (right_bnd t1.1)
    obtain ⟨g2, o2', k2, rfl, -, hgl2, cl2, -⟩ := o2
    have rd3 := o3.rd
    obtain ⟨g3, o3', k3, rfl, -, hgl3, cl3, -⟩ := o3
    rw [hnl] at rd3
    have RD3 := Lib.hid rd3; have CL2 := Lib.hid cl2; have CL3 := Lib.hid cl3; have Q3 := Lib.hid q3
    rw [HCL.out] at HTQ HMQ
    rw [HCL.out, hnl]
    have e1 : (n == 0) = false := by simp; omega
    have hpS' : ¬ S < p := by omega
    have d1 : decide ((S : Int) < (p : Int)) = false := by simp; omega
    have hwS : IntKind.i64.wrap (S : Int) = (S : Int) := by rw [IntKind.wrap_i64]; omega
    clear rd3 cl2 cl3 y3 n3 hQ hnl hok hfit t1 t2 t3 hpos hgl2 hgl3 q3
    go_wp2
    go_quiet (first | (go_at_call 17; with_reducible exact Calls.quiet_of (HTQ.out _)) | (go_at_call 18; with_reducible exact Calls.quiet_of (HMQ.out _)))
    go_wp2
    go_loopw [10] (fun o10 wr => ∃ s : Nat, s ≤ 256 ∧ o10 = .int .i64 (s : Int) ∧ ∃ m, wr = w3.drewN m) (fun o10 _ => 256 - (intOf o10).toNat)
    case atStart => exact ⟨0, Nat.zero_le _, rfl, _, rfl⟩
    case round =>
      obtain ⟨s, hs, rfl, m, rfl⟩ := hrel
      by_cases hlt : s < 256
      · have d8 : decide ((s : Int) < 256) = true := by simp; omega
        have hsI : (s : Int) < 256 := by omega
        have c2 := CL2.out s (by rw [HCL.out]; exact hlt)
        have c3 := CL3.out s (by rw [HNL.out]; exact hlt)
        have hps := HPOS.out s hlt
        generalize C.getD s 0 = x at *
        generalize Q.getD s 0 = z at *
        by_cases hx : 0 < x
        · have dx : decide (0 < x) = true := decide_eq_true hx
          have dz : decide (0 < z) = true := decide_eq_true (hps.2 hx)
          have hz : 0 < z := hps.2 hx
          clear hps
          go_wp2
          go_quiet (fail)
          go_wp2
          go_roundw
          case rel => exact ⟨s + 1, by omega, by go_num, _, rfl⟩
          case measure => simp [intOf]; omega
        · have dx : decide (0 < x) = false := decide_eq_false hx
          have hz : ¬ 0 < z := fun h => hx (hps.1 h)
          have dz : decide (0 < z) = false := decide_eq_false hz
          clear hps
          go_wp2
          go_quiet (fail)
          go_wp2
          go_roundw
          case rel => exact ⟨s + 1, by omega, by go_num, _, rfl⟩
          case measure => simp [intOf]; omega
      · have hsI : (s : Int) = 256 := by omega
        rw [hsI]
        clear hsI hs hlt
        have RD := Lib.hid (RD3.out.kept ((Chg.refl (fun _ => False) w3).drewN m) (by simp)); have QD := Lib.hid (Q3.out.drewN m)
        obtain ⟨W, hW⟩ : ∃ W, w3.drewN m = W := ⟨_, rfl⟩
        rw [hW] at RD QD ⊢
        clear hW
        go_wp2_with fail
        refine (ncounts_any _ Q (k : Int) W RD.out HQB.out (by rw [HNL.out]; omega) (by omega)).mono ?_
        rintro e w5 ⟨v5, rfl, y5, n5, hc5⟩
        rw [if_pos HT1.out]
        have o5 := (y5 HT1.out).rd
        rw [HT2.out] at o5
        have q5 := QD.out.trans hc5 (fun _ _ h => h)
        have rd5 := RD.out.kept hc5 (by simp)
        have O5 := Lib.hid o5; have RD5 := Lib.hid rd5
        clear y5 n5 hc5 o5 rd5
        go_wp2_with fail
        refine (nright_any _ Q (k : Int) w5 RD5.out HQB.out (by rw [HNL.out]; omega) (by omega)).mono ?_
        rintro e w6 ⟨rfl, hc6⟩
        rw [HT3.out, HLG.out, decide_eq_true (show 0 < k ∧ (k : Int) = (k : Int) from ⟨by omega, rfl⟩)]
        have q6 := q5.trans hc6 (fun _ _ h => h)
        have O6 := Lib.hid (O5.out.kept hc6 (by simp)); have RD6 := Lib.hid (RD5.out.kept hc6 (by simp))
        clear q5 hc6 O5 RD5
        go_wp2_with fail
        refine (ints_c _ _ Q Q w6 O6.out RD6.out (by rw [HNL.out]; omega) (by rw [HNL.out]; omega)).mono ?_
        rintro e w7 ⟨rfl, hc7⟩
        rw [decide_eq_true rfl]
        have q7 := q6.trans hc7 (fun _ _ h => h)
        clear q6 hc7 O6 RD6
        go_wp2
        go_ret
        exact ⟨rfl, q7⟩
  · rw [if_neg hok]
    have hno : ¬ (0 < n ∧ (p : Int) ≤ (S : Int)) := fun hh => hok (HOKI.out.2 hh)
    obtain ⟨a3, k3, rfl⟩ := (n3 hok).form
    rw [List.length_nil]
    obtain ⟨g2, o2', k2, rfl, -, -, -, -⟩ := id o2
    rw [HCL.out] at HTQ HMQ ⊢
    have hwS : IntKind.i64.wrap (S : Int) = (S : Int) := by rw [IntKind.wrap_i64]; omega
    clear y3 n3 hok o2
    by_cases h0 : n = 0
    · subst h0
      clear hno
      go_wp2
      go_quiet (first | (go_at_call 17; with_reducible exact Calls.quiet_of (HTQ.out _)))
      go_wp2
      go_ret
      exact ⟨rfl, q3.drewN _⟩
    · have e1 : (n == 0) = false := by simp [h0]
      have hSp : S < p := by omega
      have d1 : decide ((S : Int) < (p : Int)) = true := by simp; omega
      clear hno
      go_wp2
      go_quiet (first | (go_at_call 17; with_reducible exact Calls.quiet_of (HTQ.out _)) | (go_at_call 18; with_reducible exact Calls.quiet_of (HMQ.out _)))
      go_wp2
      go_ret
      exact ⟨rfl, q3.drewN _⟩

end Go.Proofs.Ytnijfkbnggdbnaa
