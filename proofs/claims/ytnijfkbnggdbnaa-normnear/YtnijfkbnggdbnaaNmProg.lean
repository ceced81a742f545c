/- What norm's Counts, Right and Log tell. THIS SPEAKS OF THE PROGRAM'S OWN TEXT. -/
import Derived.Test.YtnijfkbnggdbnaaNmRefD
import Derived.Test.YtnijfkbnggdbnaaHsHist
import Derived.Test.YtnijfkbnggdbnaaNqThin
import Derived.BigQuiet
namespace Go.Proofs.Ytnijfkbnggdbnaa
open Go.RowKit

set_option maxHeartbeats 1000000 in
theorem nmaybe_any (r : Int) (w : World) : Calls Try.prog 19 #[.int .i64 r] w fun e w' => e = .returned (.bool (decide (1 ≤ r ∧ r ≤ 12))) ∧ w' = w := by
  by_cases h1 : 1 ≤ r
  · by_cases h2 : r ≤ 12
    · rw [decide_eq_true ⟨h1, h2⟩]
      go_enter Try.func19, Try.ntmps19
      go_wp2
      go_ret
      exact ⟨rfl, rfl⟩
    · rw [decide_eq_false (fun h => h2 h.2)]
      go_enter Try.func19, Try.ntmps19
      go_wp2
      go_ret
      exact ⟨rfl, rfl⟩
  · rw [decide_eq_false (fun h => h1 h.1)]
    go_enter Try.func19, Try.ntmps19
    go_wp2
    go_ret
    exact ⟨rfl, rfl⟩

set_option maxHeartbeats 1000000 in
theorem nlog_any (v : Value) (q : List Int) (w : World) (h : RdI w v q) (hb : ∀ z ∈ q, -9223372036854775808 ≤ z ∧ z ≤ 9223372036854775807) (hl : q.length < 100000000000) :
    Calls Try.prog 13 #[v] w fun e w' => e = .returned (.tuple #[.int .i64 ((logI (totalI q) : Nat) : Int), .bool (decide (0 < logI (totalI q)))]) ∧ Chg (fun _ => False) w w' := by
  have HT := Lib.hid (htotal_any v q w h hb hl)
  obtain ⟨ao, cap, rfl⟩ := h.form
  clear h hb
  have htl := totalI_le q
  obtain ⟨t, ht⟩ : ∃ t, totalI q = t := ⟨_, rfl⟩
  rw [ht] at HT htl ⊢
  obtain ⟨ht0, ht1⟩ := htl
  obtain ⟨L, hL⟩ : ∃ L, logI t = L := ⟨_, rfl⟩
  rw [hL]
  obtain ⟨D, hD⟩ : ∃ D, decide (0 < L) = D := ⟨_, rfl⟩
  rw [hD]
  have HL := Lib.hid hL; have HD := Lib.hid hD
  clear ht hL hD
  go_enter Try.func13, Try.ntmps13
  go_wp2_with fail
  refine HT.out.mono ?_
  rintro e w1 ⟨rfl, m0, rfl⟩
  have hc0 : Chg (fun _ => False) w (w.drewN m0) := (Chg.refl _ _).drewN m0
  obtain ⟨w0, hw0⟩ : ∃ w0, w.drewN m0 = w0 := ⟨_, rfl⟩
  rw [hw0] at hc0 ⊢
  have HC0 := Lib.hid hc0
  clear HT hw0 hc0
  go_wp2
  go_loopw [5] (fun o5 wr => ∃ r : Nat, 1 ≤ r ∧ r ≤ 13 ∧ o5 = .int .i64 (r : Int) ∧ (∀ j, 1 ≤ j → j < r → ¬ t = ((2 ^ j : Nat) : Int)) ∧ wr = w0) (fun o5 _ => 13 - (intOf o5).toNat)
  case atStart => exact ⟨1, Nat.le_refl _, by omega, rfl, fun j h1 h2 => by omega, rfl⟩
  case round =>
    obtain ⟨r, hr1, hr2, rfl, hno, rfl⟩ := hrel
    have HNO := Lib.hid hno
    clear hno
    by_cases hlt : r ≤ 12
    · have d1 : decide ((r : Int) ≤ 12) = true := by simp; omega
      have hlI : (r : Int) ≤ 12 := by omega
      have hpw := pow12 hlt
      obtain ⟨P, hP⟩ : ∃ P, 2 ^ r = P := ⟨_, rfl⟩
      have hPI : (2 : Int) ^ r = (P : Int) := by rw [← hP]; simp
      rw [hP] at hpw
      have hpI : (P : Int) ≤ 4096 := by omega
      have HPP := Lib.hid hP
      clear hP
      by_cases heq : t = (P : Int)
      · have hLr : L = r := by
          rw [← HL.out, heq, ← HPP.out]
          exact logI_pow hr1 hlt
        subst hLr
        subst heq
        have hD1 : D = true := by rw [← HD.out]; exact decide_eq_true (by omega)
        subst hD1
        go_wp2
        go_ret2
        exact ⟨rfl, HC0.out⟩
      · have hne : (t == (P : Int)) = false := by simp [heq]
        go_wp2
        go_roundw
        case rel =>
          refine ⟨r + 1, by omega, by omega, by go_num, fun j h1 h2 => ?_, trivial⟩
          by_cases hjr : j = r
          · subst hjr; rw [HPP.out]; exact heq
          · exact HNO.out j h1 (by omega)
        case measure => simp [intOf]; omega
    · have hr13 : r = 13 := by omega
      have hrI : (r : Int) = 13 := by omega
      rw [hrI]
      have hL0 : L = 0 := by
        rw [← HL.out]
        exact logI_none fun j h1 h2 => HNO.out j h1 (by omega)
      subst hL0
      have hD1 : D = false := by rw [← HD.out]; rfl
      subst hD1
      clear hr13 hrI hlt hr1 hr2
      go_wp2
      go_ret2
      exact ⟨rfl, HC0.out⟩

theorem log_of_total {t r : Int} (h1 : 1 ≤ r) (h2 : r ≤ 12) : (t = ((2 ^ r.toNat : Nat) : Int)) ↔ (0 < logI t ∧ ((logI t : Nat) : Int) = r) := by
  constructor
  · intro h
    rw [h, logI_pow (by omega) (by omega)]; omega
  · rintro ⟨h3, h4⟩
    rcases logI_spec t with h5 | ⟨_, h5⟩
    · omega
    · have : r.toNat = logI t := by omega
      rw [this]; exact h5

set_option maxHeartbeats 1000000 in
theorem nright_any (v : Value) (q : List Int) (r : Int) (w : World) (h : RdI w v q) (hb : ∀ z ∈ q, -9223372036854775808 ≤ z ∧ z ≤ 9223372036854775807) (hl : q.length < 100000000000) (hr : -9223372036854775808 ≤ r ∧ r ≤ 9223372036854775807) :
    Calls Try.prog 15 #[v, .int .i64 r] w fun e w' => e = .returned (.bool (decide (0 < logI (totalI q) ∧ ((logI (totalI q) : Nat) : Int) = r))) ∧ Chg (fun _ => False) w w' := by
  have hq : ∀ m, RdI (w.drewN m) v q := fun m => h.kept ((Chg.refl (fun _ => False) w).drewN m) (by simp)
  have HT := Lib.hid (show ∀ m, Calls Try.prog 17 #[v] (w.drewN m) fun e w' => e = .returned (.int .i64 (totalI q)) ∧ ∃ k, w' = (w.drewN m).drewN k from fun m => htotal_any v q (w.drewN m) (hq m) hb hl)
  have HMB := Lib.hid (nmaybe_any r)
  obtain ⟨ao, cap, rfl⟩ := h.form
  clear h hb hq
  have hle := logI_le (totalI q)
  have hsp := @log_of_total (totalI q) r
  have htl := totalI_le q
  obtain ⟨t, ht⟩ : ∃ t, totalI q = t := ⟨_, rfl⟩
  rw [ht] at HT htl hle hsp ⊢
  obtain ⟨ht0, ht1⟩ := htl
  obtain ⟨hr0, hr1⟩ := hr
  by_cases h1 : 1 ≤ r ∧ r ≤ 12
  · have hpw := pow12 (k := r.toNat) (by omega)
    have hsp := hsp h1.1 h1.2
    obtain ⟨k, rfl⟩ : ∃ k : Nat, r = (k : Int) := ⟨r.toNat, by omega⟩
    rw [Int.toNat_natCast] at hpw hsp
    obtain ⟨P, hP⟩ : ∃ P, 2 ^ k = P := ⟨_, rfl⟩
    have hPI : (2 : Int) ^ k = (P : Int) := by rw [← hP]; simp
    rw [hP] at hpw hsp
    have hpI : (P : Int) ≤ 4096 := by omega
    have hkI : (k : Int) ≤ 12 := h1.2
    have hD : decide (0 < logI t ∧ ((logI t : Nat) : Int) = (k : Int)) = (t == (P : Int)) := by
      rw [Bool.eq_iff_iff]; simp only [decide_eq_true_eq, beq_iff_eq]; exact hsp.symm
    rw [hD]
    rw [decide_eq_true h1] at HMB
    clear hsp hle ht h1 hD hP
    go_enter Try.func15, Try.ntmps15
    go_wp2
    go_quiet (first | (go_at_call 19; with_reducible exact Calls.quiet_of_same (HMB.out _)) | (go_at_call 17; with_reducible exact Calls.quiet_of (HT.out _)))
    go_wp2
    go_ret
    exact ⟨rfl, (Chg.refl _ _).drewN _⟩
  · rw [decide_eq_false h1] at HMB
    have hD : decide (0 < logI t ∧ ((logI t : Nat) : Int) = r) = false := decide_eq_false fun hh => h1 (by omega)
    rw [hD]
    clear hsp hle ht
    go_enter Try.func15, Try.ntmps15
    go_wp2
    go_quiet (first | (go_at_call 19; with_reducible exact Calls.quiet_of_same (HMB.out _)))
    go_wp2
    go_ret
    exact ⟨rfl, (Chg.refl _ _).drewN _⟩

theorem zc_le (size n : Int) (c : List Int) : zc size n c ≤ c.length := by
  induction c with
  | nil => simp [zc]
  | cons x r ih => simp only [zc, List.length_cons]; split <;> omega
theorem mem_le_tot (l : List Int) (h0 : ∀ x ∈ l, 0 ≤ x) : ∀ x ∈ l, x ≤ tot l := by
  induction l with
  | nil => simp
  | cons y r ih =>
    intro x hx
    have hn := tot_nonneg r fun z hz => h0 z (by simp [hz])
    have hy := h0 y (by simp)
    rcases List.mem_cons.1 hx with rfl | hx
    · simp only [tot]; omega
    · have := ih (fun z hz => h0 z (by simp [hz])) x hx
      simp only [tot]; omega
theorem base_right {c : List Int} {size : Int} (h : Fit c size) (hs : size ≤ 4096) : isRight (qBase c size (tot c)) ∧ tot (qBase c size (tot c)) ≤ 4352 ∧ ∀ x ∈ qBase c size (tot c), 0 ≤ x ∧ x ≤ 1000000 := by
  have hn := h.some
  have hb := base_sum size (tot c) c h.low
  have hp := sum_parts size (tot c) c
  have hr := tot_rest_nonneg size (tot c) hn c
  have hz := zc_le size (tot c) c
  rw [h.len] at hz
  have h1 : tot c * tot (q0L c size (tot c)) ≤ tot c * size := by omega
  have h2 := Int.le_of_mul_le_mul_left h1 hn
  have h0 : ∀ x ∈ qBase c size (tot c), 0 ≤ x := by
    intro x hx
    simp only [qBase, List.mem_map] at hx
    obtain ⟨y, hy, rfl⟩ := hx
    have hy0 := h.low y hy
    have := (div_parts y size (tot c) hn hy0 h.sz).1
    split <;> omega
  have ht : tot (qBase c size (tot c)) ≤ 4352 := by omega
  exact ⟨⟨by simp [qBase, h.len], h0, by omega⟩, ht, fun x hx => ⟨h0 x hx, by have := mem_le_tot _ h0 x hx; omega⟩⟩
theorem OwnI.rebase {w : World} {B B' : Nat} {v : Value} {l : List Int} (h : OwnI w B v l) (hb : ∀ k, v.ownBlock = some k → B' ≤ k) : OwnI w B' v l := by
  obtain ⟨g, off, cap, rfl, _, h2⟩ := h
  exact ⟨g, off, cap, rfl, hb g rfl, h2⟩
theorem OwnI.block {w : World} {B : Nat} {v : Value} {l : List Int} (h : OwnI w B v l) : ∀ k, v.ownBlock = some k → B ≤ k := by
  obtain ⟨g, off, cap, rfl, h1, _⟩ := h
  intro k hk
  simp only [Value.ownBlock, Option.some.injEq] at hk
  omega
theorem tot_pos_iff (c : List Int) (h0 : ∀ x ∈ c, 0 ≤ x) : 0 < tot c ↔ 0 < pos c := by
  induction c with
  | nil => simp [tot, pos]
  | cons x r ih =>
    have ih := ih fun z hz => h0 z (by simp [hz])
    have hx := h0 x (by simp)
    have hn := tot_nonneg r fun z hz => h0 z (by simp [hz])
    simp only [tot, pos]
    split <;> omega
theorem many_norm {c : List Int} {r : Int} (h1 : 1 ≤ r) (h2 : r ≤ 12) : normOk c r ↔ manyI c ≠ 0 ∧ (manyI c : Int) ≤ ((2 ^ r.toNat : Nat) : Int) := by
  unfold normOk manyI
  by_cases h : isRight c
  · rw [if_pos h]
    have hp := tot_pos_iff c h.2.1
    constructor
    · rintro ⟨_, h3, _, _, h4⟩; exact ⟨by omega, h4⟩
    · rintro ⟨h3, h4⟩; exact ⟨h, by omega, h1, h2, h4⟩
  · rw [if_neg h]
    exact ⟨fun hh => absurd hh.1 h, fun hh => absurd rfl hh.1⟩

set_option maxHeartbeats 2000000 in
theorem ncounts_any (v : Value) (c : List Int) (r : Int) (w : World) (h : RdI w v c) (hb : ∀ z ∈ c, -9223372036854775808 ≤ z ∧ z ≤ 9223372036854775807) (hl : c.length < 100000000000) (hr : -9223372036854775808 ≤ r ∧ r ≤ 9223372036854775807) :
    Calls Try.prog 10 #[v, .int .i64 r] w fun e w' => NormSays w c r e w' := by
  have HMA := Lib.hid (hmany_any v c w h hb hl)
  have H := Lib.hid h; have HB := Lib.hid hb
  obtain ⟨hr0, hr1⟩ := hr
  by_cases h1 : 1 ≤ r ∧ r ≤ 12
  · have hmb := nmaybe_any r w
    rw [decide_eq_true h1] at hmb
    have HMB := Lib.hid hmb
    have hmn := many_norm (c := c) h1.1 h1.2
    have hml := manyI_le c
    have hpw := pow12 (k := r.toNat) (by omega)
    obtain ⟨k, rfl⟩ : ∃ k : Nat, r = (k : Int) := ⟨r.toNat, by omega⟩
    rw [Int.toNat_natCast] at hmn hpw
    have hnr : normR c (k : Int) = normC c ((2 ^ k : Nat) : Int) := by unfold normR; rw [Int.toNat_natCast]
    obtain ⟨P, hP⟩ : ∃ P, 2 ^ k = P := ⟨_, rfl⟩
    have hPI : (2 : Int) ^ k = (P : Int) := by rw [← hP]; simp
    have hP1 : 1 ≤ P := by rw [← hP]; exact Nat.two_pow_pos k
    have hfit : normOk c (k : Int) → Fit c (P : Int) := fun hh => by have := hh.fit; rw [Int.toNat_natCast, hP] at this; exact this
    rw [hP] at hmn hpw hnr
    have hpI : (P : Int) ≤ 4096 := by omega
    have hpI1 : 1 ≤ (P : Int) := by omega
    have hkI : (k : Int) ≤ 12 := h1.2
    obtain ⟨M, hM⟩ : ∃ M, manyI c = M := ⟨_, rfl⟩
    rw [hM] at hmn hml HMA
    obtain ⟨ao, cap, rfl⟩ := h.form
    have HMN := Lib.hid hmn; have HNR := Lib.hid hnr; have HFIT := Lib.hid hfit
    have hMI : (M : Int) ≤ 256 := by omega
    clear h hb h1 hmb hmn hml hnr hfit hP hM hpw hP1
    by_cases hok : M ≠ 0 ∧ (M : Int) ≤ (P : Int)
    · have hno : normOk c (k : Int) := HMN.out.2 hok
      have HNO := Lib.hid hno
      have hfit := HFIT.out hno
      have hbr := base_right hfit hpI
      have hgr := give_room hfit.low rfl hfit.some (size := (P : Int)) (c := c)
      have ht0 := hfit.took0
      have hgs := hfit.gaveSum
      have hmany := hfit.many
      have hll := lay_all c (P : Int) (tot c) hfit.len hfit.low (List.replicate 256 0) List.length_replicate (fun j => by rw [List.getD_eq_getElem?_getD, List.getElem?_replicate]; split <;> rfl)
      have hM0 : ¬ M = 0 := hok.1
      have hMP : M ≤ P := by omega
      have hMPI : decide ((P : Int) < (M : Int)) = false := decide_eq_false (by omega)
      have hMPn : ¬ P < M := by omega
      have HD := Lib.hid (show ∀ w', RdI w' (.slice ao c.length cap) c → Calls Try.prog 20 #[.slice ao c.length cap, .int .i64 (P : Int)] w' fun e w2 => ∃ u, e = .returned u ∧ w2.ownsRow w'.heap.size 49 5 u (shTo c (P : Int) (tot c) 256).length (svs (shTo c (P : Int) (tot c) 256)) ∧ Chg (fun _ => False) w' w2 from
        fun w' hw' => ndivide_any _ c (P : Int) (tot c) w' hw' HB.out hno.1 rfl hno.2.1 hpI1 hpI)
      have HFT := Lib.hid hfit; have HBR := Lib.hid hbr; have HGR := Lib.hid hgr; have HT0 := Lib.hid ht0; have HGS := Lib.hid hgs; have HMY := Lib.hid hmany; have HLL := Lib.hid hll
      clear hno hfit hbr hgr ht0 hgs hmany hll hok
      go_enter Try.func10, Try.ntmps10
      go_wp2_with fail
      refine HMB.out.mono ?_
      rintro e w1 ⟨rfl, rfl⟩
      go_wp2_with fail
      refine HMA.out.mono ?_
      rintro e w2 ⟨rfl, m0, rfl⟩
      have hc2 : Chg (fun _ => False) w1 (w1.drewN m0) := (Chg.refl _ _).drewN m0
      obtain ⟨w2, hw2⟩ : ∃ w2, w1.drewN m0 = w2 := ⟨_, rfl⟩
      rw [hw2] at hc2 ⊢
      have HC2 := Lib.hid hc2
      clear hw2 hc2 HMA HMB
      go_wp2_with fail
      refine (HD.out w2 (H.out.kept HC2.out (by simp))).mono ?_
      rintro e w3 ⟨u, rfl, hu3, hc3⟩
      have hsz3 : w2.heap.size ≤ w3.heap.size := hc3.size
      have htl := ntold_any u (shTo c (P : Int) (tot c) 256) w2.heap.size w3 hu3 (by have := shTo_length c (P : Int) (tot c) 256; omega) (fun s hs => by
        obtain ⟨i, h1, h2, h3⟩ := (mem_shTo c (P : Int) (tot c) 256 s).1 hs
        rw [h3, mkSh_sym]; omega) (List.replicate 256 0) rfl
      rw [HLL.out] at htl
      have HTL := Lib.hid htl; have HU3 := Lib.hid hu3; have HC3 := Lib.hid (HC2.out.trans hc3 fun _ _ h => h); have HSZ := Lib.hid hsz3
      clear hu3 hc3 hsz3 htl HD
      go_wp2_with fail
      refine HTL.out.mono ?_
      rintro e w4 ⟨q, rfl, hq4, hc4⟩
      have hu4 := hc4.own HU3.out (by simp)
      have HU4 := Lib.hid hu4; have HQ4 := Lib.hid hq4; have HC4 := Lib.hid (HC3.out.trans hc4 fun _ _ h => h)
      have hbq := hq4.block
      have HBQ := Lib.hid (show ∀ k, q.ownBlock = some k → w1.heap.size ≤ k from fun k hk => by have := hbq k hk; have := HC3.out.size; omega)
      have HTQ := Lib.hid (show ∀ m, Calls Try.prog 17 #[q] (w4.drewN m) fun e w' => e = .returned (.int .i64 (tot (qBase c (P : Int) (tot c)))) ∧ ∃ k, w' = (w4.drewN m).drewN k from fun m => by
        have hh := htotal_any q (qBase c (P : Int) (tot c)) (w4.drewN m) (hq4.rd.kept ((Chg.refl (fun _ => False) w4).drewN m) (by simp)) (fun z hz => by have := (HBR.out.2.2 z hz); omega) (by rw [HBR.out.1.1]; omega)
        have ht : totalI (qBase c (P : Int) (tot c)) = tot (qBase c (P : Int) (tot c)) := by unfold totalI; rw [if_pos HBR.out.1]
        rw [ht] at hh
        exact hh)
      obtain ⟨T, hT⟩ : ∃ T, tot (qBase c (P : Int) (tot c)) = T := ⟨_, rfl⟩
      have hTb : 0 ≤ T ∧ T ≤ 4352 := by rw [← hT]; exact ⟨tot_nonneg _ HBR.out.1.2.1, HBR.out.2.1⟩
      rw [hT] at HTQ
      have HTT := Lib.hid hT
      obtain ⟨hT0, hT1⟩ := hTb
      obtain ⟨ao4, cap4, hqf⟩ : ∃ ao4 cap4, q = .slice ao4 256 cap4 := by
        obtain ⟨g, off, cap, he, _⟩ := hq4
        exact ⟨_, _, by rw [he, HBR.out.1.1]⟩
      clear hu4 hq4 hc4 hbq hT HTL HU3 HC3
      have hw1 : IntKind.i64.wrap (P : Int) = (P : Int) := by rw [IntKind.wrap_i64]; omega
      have hw2 : IntKind.i64.wrap (T - (P : Int)) = T - (P : Int) := by rw [IntKind.wrap_i64]; omega
      by_cases hov : T < (P : Int)
      · obtain ⟨miss, hmiss⟩ : ∃ miss : Nat, (P : Int) - T = (miss : Int) := ⟨((P : Int) - T).toNat, by omega⟩
        have e1 : T - (P : Int) = - (miss : Int) := by omega
        have hfl := fun m => nfill_any q u c (P : Int) (tot c) w2.heap.size miss (w4.drewN m) HFT.out.len (((Chg.refl (fun _ => False) w4).drewN m).own HU4.out (by simp)) ((HQ4.out.kept ((Chg.refl (fun _ => False) w4).drewN m) (by simp)).mono (Nat.zero_le _))
          (by have := HGR.out; rw [HTT.out, hmiss] at this; simpa using this) (by omega) HBR.out.2.2
        have hres : normC c (P : Int) = (giveN (rest0 c (P : Int) (tot c)) miss (qBase c (P : Int) (tot c)) (had0 c (P : Int) (tot c))).1 := by
          have hg := HGS.out
          rw [HTT.out] at hg
          unfold normC
          rw [show (tot (gaveC c (P : Int) (tot c)) - (P : Int)).toNat = 0 by rw [hg]; omega]
          show gaveC c (P : Int) (tot c) = _
          unfold gaveC
          rw [HTT.out, show ((P : Int) - T).toNat = miss by omega]
        have HFL := Lib.hid hfl; have HRES := Lib.hid hres
        have hmI : (miss : Int) ≤ 4096 := by omega
        have hneg : decide (T - (P : Int) < 0) = true := decide_eq_true (by omega)
        have hwm : wrap64 (miss : Int) = (miss : Int) := by unfold wrap64; omega
        rw [e1] at hw2 hneg
        have hm0 : decide (-(miss : Int) < 0) = true := hneg
        have hmpos : 0 < miss := by omega
        clear hfl hres hov hmiss hneg
        subst hqf
        go_wp2
        go_quiet (first | (go_at_call 17; with_reducible exact Calls.quiet_of (HTQ.out _)))
        go_wp2_with fail
        refine (HFL.out _).mono ?_
        rintro e w5 ⟨rfl, hq5, hc5⟩
        have hc6 : Chg (fun _ => False) w1 w5 := (HC4.out.drewN nq).trans hc5 fun q hq he => by have := HBQ.out q he.symm; omega
        have HQ5 := Lib.hid (hq5.rebase HBQ.out); have HC6 := Lib.hid hc6
        clear hq5 hc5 hc6
        go_wp2
        go_ret2
        exact ⟨_, by rw [if_pos HNO.out]; rfl, fun _ => by rw [HNR.out, HRES.out]; exact HQ5.out, fun hh => absurd HNO.out hh, HC6.out⟩
      · obtain ⟨over, hover⟩ : ∃ over : Nat, T - (P : Int) = (over : Int) := ⟨(T - (P : Int)).toNat, by omega⟩
        have hgb : gaveC c (P : Int) (tot c) = qBase c (P : Int) (tot c) := by
          unfold gaveC
          rw [HTT.out, show ((P : Int) - T).toNat = 0 by omega]
          rfl
        have htk := HT0.out
        rw [hgb] at htk
        have hres : normC c (P : Int) = takeN c over (qBase c (P : Int) (tot c)) := by
          unfold normC
          rw [hgb, HTT.out, show (T - (P : Int)).toNat = over by omega]
        have hfl := fun m => nthin_any q u c (P : Int) (tot c) w2.heap.size over (w4.drewN m) HFT.out.len HFT.out.low (((Chg.refl (fun _ => False) w4).drewN m).own HU4.out (by simp)) ((HQ4.out.kept ((Chg.refl (fun _ => False) w4).drewN m) (by simp)).mono (Nat.zero_le _))
          (by omega) htk (by rw [HTT.out]; have := HMY.out; omega) HBR.out.2.2
        have HFL := Lib.hid hfl; have HRES := Lib.hid hres
        have hmI : (over : Int) ≤ 4352 := by omega
        rw [hover] at hw2
        have hm0 : decide ((over : Int) < 0) = false := decide_eq_false (by omega)
        clear hfl hres hov hgb htk
        subst hqf
        go_wp2
        go_quiet (first | (go_at_call 17; with_reducible exact Calls.quiet_of (HTQ.out _)))
        go_wp2_with fail
        refine (HFL.out _).mono ?_
        rintro e w5 ⟨rfl, hq5, hc5⟩
        have hc6 : Chg (fun _ => False) w1 w5 := (HC4.out.drewN nq).trans hc5 fun q hq he => by have := HBQ.out q he.symm; omega
        have HQ5 := Lib.hid (hq5.rebase HBQ.out); have HC6 := Lib.hid hc6
        clear hq5 hc5 hc6
        go_wp2
        go_ret2
        exact ⟨_, by rw [if_pos HNO.out]; rfl, fun _ => by rw [HNR.out, HRES.out]; exact HQ5.out, fun hh => absurd HNO.out hh, HC6.out⟩
    · have hno : ¬ normOk c (k : Int) := fun hh => hok (HMN.out.1 hh)
      have HNO := Lib.hid hno
      clear hno
      by_cases hM0 : M = 0
      · subst hM0
        go_enter Try.func10, Try.ntmps10
        go_wp2_with fail
        refine HMB.out.mono ?_
        rintro e w1 ⟨rfl, rfl⟩
        go_wp2_with fail
        refine HMA.out.mono ?_
        rintro e w2 ⟨rfl, m0, rfl⟩
        go_wp2
        go_ret2
        exact ⟨_, by rw [if_neg HNO.out]; rfl, fun hh => absurd hh HNO.out, fun _ => .inl ⟨rfl, _, _, rfl⟩, (Chg.refl _ _).drewN _⟩
      · have hgt : ¬ M ≤ P := fun hh => hok ⟨hM0, by omega⟩
        have hgI : (P : Int) < (M : Int) := by omega
        clear hok
        go_enter Try.func10, Try.ntmps10
        go_wp2_with fail
        refine HMB.out.mono ?_
        rintro e w1 ⟨rfl, rfl⟩
        go_wp2_with fail
        refine HMA.out.mono ?_
        rintro e w2 ⟨rfl, m0, rfl⟩
        go_wp2
        go_ret2
        exact ⟨_, by rw [if_neg HNO.out]; rfl, fun hh => absurd hh HNO.out, fun _ => .inl ⟨rfl, _, _, rfl⟩, (Chg.refl _ _).drewN _⟩
  · have hmb := nmaybe_any r w
    rw [decide_eq_false h1] at hmb
    have HMB := Lib.hid hmb
    have hno : ¬ normOk c r := fun hh => h1 ⟨hh.2.2.1, hh.2.2.2.1⟩
    have HNO := Lib.hid hno
    obtain ⟨ao, cap, rfl⟩ := h.form
    clear h hb h1 hmb hno
    go_enter Try.func10, Try.ntmps10
    go_wp2_with fail
    refine HMB.out.mono ?_
    rintro e w1 ⟨rfl, rfl⟩
    go_wp2
    go_ret2
    exact ⟨_, by rw [if_neg HNO.out]; rfl, fun hh => absurd hh HNO.out, fun _ => .inl ⟨rfl, _, _, rfl⟩, Chg.refl _ _⟩

end Go.Proofs.Ytnijfkbnggdbnaa
