/- The walk of NormNear. -/
import Derived.Test.YtnijfkbnggdbnaaNmOrder
import Derived.Test.YtnijfkbnggdbnaaHsAwake
namespace Go.Proofs.Ytnijfkbnggdbnaa
open Go.RowKit

theorem norm_top {c : List Int} {S : Int} (h : Fit c S) (s : Nat) (hs : s < 256) : (normC c S).getD s 0 ≤ S := by
  have h1 := tot_take_le (normC c S) (s + 1) (norm_nonneg h)
  rw [tot_take_succ _ s (by rw [norm_len h]; exact hs), norm_sum h] at h1
  have := tot_nonneg ((normC c S).take s) (fun y hy => norm_nonneg h y (List.mem_of_mem_take hy))
  omega

set_option maxHeartbeats 4000000 in
set_option maxRecDepth 100000 in
theorem nnear_any (v : Value) (xs : List Nat) (r a : Nat) (w : World) (h : RdH w v xs) (hx : ∀ x ∈ xs, x < 65536) (hr : r < 256) (ha : a < 256) :
    Calls Try.prog 7 #[v, .int .u8 (r : Int), .int .u8 (a : Int)] w fun e w' => Says w e w' := by
  obtain ⟨ao, cap, rfl⟩ := h.form
  have H := Lib.hid h; have HX := Lib.hid hx
  clear h hx
  by_cases hbig : 80 < xs.length
  · have hb' : decide (80 < (xs.length : Int)) = true := by simp; omega
    go_enter Try.func7, Try.ntmps7
    go_wp2_with fail
    refine (awake8_any w).mono ?_
    rintro e w1 ⟨rfl, q1⟩
    go_wp2
    go_ret
    exact ⟨rfl, q1⟩
  have hb' : decide (80 < (xs.length : Int)) = false := by simp; omega
  obtain ⟨hrt, htot⟩ := someC_right xs HX.out
  obtain ⟨C, hC⟩ : ∃ C, someC xs = C := ⟨_, rfl⟩
  rw [hC] at hrt htot
  have HC := Lib.hid hC; have HRT := Lib.hid hrt; have HCB := Lib.hid (right_bnd hrt); have HTOT := Lib.hid htot
  have HCL := Lib.hid hrt.1
  obtain ⟨rr, hrr⟩ : ∃ rr, r % 12 = rr := ⟨_, rfl⟩
  have hrr' : (r : Int) % 12 = (rr : Int) := by omega
  obtain ⟨k, hk⟩ : ∃ k, 1 + rr = k := ⟨_, rfl⟩
  have hkI : 1 + (rr : Int) = (k : Int) := by omega
  have hk12 : k ≤ 12 := by omega
  have hk12I : (k : Int) ≤ 12 := by omega
  have hrr12 : (rr : Int) < 12 := by omega
  have hS := pow12 hk12
  have hS1 := Nat.two_pow_pos k
  obtain ⟨S, hSe⟩ : ∃ S, 2 ^ k = S := ⟨_, rfl⟩
  rw [hSe] at hS hS1
  have eS : (2 : Int) ^ k = (S : Int) := by rw [← hSe]; simp
  have HSE := Lib.hid hSe
  clear hC hrt hrr htot hk hSe
  go_enter Try.func7, Try.ntmps7
  go_wp2_with fail
  refine (awake8_any w).mono ?_
  rintro e w1 ⟨rfl, q1⟩
  go_wp2_with fail
  refine (r5some_any _ xs w1 (H.out.kept q1 (by simp)) HX.out (by omega)).mono ?_
  rintro e w2 ⟨v2, rfl, ho2, hc2⟩
  rw [HC.out] at ho2
  have q2 := q1.trans hc2 (fun _ _ h => h)
  clear q1 hc2
  go_wp2_with fail
  refine (ncounts_any _ C (k : Int) w2 ho2.rd HCB.out (by rw [HCL.out]; omega) (by omega)).mono ?_
  rintro e w3 ⟨v3, rfl, y3, n3, hc3⟩
  have q3 := q2.trans hc3 (fun _ _ h => h)
  have o2 := ho2.kept hc3 (by simp)
  clear q2 hc3 ho2
  by_cases hok : normOk C (k : Int)
  · rw [if_pos hok]
    have o3 := y3 hok
    have hfit := hok.fit
    rw [Int.toNat_natCast, HSE.out] at hfit
    have hnr : normR C (k : Int) = normC C (S : Int) := by unfold normR; rw [Int.toNat_natCast, HSE.out]
    rw [hnr] at o3
    have hnl := norm_len hfit
    have hz0 := (norm_pos hfit a ha).1
    have hz1 := norm_top hfit a ha
    have hnear := norm_near hfit a ha
    have hnear2 := fun hr => norm_near2 hfit hr a ha
    have htI : totalI C = tot C := by unfold totalI; rw [if_pos HRT.out]
    have hn1 := hfit.some
    have hn2 := HTOT.out
    have HTC := Lib.hid (fun W (hW : RdI W v2 C) => htotal_c v2 C W hW HCB.out (by rw [HCL.out]; omega))
    rw [htI] at HTC
    have hone : ∀ s, s < 256 → 0 ≤ C.getD s 0 ∧ C.getD s 0 ≤ 1073741824 := fun s hs => HRT.out.one s (by rw [HCL.out]; exact hs)
    obtain ⟨n, hn⟩ : ∃ n, tot C = n := ⟨_, rfl⟩
    rw [hn] at hnear hnear2 HTC hn1 hn2
    obtain ⟨Q, hQ⟩ : ∃ Q, normC C (S : Int) = Q := ⟨_, rfl⟩
    rw [hQ] at o3 hnl hz0 hz1 hnear hnear2
    have rd2 := o2.rd
    obtain ⟨g2, o2', k2, rfl, -, hgl2, cl2, -⟩ := o2
    obtain ⟨g3, o3', k3, rfl, -, hgl3, cl3, -⟩ := o3
    have qa := cl3 a (by rw [hnl]; exact ha)
    obtain ⟨z, hz⟩ : ∃ z, Q.getD a 0 = z := ⟨_, rfl⟩
    rw [hz] at qa hz0 hz1 hnear hnear2
    have haI : (a : Int) < 256 := by omega
    have RD2 := Lib.hid rd2; have CL2 := Lib.hid cl2; have HGL2 := Lib.hid hgl2; have HGL3 := Lib.hid hgl3; have QA := Lib.hid qa; have HNEAR := Lib.hid hnear; have HNEAR2 := Lib.hid hnear2; have HONE := Lib.hid hone
    rw [HCL.out] at HTC RD2
    rw [HCL.out, hnl]
    have Q3 := Lib.hid q3; have HZ0 := Lib.hid hz0; have HZ1 := Lib.hid hz1
    clear rd2 cl2 cl3 y3 n3 hQ hnl hok hfit hnr hz hn htI hnear hnear2 hone hgl2 hgl3 qa q3 hz0 hz1
    go_wp2_with fail
    refine (HTC.out w3 RD2.out).mono ?_
    rintro e w4 ⟨rfl, hc4⟩
    have C4 := Lib.hid hc4; have Q4 := Lib.hid (Q3.out.trans hc4 (fun _ _ h => h))
    have CLW : Hid (∀ s, s < 256 → w4.cell? ⟨g2, o2' + s, none⟩ = some (.int .i64 (C.getD s 0))) := Lib.hid fun s hs => by
      rw [World.cell?_of_block (w := w3) (C4.out.block g2 HGL2.out (by simp))]; exact CL2.out s (by rw [HCL.out]; exact hs)
    have qa4 : w4.cell? ⟨g3, o3' + a, none⟩ = some (.int .i64 z) := by rw [World.cell?_of_block (w := w3) (C4.out.block g3 HGL3.out (by simp))]; exact QA.out
    clear hc4 HTC
    go_wp2
    go_loopw [13, 14] (fun o13 o14 wr => ∃ (s : Nat) (rb : Bool), s ≤ 256 ∧ o14 = .int .i64 (s : Int) ∧ o13 = .bool rb ∧ (rb = true ∨ ∀ u, u < s → 0 < C.getD u 0 → n ≤ C.getD u 0 * (S : Int)) ∧ wr = w4) (fun _ o14 _ => 256 - (intOf o14).toNat)
    case atStart => exact ⟨0, false, Nat.zero_le _, rfl, rfl, .inr (fun u hu => by omega), rfl⟩
    case round =>
      obtain ⟨s, rb, hs, rfl, rfl, hrb, rfl⟩ := hrel
      have HRB := Lib.hid hrb
      clear hrb
      by_cases hlt : s < 256
      · have d8 : decide ((s : Int) < 256) = true := by simp; omega
        have hsI : (s : Int) < 256 := by omega
        have cx := CLW.out s hlt
        have hb := HONE.out s hlt
        obtain ⟨x, hx⟩ : ∃ x, C.getD s 0 = x := ⟨_, rfl⟩
        rw [hx] at cx hb
        obtain ⟨hx0, hx1⟩ := hb
        have hP0 : 0 ≤ x * (S : Int) := Int.mul_nonneg hx0 (by omega)
        have hP1 : x * (S : Int) ≤ 1073741824 * 4096 := Int.mul_le_mul hx1 (by omega) (by omega) (by omega)
        obtain ⟨P, hP⟩ : ∃ P, x * (S : Int) = P := ⟨_, rfl⟩
        rw [hP] at hP0 hP1
        have hP2 : P ≤ 4398046511104 := by omega
        have HXE := Lib.hid hx; have HPE := Lib.hid hP
        clear hx hP1
        by_cases hxp : 0 < x
        · have d1 : decide (0 < x) = true := decide_eq_true hxp
          by_cases hPn : P < n
          · have d2 : decide (P < n) = true := decide_eq_true hPn
            go_wp2
            go_roundw
            case rel => exact ⟨s + 1, true, by omega, by go_num, rfl, .inl rfl, trivial⟩
            case measure => simp [intOf]; omega
          · have d2 : decide (P < n) = false := decide_eq_false hPn
            have hnext : rb = true ∨ ∀ u, u < s + 1 → 0 < C.getD u 0 → n ≤ C.getD u 0 * (S : Int) := by
              rcases HRB.out with h1 | h1
              · exact .inl h1
              · refine .inr fun u hu h0 => ?_
                by_cases hus : u = s
                · subst hus; rw [HXE.out, HPE.out]; omega
                · exact h1 u (by omega) h0
            have HNX := Lib.hid hnext
            clear hnext
            go_wp2
            go_roundw
            case rel => exact ⟨s + 1, rb, by omega, by go_num, rfl, HNX.out, trivial⟩
            case measure => simp [intOf]; omega
        · have d1 : decide (0 < x) = false := decide_eq_false hxp
          have hnext : rb = true ∨ ∀ u, u < s + 1 → 0 < C.getD u 0 → n ≤ C.getD u 0 * (S : Int) := by
            rcases HRB.out with h1 | h1
            · exact .inl h1
            · refine .inr fun u hu h0 => ?_
              by_cases hus : u = s
              · subst hus; rw [HXE.out] at h0; exact absurd h0 hxp
              · exact h1 u (by omega) h0
          have HNX := Lib.hid hnext
          clear hnext
          go_wp2
          go_roundw
          case rel => exact ⟨s + 1, rb, by omega, by go_num, rfl, HNX.out, trivial⟩
          case measure => simp [intOf]; omega
      · have hse : s = 256 := by omega
        have hsI : (s : Int) = 256 := by omega
        have hrb := HRB.out
        rw [hse] at hrb
        rw [hsI]
        have cx := CLW.out a ha
        have hb := HONE.out a ha
        have hnear := HNEAR.out
        have hnear2 := HNEAR2.out
        obtain ⟨x, hx⟩ : ∃ x, C.getD a 0 = x := ⟨_, rfl⟩
        rw [hx] at cx hb hnear hnear2
        obtain ⟨hx0, hx1⟩ := hb
        have hP0 : 0 ≤ x * (S : Int) := Int.mul_nonneg hx0 (by omega)
        have hP1 : x * (S : Int) ≤ 1073741824 * 4096 := Int.mul_le_mul hx1 (by omega) (by omega) (by omega)
        obtain ⟨P, hP⟩ : ∃ P, x * (S : Int) = P := ⟨_, rfl⟩
        rw [hP] at hP0 hP1 hnear hnear2
        have hP2 : P ≤ 4398046511104 := by omega
        have hM0 : 0 ≤ z * n := Int.mul_nonneg HZ0.out (by omega)
        have hM1 : z * n ≤ 4096 * 2621400 := Int.mul_le_mul (by have := HZ1.out; omega) hn2 (by omega) (by omega)
        obtain ⟨M, hM⟩ : ∃ M, z * n = M := ⟨_, rfl⟩
        rw [hM] at hnear hnear2 hM0 hM1
        have hM2 : M ≤ 10737254400 := by omega
        clear hse hsI hs hlt hx hP1 hM1
        cases rb with
        | true =>
          clear hrb hnear2
          go_wp2
          go_ret
          exact ⟨rfl, Q4.out⟩
        | false =>
          have hn3 := hnear2 (hrb.resolve_left (by simp))
          clear hrb hnear2
          go_wp2
          go_ret
          exact ⟨rfl, Q4.out⟩
  · rw [if_neg hok]
    obtain ⟨a3, k3, rfl⟩ := (n3 hok).form
    rw [List.length_nil]
    clear y3 n3 hok o2
    go_wp2
    go_ret
    exact ⟨rfl, q3⟩

end Go.Proofs.Ytnijfkbnggdbnaa
