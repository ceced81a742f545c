/- The walk of BitfBack. -/
import Derived.Test.YtbpfgmgbikagoaaBfAwake
import Derived.Test.YtbpfgmgbikagoaaBwBytes
import Derived.Test.YtbpfgmgbikagoaaBrBack
namespace Go.Proofs.Ytbpfgmgbikagoaa
open Go.RowKit

theorem putAll_pre (bs : List Bool) (ps : List (Nat × Int)) : ∃ t, putAll bs ps = bs ++ t := by
  induction ps generalizing bs with
  | nil => exact ⟨[], by simp [putAll]⟩
  | cons p r ih =>
    obtain ⟨t, ht⟩ := ih (putB bs p.1 p.2)
    by_cases hp : 0 ≤ p.2 ∧ p.2 ≤ 24
    · refine ⟨bitsOf p.1 p.2.toNat ++ t, ?_⟩
      show putAll (putB bs p.1 p.2) r = _
      rw [ht]; unfold putB; rw [if_pos hp, List.append_assoc]
    · refine ⟨t, ?_⟩
      show putAll (putB bs p.1 p.2) r = _
      rw [ht]; unfold putB; rw [if_neg hp]

theorem bits_pack_more (bs : List Bool) (ms : List Nat) : bitsB (pack bs ++ ms) = bs ++ (List.replicate (8 * ((bs.length + 7) / 8) - bs.length) false ++ bitsB ms) := by
  rw [bitsB_append, bitsB_pack, List.append_assoc]

theorem clear_pack (bs : List Bool) (ms : List Nat) : Clear (pack bs ++ ms) bs.length := by
  intro j h1 h2
  have hj : j < 8 * (pack bs ++ ms).length := by rw [List.length_append, pack_length]; omega
  have e := bitsB_get (pack bs ++ ms) j hj
  rw [bits_pack_more, List.getElem?_append_right (by omega), List.getElem?_append_left (by rw [List.length_replicate]; omega), List.getElem?_replicate, if_pos (by omega)] at e
  have hb := bt_lt (pack bs ++ ms) j
  have : ¬ bt (pack bs ++ ms) j = 1 := by
    intro h1
    unfold bt at h1
    rw [h1] at e; simp at e
  omega

/-- the number that was put behind the bits A is taken there -/
theorem fv_put (ps : List (Nat × Int)) (ms : List Nat) (k : Nat) (h : k < ps.length) (n : Nat) (hn : n ≤ 24) (hk : ps[k].2 = (n : Int)) :
    fv (pack (putAll [] ps) ++ ms) (putAll [] (ps.take k)).length n = ps[k].1 % 2 ^ n ∧ (putAll [] (ps.take (k + 1))).length = (putAll [] (ps.take k)).length + n := by
  have hs := putAll_succ [] ps k h
  rw [hk] at hs
  unfold putB at hs
  rw [if_pos (by omega), Int.toNat_natCast] at hs
  refine ⟨?_, by rw [hs, List.length_append, bitsOf_length]⟩
  have e : putAll [] ps = putAll (putAll [] (ps.take (k + 1))) (ps.drop (k + 1)) := by
    conv => lhs; rw [← List.take_append_drop (k + 1) ps]
    rw [putAll_append]
  obtain ⟨t, ht⟩ := putAll_pre (putAll [] (ps.take (k + 1))) (ps.drop (k + 1))
  rw [ht, hs, List.append_assoc] at e
  unfold fv
  rw [bits_pack_more, e, List.append_assoc, List.drop_left, List.append_assoc]
  rw [List.take_append_of_le_length (by rw [bitsOf_length]; omega), List.take_of_length_le (by rw [bitsOf_length]; omega)]
  exact val_bitsOf _ _

theorem put_skip (ps : List (Nat × Int)) (k : Nat) (h : k < ps.length) (hn : ¬ (0 ≤ ps[k].2 ∧ ps[k].2 ≤ 24)) : putAll [] (ps.take (k + 1)) = putAll [] (ps.take k) := by
  rw [putAll_succ [] ps k h]; unfold putB; rw [if_neg hn]

theorem drop_pack (bs : List Bool) (ms : List Nat) : (pack bs ++ ms).drop ((bs.length + 7) / 8) = ms := by
  rw [← pack_length bs, List.drop_left]

theorem put_upto (ps : List (Nat × Int)) (k : Nat) : (putAll [] (ps.take k)).length ≤ (putAll [] ps).length := by
  have e : putAll [] ps = putAll (putAll [] (ps.take k)) (ps.drop k) := by
    conv => lhs; rw [← List.take_append_drop k ps]
    rw [putAll_append]
  rw [e]; exact (putAll_length _ _).1

theorem fleft_e (b : Nat) (o : Option Nat) (xs : List Nat) (p M : Nat) (w : World) (h : Rf w b o xs p) (hM : 8 * xs.length = p + 8 * M) :
    Calls Try.prog 14 #[.pointer (some ⟨b, 0, none⟩)] w fun e w' => e = .returned (.int .i64 (8 * (M : Int))) ∧ Chg (fun _ => False) w w' := by
  refine (fleft_any b o xs p w h).mono ?_
  rintro e w' ⟨rfl, hc⟩
  exact ⟨congrArg (fun z => Ending.returned (Value.int .i64 z)) (by omega), hc⟩

set_option maxHeartbeats 4000000 in
set_option maxRecDepth 100000 in
theorem fback_any (v u : Value) (ps : List (Nat × Int)) (ms : List Nat) (w : World) (h : RdP w v ps) (hu : RdB w u ms) (hms : ∀ x ∈ ms, x < 256) : Calls Try.prog 4 #[v, u] w fun e w' => Says w e w' := by
  obtain ⟨ao, cap, hv, hao⟩ := h.form
  subst hv
  obtain ⟨au, capu, hvu⟩ := hu.form
  subst hvu
  have HA := Lib.hid hao
  have H := Lib.hid h; have HU := Lib.hid hu; have HMS := Lib.hid hms
  clear hao h hu hms
  by_cases hbig : 60 < ps.length
  · have hb' : decide (60 < (ps.length : Int)) = true := by simp; omega
    go_enter Try.func4, Try.ntmps4
    go_wp2_with fail
    refine (awake3_any w).mono ?_
    rintro e w1 ⟨rfl, hc1⟩
    go_wp2
    go_ret
    exact ⟨rfl, hc1⟩
  have hb' : decide (60 < (ps.length : Int)) = false := by simp; omega
  by_cases hbig2 : 60 < ms.length
  · have hb2' : decide (60 < (ms.length : Int)) = true := by simp; omega
    go_enter Try.func4, Try.ntmps4
    go_wp2_with fail
    refine (awake3_any w).mono ?_
    rintro e w1 ⟨rfl, hc1⟩
    go_wp2
    go_ret
    exact ⟨rfl, hc1⟩
  have hb2' : decide (60 < (ms.length : Int)) = false := by simp; omega
  obtain ⟨i, hi, hz0, hz1, hz2⟩ := info_parts Try.infoU8
  go_enter Try.func4, Try.ntmps4
  go_wp2_with fail
  refine (awake3_any w).mono ?_
  rintro e w1 ⟨rfl, hc1⟩
  have z1 := hc1.size
  go_wp2_with fail
  refine (new_wr w1).mono ?_
  rintro e w2 ⟨rfl, hw2, hc2⟩
  have hc2' := hc1.trans hc2 (fun _ _ h => h)
  clear hc1 hc2
  go_wp2
  go_loopw [7] (fun o7 wr => ∃ (k : Nat) (o : Option Nat), k ≤ ps.length ∧ o7 = .int .i64 (k : Int) ∧ Wr wr w1.heap.size o (putAll [] (ps.take k)) ∧ Above w1.heap.size w1.heap.size o ∧ Chg (fun _ => False) w wr) (fun o7 _ => ps.length - (intOf o7).toNat)
  case atStart => exact ⟨0, none, Nat.zero_le _, rfl, hw2, ⟨Nat.le_refl _, by simp⟩, hc2'⟩
  case round =>
    obtain ⟨k, o, hk, rfl, hwr, hab, hcr⟩ := hrel
    clear hw2 hc2'
    by_cases hlt : k < ps.length
    · obtain ⟨g, off, hao⟩ := HA.out (by omega)
      subst hao
      have hkept := H.out.kept hcr (fun _ _ => by simp)
      obtain ⟨q0, q1⟩ := hkept.cells g off _ _ rfl k hlt
      have hpl := putAll_length [] (ps.take k)
      have htl : (ps.take k).length ≤ k := List.length_take_le _ _
      have hwf := H.out.wf ps[k] (List.getElem_mem hlt)
      have hsz := hcr.size
      go_wp2
      go_still_tail 11, (by kernel_rfl)
      change wpList _ _ _ _ _ wr.drew
      go_wp2_with fail
      refine (put_any w1.heap.size o (putAll [] (ps.take k)) ps[k].1 ps[k].2 _ hwr.drew (by simp at hpl; omega) hwf).mono ?_
      rintro e w3 ⟨rfl, o3, hw3, hc3, ho3⟩
      have hcr3 := hcr.drew.trans hc3 (S := fun _ => False) (fun q hq hx => by
        rcases hx with hx | hx
        · omega
        · have := hab.2 q hx.symm; omega)
      have hab3 := hab.step (w := wr.drew) (by show w1.heap.size ≤ wr.heap.size; have := hwr.lt.1; omega) ho3
      rw [← putAll_succ [] ps k hlt] at hw3
      clear hc3 ho3 hkept hwr hcr hab q0 q1 hpl htl hwf
      go_wp2
      go_roundw
      case rel => exact ⟨k + 1, o3, by omega, by go_num, hw3, hab3, hcr3⟩
      case measure => simp [intOf]; omega
    · obtain rfl : k = ps.length := by omega
      rw [List.take_length] at hwr
      have hbl := (putAll_length [] ps).2
      obtain ⟨bs, hbs⟩ : ∃ bs, putAll [] ps = bs := ⟨_, rfl⟩
      rw [hbs] at hwr hbl
      have hbl' : bs.length < 2000 := by simp at hbl; omega
      have HBS := Lib.hid hbs
      clear hbs hbl hk hlt hab
      obtain ⟨wa, hwa⟩ : ∃ wa, wa = wr := ⟨_, rfl⟩
      subst hwa
      go_wp2_with fail
      refine (bytes_any w1.heap.size o bs wa hwr (by omega)).mono ?_
      rintro e w3 ⟨g3, cap3, rfl, hr3, hc3⟩
      have hc3' := hcr.trans hc3 (fun _ _ h => h)
      have hu3 := HU.out.kept hc3' (by simp)
      have hz3 := hcr.size
      have hz3' := hc3'.size
      rw [pack_length] at hr3 ⊢
      clear hc3 hwr hcr
      have hbase : wa.heap.size ≤ w3.heap.size := by
        have := (hr3.lt g3 rfl).2; have := (hr3.lt g3 rfl).1; omega
      have HXS : Hid (∀ x ∈ pack bs ++ ms, x < 256) := by
        refine Lib.hid fun x hx => ?_
        rcases List.mem_append.1 hx with hx | hx
        · exact pack_lt bs x hx
        · exact HMS.out x hx
      have HXL : Hid ((pack bs ++ ms).length = (bs.length + 7) / 8 + ms.length) := Lib.hid (by rw [List.length_append, pack_length])
      obtain ⟨xs, hxs⟩ : ∃ xs, pack bs ++ ms = xs := ⟨_, rfl⟩
      have HXE := Lib.hid hxs
      rw [hxs] at HXS HXL
      cases au with
      | none =>
        have h0 : ms = [] := by
          rcases hu3 with ⟨h0, _⟩ | ⟨g, off, cap', he, _⟩
          · exact h0
          · simp at he
        have rd4 : RdB w3 (.slice (some ⟨g3, 0, none⟩) ((bs.length + 7) / 8) cap3) (pack bs ++ ms) := by
          rw [h0, List.append_nil]; exact RdB.of_own hr3
        have hl0 : ms.length = 0 := by rw [h0]; rfl
        have hcap3 : (bs.length + 7) / 8 ≤ cap3 := by
          rcases hr3.2 with ⟨hx, _⟩ | ⟨g', cap', cur, hx, _, _, h1, _⟩
          · simp at hx
          · simp only [Value.slice.injEq] at hx
            obtain ⟨_, _, rfl⟩ := hx
            exact h1
        rw [hxs] at rd4
        have HRD := Lib.hid rd4
        have HU0 : Hid (RdB w (.slice none 0 capu) ms) := by rw [← hl0]; exact HU
        obtain ⟨w4, hw4⟩ : ∃ w4, w4 = w3 := ⟨_, rfl⟩
        subst hw4
        have hc4' := hc3'
        clear hr3 hu3 rd4 hc3' h0 hbase hz3 hz3' hxs
        rw [hl0]
        go_wp2_with fail
        refine (fnew_any _ xs w4 HRD.out (by rw [HXL.out]; omega) HXS.out).mono ?_
        rintro e w5 ⟨b, o5, rfl, r5, ab5, hc5⟩
        have hc5' := hc4'.trans hc5 (fun _ _ h => h)
        have HB : Hid (w.heap.size ≤ b) := Lib.hid (by have := ab5.1; have := hc4'.size; omega)
        clear hc5 ab5 HRD hc4'
        go_wp2
        go_loopw [9] (fun o9 wr => ∃ k : Nat, k ≤ ps.length ∧ o9 = .int .i64 (k : Int) ∧ Rf wr b o5 xs (putAll [] (ps.take k)).length ∧ Chg (fun _ => False) w wr) (fun o9 _ => ps.length - (intOf o9).toNat)
        case atStart => exact ⟨0, Nat.zero_le _, rfl, r5, hc5'⟩
        case round =>
          obtain ⟨k, hk, rfl, r, hc⟩ := hrel
          clear r5 hc5'
          by_cases hlt : k < ps.length
          · obtain ⟨g, off, hao⟩ := HA.out (by omega)
            subst hao
            obtain ⟨q0, q1⟩ := (H.out.kept hc (fun _ _ => by simp)).cells g off _ _ rfl k hlt
            have hwf := H.out.wf ps[k] (List.getElem_mem hlt)
            by_cases hok : 0 ≤ ps[k].2 ∧ ps[k].2 ≤ 24
            · obtain ⟨n, hn⟩ := Int.eq_ofNat_of_zero_le hok.1
              have hn24 : n ≤ 24 := by omega
              obtain ⟨f1, f2⟩ := fv_put ps ms k hlt n hn24 hn
              have hup := put_upto ps (k + 1)
              rw [f2, HBS.out] at hup
              rw [HBS.out, HXE.out] at f1
              obtain ⟨P, hP⟩ : ∃ P, (putAll [] (ps.take k)).length = P := ⟨_, rfl⟩
              rw [hP] at f1 f2 hup r
              have HK : Hid (∀ W : World, Chg (fun _ => False) w W → W.cell? ⟨g, off + k * 2, none⟩ = some (.int .u32 (ps[k].1 : Int)) ∧ W.cell? ⟨g, off + k * 2 + 1, none⟩ = some (.int .i64 ps[k].2)) := Lib.hid (fun W hW => (H.out.kept hW (fun _ _ => by simp)).cells g off _ _ rfl k hlt)
              obtain ⟨⟨u, n0⟩, hp⟩ : ∃ p, ps[k] = p := ⟨_, rfl⟩
              rw [hp] at q0 q1 f1 hwf hn HK
              simp only at q0 q1 f1 hwf hn HK
              subst hn
              have d1 : decide ((n : Int) < 0) = false := by simp
              have d2 : decide (24 < (n : Int)) = false := by simp; omega
              have F1 := Lib.hid f1; have F2 := Lib.hid f2
              have hPn : (P : Int) + (n : Int) ≤ 8 * xs.length := by rw [HXL.out]; omega
              have HPN := Lib.hid hPn
              clear f1 f2 hP hp hok hup hPn
              go_wp2_with fail
              refine (ftake_in b o5 xs P (n : Int) wr r (by omega) (by omega) HPN.out).mono ?_
              rintro e w6 ⟨rfl, r6, hc6⟩
              rw [Int.toNat_natCast] at r6 ⊢
              rw [F1.out]
              have hb := HB.out
              have hc6' := hc.trans hc6 (S := fun _ => False) (fun q hq hx => by omega)
              obtain ⟨e0, e1⟩ := HK.out w6 hc6'
              clear hc6 r hc q0 q1 HK
              go_wp2
              go_quiet (fail)
              have hmask := mask_eq u n hwf hn24
              go_wp2
              go_roundw
              case rel => exact ⟨k + 1, by omega, by go_num, by rw [F2.out]; exact r6.drewN nq, hc6'.drewN nq⟩
              case measure => simp [intOf]; omega
            · have hsk := put_skip ps k hlt hok
              rw [← hsk] at r
              obtain ⟨⟨u, n0⟩, hp⟩ : ∃ p, ps[k] = p := ⟨_, rfl⟩
              rw [hp] at q0 q1 hok
              simp only at q0 q1 hok
              clear hsk hp hwf
              by_cases hneg : n0 < 0
              · have d1 : decide (n0 < 0) = true := decide_eq_true hneg
                go_wp2
                go_roundw
                case rel => exact ⟨k + 1, by omega, by go_num, r, hc⟩
                case measure => simp [intOf]; omega
              · have d1 : decide (n0 < 0) = false := decide_eq_false hneg
                have d2 : decide (24 < n0) = true := decide_eq_true (by omega)
                go_wp2
                go_roundw
                case rel => exact ⟨k + 1, by omega, by go_num, r, hc⟩
                case measure => simp [intOf]; omega
          · obtain rfl : k = ps.length := by omega
            rw [List.take_length, HBS.out] at r
            go_wp2_with fail
            refine (fpad_any b o5 xs bs.length wr r).mono ?_
            rintro e w6 (⟨-, rfl, r6, hc6⟩ | ⟨hno, -, -⟩)
            · have hb := HB.out
              have hc6' := hc.trans hc6 (S := fun _ => False) (fun q hq hx => by omega)
              clear hc6 r hc
              go_wp2_with fail
              refine (frest_q b o5 xs (8 * ((bs.length + 7) / 8)) ((bs.length + 7) / 8) w6 r6 (by omega)).mono ?_
              rintro e w7 ⟨v7, rfl, rd7, hc7⟩
              rw [← HXE.out, drop_pack] at rd7
              have hc7' := hc6'.trans hc7 (fun _ _ h => h)
              have r7 := r6.kept hc7 (by simp) (by simp)
              have hu7 := HU0.out.kept hc7' (by simp)
              clear hc7 r6 hc6'
              go_wp2_with fail
              refine (same_eq _ _ ms w7 rd7 hu7 HMS.out).mono ?_
              rintro e w8 ⟨rfl, rfl⟩
              clear rd7 hu7
              go_wp2_with fail
              refine (fleft_e b o5 xs _ ms.length w7 r7 (by rw [HXL.out]; omega)).mono ?_
              rintro e w8 ⟨rfl, hc8⟩
              have hc8' := hc7'.trans hc8 (fun _ _ h => h)
              clear r7 hc8 hc7'
              go_wp2
              go_ret
              exact ⟨rfl, hc8'⟩
            · rw [← HXE.out] at hno
              exact absurd (clear_pack bs ms) hno
      | some a =>
        have hnews := RdB.news hu3
        go_wp2_with (at_builtin; refine wpList_append_own _ rfl (.tmp 45) (.tmp 46) 22 rfl wa.heap.size 5 i (.int .u8 0) 1 1 Try.underlying22 hi hz0 hz1 hz2 rfl (by decide) _ ((bs.length + 7) / 8) _ rfl hr3 a ms.length capu (bv ms) rfl (by rw [bv_length, Nat.mul_one]) hnews (bv_one ms) (by unfold maxLen; omega) (by omega) hbase ?_)
        intro v4 w4 ho4 hg4 _
        have hc4' := hc3'.trans (Chg.of_grown hg4) (S := fun _ => False) (fun q hq hx => by simp [Value.ownBlock] at hx; have := (hr3.lt g3 rfl).1; omega)
        have rd4 : RdB w4 v4 (pack bs ++ ms) := RdB.of_own (by simpa [bv] using ho4)
        rw [hxs] at rd4
        have HRD := Lib.hid rd4
        have HU0 := HU
        clear hg4 ho4 hr3 hu3 hnews hc3' rd4 hbase hz3 hz3' hxs
        go_wp2_with fail
        refine (fnew_any _ xs w4 HRD.out (by rw [HXL.out]; omega) HXS.out).mono ?_
        rintro e w5 ⟨b, o5, rfl, r5, ab5, hc5⟩
        have hc5' := hc4'.trans hc5 (fun _ _ h => h)
        have HB : Hid (w.heap.size ≤ b) := Lib.hid (by have := ab5.1; have := hc4'.size; omega)
        clear hc5 ab5 HRD hc4'
        go_wp2
        go_loopw [9] (fun o9 wr => ∃ k : Nat, k ≤ ps.length ∧ o9 = .int .i64 (k : Int) ∧ Rf wr b o5 xs (putAll [] (ps.take k)).length ∧ Chg (fun _ => False) w wr) (fun o9 _ => ps.length - (intOf o9).toNat)
        case atStart => exact ⟨0, Nat.zero_le _, rfl, r5, hc5'⟩
        case round =>
          obtain ⟨k, hk, rfl, r, hc⟩ := hrel
          clear r5 hc5'
          by_cases hlt : k < ps.length
          · obtain ⟨g, off, hao⟩ := HA.out (by omega)
            subst hao
            obtain ⟨q0, q1⟩ := (H.out.kept hc (fun _ _ => by simp)).cells g off _ _ rfl k hlt
            have hwf := H.out.wf ps[k] (List.getElem_mem hlt)
            by_cases hok : 0 ≤ ps[k].2 ∧ ps[k].2 ≤ 24
            · obtain ⟨n, hn⟩ := Int.eq_ofNat_of_zero_le hok.1
              have hn24 : n ≤ 24 := by omega
              obtain ⟨f1, f2⟩ := fv_put ps ms k hlt n hn24 hn
              have hup := put_upto ps (k + 1)
              rw [f2, HBS.out] at hup
              rw [HBS.out, HXE.out] at f1
              obtain ⟨P, hP⟩ : ∃ P, (putAll [] (ps.take k)).length = P := ⟨_, rfl⟩
              rw [hP] at f1 f2 hup r
              have HK : Hid (∀ W : World, Chg (fun _ => False) w W → W.cell? ⟨g, off + k * 2, none⟩ = some (.int .u32 (ps[k].1 : Int)) ∧ W.cell? ⟨g, off + k * 2 + 1, none⟩ = some (.int .i64 ps[k].2)) := Lib.hid (fun W hW => (H.out.kept hW (fun _ _ => by simp)).cells g off _ _ rfl k hlt)
              obtain ⟨⟨u, n0⟩, hp⟩ : ∃ p, ps[k] = p := ⟨_, rfl⟩
              rw [hp] at q0 q1 f1 hwf hn HK
              simp only at q0 q1 f1 hwf hn HK
              subst hn
              have d1 : decide ((n : Int) < 0) = false := by simp
              have d2 : decide (24 < (n : Int)) = false := by simp; omega
              have F1 := Lib.hid f1; have F2 := Lib.hid f2
              have hPn : (P : Int) + (n : Int) ≤ 8 * xs.length := by rw [HXL.out]; omega
              have HPN := Lib.hid hPn
              clear f1 f2 hP hp hok hup hPn
              go_wp2_with fail
              refine (ftake_in b o5 xs P (n : Int) wr r (by omega) (by omega) HPN.out).mono ?_
              rintro e w6 ⟨rfl, r6, hc6⟩
              rw [Int.toNat_natCast] at r6 ⊢
              rw [F1.out]
              have hb := HB.out
              have hc6' := hc.trans hc6 (S := fun _ => False) (fun q hq hx => by omega)
              obtain ⟨e0, e1⟩ := HK.out w6 hc6'
              clear hc6 r hc q0 q1 HK
              go_wp2
              go_quiet (fail)
              have hmask := mask_eq u n hwf hn24
              go_wp2
              go_roundw
              case rel => exact ⟨k + 1, by omega, by go_num, by rw [F2.out]; exact r6.drewN nq, hc6'.drewN nq⟩
              case measure => simp [intOf]; omega
            · have hsk := put_skip ps k hlt hok
              rw [← hsk] at r
              obtain ⟨⟨u, n0⟩, hp⟩ : ∃ p, ps[k] = p := ⟨_, rfl⟩
              rw [hp] at q0 q1 hok
              simp only at q0 q1 hok
              clear hsk hp hwf
              by_cases hneg : n0 < 0
              · have d1 : decide (n0 < 0) = true := decide_eq_true hneg
                go_wp2
                go_roundw
                case rel => exact ⟨k + 1, by omega, by go_num, r, hc⟩
                case measure => simp [intOf]; omega
              · have d1 : decide (n0 < 0) = false := decide_eq_false hneg
                have d2 : decide (24 < n0) = true := decide_eq_true (by omega)
                go_wp2
                go_roundw
                case rel => exact ⟨k + 1, by omega, by go_num, r, hc⟩
                case measure => simp [intOf]; omega
          · obtain rfl : k = ps.length := by omega
            rw [List.take_length, HBS.out] at r
            go_wp2_with fail
            refine (fpad_any b o5 xs bs.length wr r).mono ?_
            rintro e w6 (⟨-, rfl, r6, hc6⟩ | ⟨hno, -, -⟩)
            · have hb := HB.out
              have hc6' := hc.trans hc6 (S := fun _ => False) (fun q hq hx => by omega)
              clear hc6 r hc
              go_wp2_with fail
              refine (frest_q b o5 xs (8 * ((bs.length + 7) / 8)) ((bs.length + 7) / 8) w6 r6 (by omega)).mono ?_
              rintro e w7 ⟨v7, rfl, rd7, hc7⟩
              rw [← HXE.out, drop_pack] at rd7
              have hc7' := hc6'.trans hc7 (fun _ _ h => h)
              have r7 := r6.kept hc7 (by simp) (by simp)
              have hu7 := HU0.out.kept hc7' (by simp)
              clear hc7 r6 hc6'
              go_wp2_with fail
              refine (same_eq _ _ ms w7 rd7 hu7 HMS.out).mono ?_
              rintro e w8 ⟨rfl, rfl⟩
              clear rd7 hu7
              go_wp2_with fail
              refine (fleft_e b o5 xs _ ms.length w7 r7 (by rw [HXL.out]; omega)).mono ?_
              rintro e w8 ⟨rfl, hc8⟩
              have hc8' := hc7'.trans hc8 (fun _ _ h => h)
              clear r7 hc8 hc7'
              go_wp2
              go_ret
              exact ⟨rfl, hc8'⟩
            · rw [← HXE.out] at hno
              exact absurd (clear_pack bs ms) hno

end Go.Proofs.Ytbpfgmgbikagoaa
