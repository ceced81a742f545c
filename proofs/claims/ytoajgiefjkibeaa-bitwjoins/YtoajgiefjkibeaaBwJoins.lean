/- The walk of BitwJoins. -/
import Derived.Test.YtoajgiefjkibeaaBwMany
import Derived.Test.YtoajgiefjkibeaaBwMark
namespace Go.Proofs.Ytoajgiefjkibeaa
open Go.RowKit

theorem putB_front (bs : List Bool) (v : Nat) (n : Int) : putB bs v n = bs ++ putB [] v n := by unfold putB; split <;> simp
theorem putAll_front (bs : List Bool) (ps : List (Nat × Int)) : putAll bs ps = bs ++ putAll [] ps := by
  induction ps generalizing bs with
  | nil => simp [putAll]
  | cons p r ih => rw [putAll, ih, putAll, ih (putB [] p.1 p.2), putB_front bs, List.append_assoc]

/-- what is left of the law behind the filling up to a byte -/
structure Mid (w wx : World) (ba bb : Nat) (oa ob : Option Nat) (lp lm : List Bool) : Prop where
  a : Wr wx ba oa lp
  b : Wr wx bb ob lm
  dj : Dj ba oa bb ob
  aa : Above w.heap.size ba oa
  ab : Above w.heap.size bb ob
  chg : Chg (fun _ => False) w wx
  la : lp.length < 1000000
  lb : lm.length < 1000000
  even : lp.length % 8 = 0

set_option maxHeartbeats 2000000 in
set_option maxRecDepth 100000 in
theorem joins_any (v1 v2 : Value) (ps qs : List (Nat × Int)) (w : World) (h : RdP w v1 ps) (h' : RdP w v2 qs) :
    Calls Try.prog 7 #[v1, v2] w fun e w' => Says w e w' := by
  obtain ⟨ao, cap, hv, hao⟩ := h.form
  obtain ⟨ao2, cap2, hv2, hao2⟩ := h'.form
  subst hv hv2
  clear hao
  have HA := Lib.hid hao2
  have HG : Hid (∀ g off, ao2 = some ⟨g, off, none⟩ → 0 < qs.length → g < w.heap.size) := fun g off hg h0 => block_lt_of_cell (h'.cells g off _ _ (by rw [hg]) 0 h0).1
  clear hao2
  by_cases hbig : 30 < ps.length ∨ 30 < qs.length
  · rcases hbig with hbig | hbig
    · have hd : decide (30 < (ps.length : Int)) = true := by simp; omega
      go_enter Try.func7, Try.ntmps7
      go_wp2_with fail
      refine (awake_any w).mono ?_
      rintro e w1 ⟨rfl, hc1⟩
      go_wp2
      go_ret
      exact ⟨rfl, hc1⟩
    · by_cases hbig1 : 30 < ps.length
      · have hd : decide (30 < (ps.length : Int)) = true := by simp; omega
        go_enter Try.func7, Try.ntmps7
        go_wp2_with fail
        refine (awake_any w).mono ?_
        rintro e w1 ⟨rfl, hc1⟩
        go_wp2
        go_ret
        exact ⟨rfl, hc1⟩
      · have hd : decide (30 < (ps.length : Int)) = false := by simp; omega
        have hd2 : decide (30 < (qs.length : Int)) = true := by simp; omega
        go_enter Try.func7, Try.ntmps7
        go_wp2_with fail
        refine (awake_any w).mono ?_
        rintro e w1 ⟨rfl, hc1⟩
        go_wp2
        go_ret
        exact ⟨rfl, hc1⟩
  · have hd : decide (30 < (ps.length : Int)) = false := by simp; omega
    have hd2 : decide (30 < (qs.length : Int)) = false := by simp; omega
    have hpl := putAll_length [] ps
    have hql := putAll_length [] qs
    have hl : (putAll [] ps).length < 1000 := by simp at hpl; omega
    have hl2 : (putAll [] qs).length < 1000 := by simp at hql; omega
    have hq30 : qs.length ≤ 30 := by omega
    clear hpl hql
    go_enter Try.func7, Try.ntmps7
    go_wp2_with fail
    refine (awake_any w).mono ?_
    rintro e w1 ⟨rfl, hc1⟩
    have h1 := h.kept hc1 (fun _ _ => by simp)
    have h1' := h'.kept hc1 (fun _ _ => by simp)
    go_wp2_with fail
    refine (lput_foot _ ps w1 h1 (by omega)).mono ?_
    rintro e w2 ⟨rfl, ox, hx2, ax, hc2⟩
    have h2' := h1'.kept hc2 (fun _ _ => by simp)
    go_wp2_with fail
    refine (lput_foot _ qs w2 h2' (by omega)).mono ?_
    rintro e w3 ⟨rfl, oy, hy3, ay, hc3⟩
    have hx3 := hx2.kept hc3 (by simp) (by simp)
    have dxy := Dj.of_above hx2 ay
    have z1 := hc1.size; have z2 := hc2.size; have z3 := hc3.size
    have ax' := ax.mono (B' := w.heap.size) (by omega)
    have ay' := ay.mono (B' := w.heap.size) (by omega)
    have hc3' := (hc1.next hc2).next hc3
    clear hc1 hc2 hc3 h h1 h1' h2' hx2 ax ay
    generalize hbs : putAll [] ps = bs at *
    clear hbs
    have Hax := Lib.hid ax'; have Hay := Lib.hid ay'; have Hxy := Lib.hid dxy
    clear ax' ay' dxy
    go_wp2_with fail
    refine (bits_any w1.heap.size ox bs w3 hx3).mono ?_
    rintro e w3' ⟨rfl, rfl⟩
    have hm2 : bs.length % 8 = 0 ∨ bs.length % 8 ≠ 0 := by omega
    rcases hm2 with hm | hm
    · have hm' : (((bs.length : Nat) : Int) % 8 != 0) = false := by simp; omega
      have HM := Lib.hid hm
      clear hm
      go_wp2_with fail
      refine (bytes_any w1.heap.size ox bs w3 hx3 (by omega)).mono ?_
      rintro e w4 ⟨g4, cap4, rfl, r4, hc4⟩
      have hx4 := hx3.kept hc4 (by simp) (by simp); have hy4 := hy3.kept hc4 (by simp) (by simp)
      have hc4' := hc3'.next hc4
      have b4 := (r4.lt g4 rfl)
      have z4 := hc4.size
      have h4' := h'.kept hc4' (fun _ _ => by simp)
      have Hlx := Lib.hid hx3.lt; have Hly := Lib.hid hy3.lt
      clear hx3 hy3 hc4 hc3' h'
      have hst : WrTo w4 w4 w1.heap.size ox (putAll bs (qs.take 0)) := ⟨ox, hx4, Chg.refl _ _, .inl rfl⟩
      clear hx4
      go_wp2
      go_loopw [9] (fun i wr => ∃ k : Nat, k ≤ qs.length ∧ i = .int .i64 (k : Int) ∧ WrTo w4 wr w1.heap.size ox (putAll bs (qs.take k))) (fun i _ => qs.length - (intOf i).toNat)
      case atStart => exact ⟨0, Nat.zero_le _, rfl, hst⟩
      case round =>
        obtain ⟨k, hk, rfl, ox5, hx5, hc5, hox5⟩ := hrel
        by_cases hlt : k < qs.length
        · obtain ⟨g, off, hao⟩ := HA.out (by omega)
          subst hao
          have hgl := HG.out g off rfl (by omega)
          have hkept := h4'.kept hc5 (fun j hj hx => by
            simp [Value.ownBlock] at hj
            rcases hx with hx | hx
            · omega
            · have := Hax.out.2 j hx.symm; omega)
          obtain ⟨q0, q1⟩ := hkept.cells g off _ _ rfl k hlt
          have HO := Lib.hid hox5
          have hpl := putAll_length bs (qs.take k)
          have htl : (qs.take k).length ≤ k := List.length_take_le _ _
          have hwf := hkept.wf qs[k] (List.getElem_mem hlt)
          clear hox5
          go_wp2
          go_still_tail 11, (by kernel_rfl)
          change wpList _ _ _ _ _ wr.drew
          go_wp2_with fail
          refine (put_any w1.heap.size ox5 (putAll bs (qs.take k)) qs[k].1 qs[k].2 _ hx5.drew (by omega) hwf).mono ?_
          rintro e w6 ⟨rfl, hto⟩
          rw [← putAll_succ bs qs k hlt] at hto
          have hto' := WrTo.trans (hc5.drew) HO.out hto
          clear hto hx5 hc5 hkept q0 q1
          go_wp2
          go_roundw
          case rel => exact ⟨k + 1, by omega, by go_num, hto'⟩
          case measure => simp [intOf]; omega
        · obtain rfl : k = qs.length := by omega
          rw [List.take_length, putAll_front bs qs] at hx5
          have hy5 := Hxy.out.keep hy4 hc5
          have r5 := hc5.own r4 (fun j hj hx => by
            simp [Value.ownBlock] at hj
            rcases hx with hx | hx
            · have := Hlx.out.1; omega
            · have := (Hlx.out.2 j hx.symm).2; omega)
          have hc5' := hc4'.up hc5 Hax.out
          have z5 := hc5.size
          have hall : (bs ++ putAll [] qs).length < 10000 := by simp; omega
          have hpk := pack_append bs (putAll [] qs ++ [true]) HM.out
          rw [← List.append_assoc] at hpk
          have HP := Lib.hid hpk
          have HL := Lib.hid (pack_lt (bs ++ putAll [] qs ++ [true]))
          clear hy4 hc4' hc5 r4 hox5 hst hpk
          go_wp2_with fail
          refine (close_any w1.heap.size ox5 (bs ++ putAll [] qs) wr hx5 (by omega)).mono ?_
          rintro e w6 ⟨g6, cap6, rfl, r6, hc6⟩
          generalize pack (bs ++ putAll [] qs ++ [true]) = pa at *
          have hy6 := hy5.kept hc6 (by simp) (by simp)
          have r6' := RdB.of_own r6
          have r56 := hc6.own r5 (fun j hj => by simp)
          have hc6' := hc5'.next hc6
          have b6 := r6.lt g6 rfl
          have z6 := hc6.size
          clear hx5 hy5 hc6 hc5' r5 r6
          go_wp2_with fail
          refine (close_any w2.heap.size oy (putAll [] qs) w6 hy6 (by omega)).mono ?_
          rintro e w7 ⟨g7, cap7, rfl, r7, hc7⟩
          have r67 := r6'.kept hc7 (by simp)
          have r57 := hc7.own r56 (fun j hj => by simp)
          have hc7' := hc6'.next hc7
          have z7 := hc7.size
          clear hy6 hc7 hc6' r56 r6'
          have hpl : 0 < (pack (putAll [] qs ++ [true])).length := by rw [pack_length]; simp
          have hp1 : (pack (putAll [] qs ++ [true])).length < 10000 := by rw [pack_length]; simp; omega
          have hp2 : (pack bs).length < 10000 := by rw [pack_length]; omega
          have hr7 := r7.cells (g := g7) rfl
          have HR7 := Lib.hid hr7
          clear hr7
          obtain ⟨i, hi, hz0, hz1, hz2⟩ := info_parts Try.infoU8
          go_wp2_with (at_builtin; refine wpList_append_want (.tmp 64) (.tmp 66) 34 rfl w3.heap.size 5 i (.int .u8 0) 1 1 Try.underlying34 hi hz0 hz1 hz2 rfl (by decide) _ (pack bs).length _ rfl r57 ⟨g7, 0, none⟩ (pack (putAll [] qs ++ [true])).length cap7 (bv (pack (putAll [] qs ++ [true]))) rfl (by rw [bv_length, Nat.mul_one]) HR7.out (bv_one _) hpl (by unfold maxLen; omega) (by omega) (by omega) (by rfl) ?_)
          intro g8 cap8 w8 hown8 hgrow8 hg8
          rw [show bv (pack bs) ++ bv (pack (putAll [] qs ++ [true])) = bv (pack bs ++ pack (putAll [] qs ++ [true])) from by simp [bv]] at hown8
          have hc8 := Chg.of_grown hgrow8
          have r8 := RdB.of_own hown8
          rw [← HP.out] at r8
          have r68 := r67.kept hc8 (fun j hj => by simp [Value.ownBlock] at hj ⊢; omega)
          have hc8' : Chg (fun _ => False) w w8 := hc7'.trans hc8 (fun j hj h => by simp [Value.ownBlock] at h; omega)
          clear hown8 hgrow8 hg8 hc8 hc7' r57 r67 r7
          go_wp2_with fail
          refine (same_any _ _ _ _ w8 r68 r8 HL.out HL.out).mono ?_
          rintro e w9 ⟨rfl, rfl⟩
          rw [show decide (pa = pa) = true from decide_eq_true rfl]
          clear r68 r8
          go_wp2
          go_ret
          exact ⟨rfl, hc8'⟩
    · have hm' : (((bs.length : Nat) : Int) % 8 != 0) = true := by simp; omega
      obtain ⟨r, hr, hr0, hr8⟩ : ∃ r : Nat, ((bs.length : Int) % 8) = (r : Int) ∧ 0 < r ∧ r < 8 := ⟨bs.length % 8, by omega, by omega, by omega⟩
      have hpad : (bs.length + (8 - r)) % 8 = 0 := by omega
      rw [hr] at hm'
      have HPad := Lib.hid hpad
      clear hpad hm
      go_wp2_with fail
      refine (bits_any w1.heap.size ox bs w3 hx3).mono ?_
      rintro e w3' ⟨rfl, rfl⟩
      go_wp2_with fail
      refine (put_in w1.heap.size ox bs 0 (8 - (r : Int)) w3 hx3 (by omega) (by decide) (by decide) (by omega) (by omega)).mono ?_
      rintro e wp ⟨rfl, oxp, hxp, hcp, hoxp⟩
      have hyp := Hxy.out.keep hy3 hcp
      have Hxy := Lib.hid (Hxy.out.step hy3 hoxp)
      have zp := hcp.size
      have hcp' := hc3'.up hcp Hax.out
      have Hax := Lib.hid (Hax.out.step (w := w3) (by omega) hoxp)
      have hm : (bs ++ bitsOf (0 : Int).toNat (8 - (r : Int)).toNat).length % 8 = 0 := by
        have := HPad.out
        simp only [List.length_append, bitsOf_length]; rw [show (8 - (r : Int)).toNat = 8 - r from by omega]; exact this
      have hlp : (bs ++ bitsOf (0 : Int).toNat (8 - (r : Int)).toNat).length < 2000 := by
        simp only [List.length_append, bitsOf_length]; omega
      clear hx3 hy3 hcp hc3' hoxp
      have z3p : w2.heap.size ≤ wp.heap.size := by omega
      generalize bs ++ bitsOf (0 : Int).toNat (8 - (r : Int)).toNat = bp at *
      have HM := Lib.hid hm
      clear hm
      go_wp2_with fail
      refine (bytes_any w1.heap.size oxp bp wp hxp (by omega)).mono ?_
      rintro e w4 ⟨g4, cap4, rfl, r4, hc4⟩
      have hx4 := hxp.kept hc4 (by simp) (by simp); have hy4 := hyp.kept hc4 (by simp) (by simp)
      have hc4' := hcp'.next hc4
      have b4 := (r4.lt g4 rfl)
      have z4 := hc4.size
      have h4' := h'.kept hc4' (fun _ _ => by simp)
      have Hlx := Lib.hid hxp.lt; have Hly := Lib.hid hyp.lt
      clear hxp hyp hc4 hcp' h'
      have hst : WrTo w4 w4 w1.heap.size oxp (putAll bp (qs.take 0)) := ⟨oxp, hx4, Chg.refl _ _, .inl rfl⟩
      clear hx4
      go_wp2
      go_loopw [9] (fun i wr => ∃ k : Nat, k ≤ qs.length ∧ i = .int .i64 (k : Int) ∧ WrTo w4 wr w1.heap.size oxp (putAll bp (qs.take k))) (fun i _ => qs.length - (intOf i).toNat)
      case atStart => exact ⟨0, Nat.zero_le _, rfl, hst⟩
      case round =>
        obtain ⟨k, hk, rfl, ox5, hx5, hc5, hox5⟩ := hrel
        by_cases hlt : k < qs.length
        · obtain ⟨g, off, hao⟩ := HA.out (by omega)
          subst hao
          have hgl := HG.out g off rfl (by omega)
          have hkept := h4'.kept hc5 (fun j hj hx => by
            simp [Value.ownBlock] at hj
            rcases hx with hx | hx
            · omega
            · have := Hax.out.2 j hx.symm; omega)
          obtain ⟨q0, q1⟩ := hkept.cells g off _ _ rfl k hlt
          have HO := Lib.hid hox5
          have hpl := putAll_length bp (qs.take k)
          have htl : (qs.take k).length ≤ k := List.length_take_le _ _
          have hwf := hkept.wf qs[k] (List.getElem_mem hlt)
          clear hox5
          go_wp2
          go_still_tail 11, (by kernel_rfl)
          change wpList _ _ _ _ _ wr.drew
          go_wp2_with fail
          refine (put_any w1.heap.size ox5 (putAll bp (qs.take k)) qs[k].1 qs[k].2 _ hx5.drew (by omega) hwf).mono ?_
          rintro e w6 ⟨rfl, hto⟩
          rw [← putAll_succ bp qs k hlt] at hto
          have hto' := WrTo.trans (hc5.drew) HO.out hto
          clear hto hx5 hc5 hkept q0 q1
          go_wp2
          go_roundw
          case rel => exact ⟨k + 1, by omega, by go_num, hto'⟩
          case measure => simp [intOf]; omega
        · obtain rfl : k = qs.length := by omega
          rw [List.take_length, putAll_front bp qs] at hx5
          have hy5 := Hxy.out.keep hy4 hc5
          have r5 := hc5.own r4 (fun j hj hx => by
            simp [Value.ownBlock] at hj
            rcases hx with hx | hx
            · have := Hlx.out.1; omega
            · have := (Hlx.out.2 j hx.symm).2; omega)
          have hc5' := hc4'.up hc5 Hax.out
          have z5 := hc5.size
          have hall : (bp ++ putAll [] qs).length < 10000 := by simp; omega
          have hpk := pack_append bp (putAll [] qs ++ [true]) HM.out
          rw [← List.append_assoc] at hpk
          have HP := Lib.hid hpk
          have HL := Lib.hid (pack_lt (bp ++ putAll [] qs ++ [true]))
          clear hy4 hc4' hc5 r4 hox5 hst hpk
          go_wp2_with fail
          refine (close_any w1.heap.size ox5 (bp ++ putAll [] qs) wr hx5 (by omega)).mono ?_
          rintro e w6 ⟨g6, cap6, rfl, r6, hc6⟩
          generalize pack (bp ++ putAll [] qs ++ [true]) = pa at *
          have hy6 := hy5.kept hc6 (by simp) (by simp)
          have r6' := RdB.of_own r6
          have r56 := hc6.own r5 (fun j hj => by simp)
          have hc6' := hc5'.next hc6
          have b6 := r6.lt g6 rfl
          have z6 := hc6.size
          clear hx5 hy5 hc6 hc5' r5 r6
          go_wp2_with fail
          refine (close_any w2.heap.size oy (putAll [] qs) w6 hy6 (by omega)).mono ?_
          rintro e w7 ⟨g7, cap7, rfl, r7, hc7⟩
          have r67 := r6'.kept hc7 (by simp)
          have r57 := hc7.own r56 (fun j hj => by simp)
          have hc7' := hc6'.next hc7
          have z7 := hc7.size
          clear hy6 hc7 hc6' r56 r6'
          have hpl : 0 < (pack (putAll [] qs ++ [true])).length := by rw [pack_length]; simp
          have hp1 : (pack (putAll [] qs ++ [true])).length < 10000 := by rw [pack_length]; simp; omega
          have hp2 : (pack bp).length < 10000 := by rw [pack_length]; omega
          have hr7 := r7.cells (g := g7) rfl
          have HR7 := Lib.hid hr7
          clear hr7
          obtain ⟨i, hi, hz0, hz1, hz2⟩ := info_parts Try.infoU8
          go_wp2_with (at_builtin; refine wpList_append_want (.tmp 64) (.tmp 66) 34 rfl wp.heap.size 5 i (.int .u8 0) 1 1 Try.underlying34 hi hz0 hz1 hz2 rfl (by decide) _ (pack bp).length _ rfl r57 ⟨g7, 0, none⟩ (pack (putAll [] qs ++ [true])).length cap7 (bv (pack (putAll [] qs ++ [true]))) rfl (by rw [bv_length, Nat.mul_one]) HR7.out (bv_one _) hpl (by unfold maxLen; omega) (by omega) (by omega) (by rfl) ?_)
          intro g8 cap8 w8 hown8 hgrow8 hg8
          rw [show bv (pack bp) ++ bv (pack (putAll [] qs ++ [true])) = bv (pack bp ++ pack (putAll [] qs ++ [true])) from by simp [bv]] at hown8
          have hc8 := Chg.of_grown hgrow8
          have r8 := RdB.of_own hown8
          rw [← HP.out] at r8
          have r68 := r67.kept hc8 (fun j hj => by simp [Value.ownBlock] at hj ⊢; omega)
          have hc8' : Chg (fun _ => False) w w8 := hc7'.trans hc8 (fun j hj h => by simp [Value.ownBlock] at h; omega)
          clear hown8 hgrow8 hg8 hc8 hc7' r57 r67 r7
          go_wp2_with fail
          refine (same_any _ _ _ _ w8 r68 r8 HL.out HL.out).mono ?_
          rintro e w9 ⟨rfl, rfl⟩
          rw [show decide (pa = pa) = true from decide_eq_true rfl]
          clear r68 r8
          go_wp2
          go_ret
          exact ⟨rfl, hc8'⟩

end Go.Proofs.Ytoajgiefjkibeaa
