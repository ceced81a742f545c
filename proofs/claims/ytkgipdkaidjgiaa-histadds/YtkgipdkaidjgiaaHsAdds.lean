/- The walk of HistAdds. -/
import Derived.Test.YtkgipdkaidjgiaaHsAwake
import Derived.Test.YtkgipdkaidjgiaaHsAdd
namespace Go.Proofs.Ytkgipdkaidjgiaa
open Go.RowKit

set_option maxHeartbeats 2000000 in
theorem hadds_any (v u : Value) (ps bs : List Int) (w : World) (h : RdI w v ps) (hb : ∀ z ∈ ps, -9223372036854775808 ≤ z ∧ z ≤ 9223372036854775807) (h2 : RdI w u bs) (hb2 : ∀ z ∈ bs, -9223372036854775808 ≤ z ∧ z ≤ 9223372036854775807) :
    Calls Try.prog 6 #[v, u] w fun e w' => Says w e w' := by
  obtain ⟨ao, cap, rfl⟩ := h.form
  obtain ⟨au, capu, rfl⟩ := h2.form
  have H := Lib.hid h; have HB := Lib.hid hb; have H2 := Lib.hid h2; have HB2 := Lib.hid hb2
  clear h hb h2 hb2
  by_cases hbig : 300 < ps.length
  · have hb' : decide (300 < (ps.length : Int)) = true := by simp; omega
    go_enter Try.func6, Try.ntmps6
    go_wp2_with fail
    refine (awake5_any w).mono ?_
    rintro e w1 ⟨rfl, hc1⟩
    go_wp2
    go_ret
    exact ⟨rfl, hc1⟩
  have hb' : decide (300 < (ps.length : Int)) = false := by simp; omega
  by_cases hbig2 : 300 < bs.length
  · have hb2' : decide (300 < (bs.length : Int)) = true := by simp; omega
    go_enter Try.func6, Try.ntmps6
    go_wp2_with fail
    refine (awake5_any w).mono ?_
    rintro e w1 ⟨rfl, hc1⟩
    go_wp2
    go_ret
    exact ⟨rfl, hc1⟩
  have hb2' : decide (300 < (bs.length : Int)) = false := by simp; omega
  have hl1 : ps.length < 100000000000 := by omega
  have hl2 : bs.length < 100000000000 := by omega
  go_enter Try.func6, Try.ntmps6
  go_wp2_with fail
  refine (awake5_any w).mono ?_
  rintro e w1 ⟨rfl, hc1⟩
  go_wp2_with fail
  refine (hadd_any _ _ ps bs w1 (H.out.kept hc1 (by simp)) HB.out hl1 (H2.out.kept hc1 (by simp)) HB2.out hl2).mono ?_
  rintro e w2 ⟨v2, rfl, hy, hn, hc2⟩
  have hc2' := hc1.trans hc2 (fun _ _ h => h)
  clear hc1 hc2
  have ta := totalI_le ps
  have tb := totalI_le bs
  by_cases hok : addOk ps bs
  · rw [decide_eq_true hok]
    have ho := hy hok
    obtain ⟨y1, y2, y3, y4⟩ := adds_yes hok
    have hbd := addL_bounds hok.1 hok.2.1
    have hln : (addL ps bs).length < 100000000000 := by rw [hok.2.2.1]; omega
    have ma := manyI_le ps
    have mb := manyI_le bs
    have hrs : isRight (addL ps bs) := hok.2.2
    obtain ⟨S, hS⟩ : ∃ S, addL ps bs = S := ⟨_, rfl⟩
    rw [hS] at ho y1 y2 y3 y4 hbd hln hrs
    obtain ⟨as', cap', rfl⟩ := ho.rd.form
    have RS := Lib.hid ho.rd; have HBD := Lib.hid hbd; have HLN := Lib.hid hln; have HRS := Lib.hid hrs
    have Y1 := Lib.hid y1; have Y2 := Lib.hid y2; have Y3 := Lib.hid y3; have Y4 := Lib.hid y4
    have TA := Lib.hid ta; have TB := Lib.hid tb; have MA := Lib.hid ma; have MB := Lib.hid mb
    clear hy hn ho y1 y2 y3 y4 hbd hln hrs hS hok ta tb ma mb
    go_wp2_with fail
    refine (hright_c _ S w2 RS.out HBD.out HLN.out).mono ?_
    rintro e w3 ⟨rfl, hc3⟩
    rw [decide_eq_true HRS.out]
    have RS3 := Lib.hid (RS.out.kept hc3 (by simp))
    have hc3' := hc2'.trans hc3 (fun _ _ h => h)
    clear hc3 hc2' RS
    go_wp2_with fail
    refine (htotal_c _ S w3 RS3.out HBD.out HLN.out).mono ?_
    rintro e w4 ⟨rfl, hc4⟩
    rw [Y1.out]
    have RS4 := Lib.hid (RS3.out.kept hc4 (by simp))
    have hc4' := hc3'.trans hc4 (fun _ _ h => h)
    clear hc4 hc3' RS3
    obtain ⟨p, hp⟩ : ∃ p, totalI ps = p := ⟨_, rfl⟩
    obtain ⟨q, hq⟩ : ∃ q, totalI bs = q := ⟨_, rfl⟩
    have tp := TA.out
    have tq := TB.out
    rw [hp] at tp ⊢
    rw [hq] at tq ⊢
    obtain ⟨tp0, tp1⟩ := tp
    obtain ⟨tq0, tq1⟩ := tq
    have HP := Lib.hid hp; have HQ := Lib.hid hq
    clear hp hq TA TB Y1
    go_wp2_with fail
    refine (htotal_c _ ps w4 (H.out.kept hc4' (by simp)) HB.out hl1).mono ?_
    rintro e w5 ⟨rfl, hc5⟩
    rw [HP.out]
    have RS5 := Lib.hid (RS4.out.kept hc5 (by simp))
    have hc5' := hc4'.trans hc5 (fun _ _ h => h)
    clear hc5 hc4' RS4 HP
    go_wp2_with fail
    refine (htotal_c _ bs w5 (H2.out.kept hc5' (by simp)) HB2.out hl2).mono ?_
    rintro e w6 ⟨rfl, hc6⟩
    rw [HQ.out]
    have RS6 := Lib.hid (RS5.out.kept hc6 (by simp))
    have hc6' := hc5'.trans hc6 (fun _ _ h => h)
    clear hc6 hc5' RS5 HQ
    have hms : manyI S ≤ 512 := by have := Y4.out; have := MA.out; have := MB.out; omega
    obtain ⟨s, hs⟩ : ∃ s, manyI S = s := ⟨_, rfl⟩
    obtain ⟨a, ha⟩ : ∃ a, manyI ps = a := ⟨_, rfl⟩
    obtain ⟨b, hb⟩ : ∃ b, manyI bs = b := ⟨_, rfl⟩
    have y2 := Y2.out; have y3 := Y3.out; have y4 := Y4.out; have ma := MA.out; have mb := MB.out
    rw [ha] at ma y2 y4
    rw [hb] at mb y3 y4
    rw [hs] at y2 y3 y4 hms
    have HSS := Lib.hid hs; have HAA := Lib.hid ha; have HBB := Lib.hid hb
    clear Y2 Y3 Y4 MA MB ha hb hs
    go_wp2_with fail
    refine (hmany_c _ S w6 RS6.out HBD.out HLN.out).mono ?_
    rintro e w7 ⟨rfl, hc7⟩
    rw [HSS.out]
    have RS7 := Lib.hid (RS6.out.kept hc7 (by simp))
    have hc7' := hc6'.trans hc7 (fun _ _ h => h)
    clear hc7 hc6' RS6
    go_wp2_with fail
    refine (hmany_c _ ps w7 (H.out.kept hc7' (by simp)) HB.out hl1).mono ?_
    rintro e w8 ⟨rfl, hc8⟩
    rw [HAA.out]
    have RS8 := Lib.hid (RS7.out.kept hc8 (by simp))
    have hc8' := hc7'.trans hc8 (fun _ _ h => h)
    clear hc8 hc7' RS7
    go_wp2_with fail
    refine (hmany_c _ bs w8 (H2.out.kept hc8' (by simp)) HB2.out hl2).mono ?_
    rintro e w9 ⟨rfl, hc9⟩
    rw [HBB.out]
    have RS9 := Lib.hid (RS8.out.kept hc9 (by simp))
    have hc9' := hc8'.trans hc9 (fun _ _ h => h)
    clear hc9 hc8' RS8
    have d1 : decide ((s : Int) ≥ (a : Int)) = true := by simp; omega
    have d2 : decide ((s : Int) ≥ (b : Int)) = true := by simp; omega
    have d3 : decide ((a : Int) ≤ (s : Int)) = true := by simp; omega
    have d4 : decide ((b : Int) ≤ (s : Int)) = true := by simp; omega
    go_wp2_with fail
    all_goals
      refine (hmany_c _ S w9 RS9.out HBD.out HLN.out).mono ?_
      rintro e w10 ⟨rfl, hc10⟩
      rw [HSS.out]
      have hc10' := hc9'.trans hc10 (fun _ _ h => h)
      clear hc10 hc9' RS9
      go_wp2_with fail
      refine (hmany_c _ ps w10 (H.out.kept hc10' (by simp)) HB.out hl1).mono ?_
      rintro e w11 ⟨rfl, hc11⟩
      rw [HAA.out]
      have hc11' := hc10'.trans hc11 (fun _ _ h => h)
      clear hc11 hc10'
      go_wp2_with fail
      refine (hmany_c _ bs w11 (H2.out.kept hc11' (by simp)) HB2.out hl2).mono ?_
      rintro e w12 ⟨rfl, hc12⟩
      rw [HBB.out]
      have hc12' := hc11'.trans hc12 (fun _ _ h => h)
      clear hc12 hc11'
      have d5 : decide ((s : Int) ≤ (a : Int) + (b : Int)) = true := by simp; omega
      go_wp2
      go_ret
      exact ⟨rfl, hc12'⟩
  · rw [decide_eq_false hok]
    obtain ⟨as', cap', rfl⟩ := (hn hok).form
    have HNO := Lib.hid (adds_not hok)
    clear hy hn hok
    rw [List.length_nil]
    go_wp2_with fail
    refine (hright_c _ ps w2 (H.out.kept hc2' (by simp)) HB.out hl1).mono ?_
    rintro e w3 ⟨rfl, hc3⟩
    have hc3' := hc2'.trans hc3 (fun _ _ h => h)
    clear hc3 hc2'
    by_cases hra : isRight ps
    · rw [decide_eq_true hra]
      go_wp2_with fail
      refine (hright_c _ bs w3 (H2.out.kept hc3' (by simp)) HB2.out hl2).mono ?_
      rintro e w4 ⟨rfl, hc4⟩
      have hc4' := hc3'.trans hc4 (fun _ _ h => h)
      clear hc4 hc3'
      by_cases hrb : isRight bs
      · rw [decide_eq_true hrb]
        have hno : ¬ totalI ps ≤ 1073741824 - totalI bs := fun h => HNO.out ⟨hra, hrb, h⟩
        clear hra hrb
        obtain ⟨p, hp⟩ : ∃ p, totalI ps = p := ⟨_, rfl⟩
        obtain ⟨q, hq⟩ : ∃ q, totalI bs = q := ⟨_, rfl⟩
        rw [hp] at ta hno
        rw [hq] at tb hno
        obtain ⟨ta0, ta1⟩ := ta
        obtain ⟨tb0, tb1⟩ := tb
        have hd : decide (p ≤ 1073741824 - q) = false := decide_eq_false hno
        have HP := Lib.hid hp; have HQ := Lib.hid hq
        clear hp hq hno
        go_wp2_with fail
        refine (htotal_c _ ps w4 (H.out.kept hc4' (by simp)) HB.out hl1).mono ?_
        rintro e w5 ⟨rfl, hc5⟩
        rw [HP.out]
        have hc5' := hc4'.trans hc5 (fun _ _ h => h)
        clear hc5 hc4'
        go_wp2_with fail
        refine (htotal_c _ bs w5 (H2.out.kept hc5' (by simp)) HB2.out hl2).mono ?_
        rintro e w6 ⟨rfl, hc6⟩
        rw [HQ.out]
        have hc6' := hc5'.trans hc6 (fun _ _ h => h)
        clear hc6 hc5'
        go_wp2
        go_ret
        exact ⟨rfl, hc6'⟩
      · rw [decide_eq_false hrb]
        clear hra hrb
        go_wp2
        go_ret
        exact ⟨rfl, hc4'⟩
    · rw [decide_eq_false hra]
      clear hra
      go_wp2
      go_ret
      exact ⟨rfl, hc3'⟩

end Go.Proofs.Ytkgipdkaidjgiaa
