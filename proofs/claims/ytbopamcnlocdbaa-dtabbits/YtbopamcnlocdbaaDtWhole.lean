/- DtabWhole's walk. -/
import Derived.Test.YtbopamcnlocdbaaDtTells
import Derived.Test.YtbopamcnlocdbaaBase3
namespace Go.Proofs.Ytbopamcnlocdbaa
open Go.RowKit

theorem no_cells (W : World) : (W.alloc (.cells #[] 37 (0, 0))).ownsRow W.heap.size 37 3 (.slice (some ⟨W.heap.size, 0, none⟩) 0 0) ([] : List Cl).length (cvs []) :=
  ⟨rfl, .inr ⟨W.heap.size, 0, #[], rfl, Nat.le_refl _, heap_alloc_new _ _, Nat.le_refl _, Nat.zero_le _, rfl, rfl⟩⟩
theorem fits_set {l : List Cl} {i : Nat} {c : Cl} (h : ∀ x ∈ l, x.fits) (hc : c.fits) : ∀ x ∈ l.set i c, x.fits := fun x hx => by
  rcases List.mem_or_eq_of_mem_set hx with h1 | h1
  · exact h x h1
  · rw [h1]; exact hc
theorem fits_mk {s : Nat} {b c : Int} (h1 : s < 256) (h2 : -9223372036854775808 ≤ b ∧ b ≤ 9223372036854775807) (h3 : -9223372036854775808 ≤ c ∧ c ≤ 9223372036854775807) : (⟨s, b, c⟩ : Cl).fits := ⟨h1, h2, h3⟩
theorem set_sameC (l : List Cl) (i : Nat) (h : i < l.length) : l.set i ⟨(l.getD i cl0).Sym, (l.getD i cl0).Bits, (l.getD i cl0).Base + 0⟩ = l := by
  rw [Int.add_zero, List.getD_eq_getElem?_getD, List.getElem?_eq_getElem h]
  exact List.set_getElem_self h

set_option maxHeartbeats 4000000 in
theorem dtabWhole_walk (v : Value) (xs : List Nat) (r at' : Nat) (z : Int) (w : World) (h : RdH w v xs) (hx : ∀ x ∈ xs, x < 65536) (hr : r < 256) (hat : at' < 65536) (hz : -128 ≤ z ∧ z ≤ 127) :
    Calls Try.prog 4 #[v, .int .u8 (r : Int), .int .u16 (at' : Int), .int .i8 z] w fun e w' => e = .returned (.bool true) ∧ Chg (fun _ => False) w w' := by
  obtain ⟨ao, cap, rfl⟩ := h.form
  have H := Lib.hid h; have HX := Lib.hid hx
  clear h hx
  go_enter Try.func4, Try.ntmps4
  go_wp2_with fail
  refine (awake11_any _).mono ?_
  rintro e w1 ⟨rfl, hc⟩
  have HC := Lib.hid hc
  clear hc
  by_cases h80 : 80 < xs.length
  · have d3 : decide (80 < (xs.length : Int)) = true := decide_eq_true (by omega)
    go_wp2
    go_ret
    exact ⟨rfl, HC.out⟩
  · have d3 : decide (80 < (xs.length : Int)) = false := decide_eq_false (by omega)
    go_wp2_with fail
    refine (r8some_any _ xs r _ (H.out.kept HC.out (by simp)) HX.out (by omega) hr).mono ?_
    rintro e w2 ⟨v2, q, k, rfl, ho, hq, hk5, hk9, hc2⟩
    replace HC := Lib.hid (HC.out.trans hc2 fun _ _ h => h)
    have HQ := Lib.hid hq
    have hof := dof_any _ q w2 ho.rd hq.bnd (by rw [hq.1]; omega)
    have HOF := Lib.hid hof
    obtain ⟨g, off, cap2, rfl, -⟩ := ho
    obtain ⟨n, hn⟩ : ∃ n, q.length = n := ⟨_, rfl⟩
    rw [hn] at HOF ⊢
    have HK9 := Lib.hid hk9; have HK5 := Lib.hid hk5
    have hk64 : (k : Int) < 64 := by omega
    clear hq hc2 hk5 hk9 hn hof
    go_wp2_with fail
    refine (HOF.out).mono ?_
    rintro e w3 ⟨v3, rfl, hyes, -, hc3⟩
    have hlog := HQ.out.log
    have hk0 : logI (totalI q) ≠ 0 := by rw [hlog]; have := HK5.out; omega
    rw [if_neg hk0]
    obtain ⟨c, hrd, hdt⟩ := hyes hk0
    rw [hlog] at hdt
    have hsum := HQ.out.sum
    have hk12 : k ≤ 12 := by have := HK9.out; omega
    have hsz := HQ.out.size
    have hft := hdt.fits hsum hk12
    have hwh := hdt.whole hsum (by have := HK5.out; omega) hk12
    have hlen := hdt.len
    have hbd := fun a ha => hdt.bounds hsum hk12 (a := a) ha
    obtain ⟨L, hL⟩ : ∃ L, 2 ^ k = L := ⟨_, rfl⟩
    have hL0 : 0 < L := by rw [← hL]; exact Nat.two_pow_pos k
    have hLI : (2 : Int) ^ k = (L : Int) := by rw [← hL]; simp
    rw [hL] at hlen hsz hbd
    obtain ⟨ao3, cap3, rfl⟩ := hrd.form
    rw [hlen] at hrd ⊢
    replace HC := Lib.hid (HC.out.trans hc3 fun _ _ h => h)
    obtain ⟨i, hi⟩ : ∃ i, at' % L = i := ⟨_, rfl⟩
    have hiL : i < L := by rw [← hi]; exact Nat.mod_lt _ hL0
    have hiI : (at' : Int) % (L : Int) = (i : Int) := by rw [← hi]; rfl
    have hiT : (at' : Int).tmod (L : Int) = (i : Int) := by rw [Int.tmod_eq_emod_of_nonneg (by omega)]; exact hiI
    have hbi := hbd i hiL
    obtain ⟨ci, hci⟩ : ∃ ci, c.getD i cl0 = ci := ⟨_, rfl⟩
    rw [hci] at hbi
    have hpw := Nat.two_pow_pos ci.Bits.toNat
    have hbits : 0 ≤ ci.Bits ∧ ci.Bits ≤ 12 := by omega
    have hbase : 0 ≤ ci.Base ∧ ci.Base ≤ 4096 := by omega
    have hLne : ((L : Int) == 0) = false := by simp; omega
    have hLne2 : ¬ (L : Int) = 0 := by omega
    have hftd := fits_set (i := i) (c := ⟨ci.Sym, ci.Bits, ci.Base + z⟩) hft (fits_mk hbi.1 (by omega) (by omega))
    have hftf := fits_set (i := i) (c := ⟨ci.Sym, ci.Bits + 1, ci.Base⟩) hft (fits_mk hbi.1 (by omega) (by omega))
    have hwd : z ≠ 0 → ¬ WholeL (c.set i ⟨ci.Sym, ci.Bits, ci.Base + z⟩) := fun hz0 => by
      have := whole_moved hwh (a := i) (by rw [hlen]; exact hiL) hz0
      rw [hci] at this; exact this
    have hws : z = 0 → WholeL (c.set i ⟨ci.Sym, ci.Bits, ci.Base + z⟩) := fun hz0 => by
      have := set_sameC c i (by rw [hlen]; exact hiL)
      rw [hci] at this
      rw [hz0, this]; exact hwh
    have hwf := whole_wider hwh (a := i) (by rw [hlen]; exact hiL)
    rw [hci] at hwf
    have HW0 := Lib.hid (dwhole_any _ c w3 hrd hft (by rw [hlen]; omega))
    have HRD := Lib.hid hrd; have HLEN := Lib.hid hlen; have HWH := Lib.hid hwh; have HFTD := Lib.hid hftd; have HFTF := Lib.hid hftf; have HWD := Lib.hid hwd; have HWS := Lib.hid hws; have HWF := Lib.hid hwf; have HCI := Lib.hid hci
    have hL4 : (L : Int) ≤ 4096 := by omega
    have hatI : (at' : Int) < 65536 := by omega
    have HIL := Lib.hid hiL; have HL0 := Lib.hid hL0; have HSZ := Lib.hid hsz
    clear hyes hc3 hrd hdt hsum hft hwh hlen hbd hbi hftd hftf hwd hws hwf hci hi hlog hk0 hL hiL hL0 hsz hpw
    go_wp2_with fail
    refine (HW0.out).mono ?_
    rintro e w4 ⟨b, rfl, hb, hc4⟩
    have hbt : b = true := hb.2 HWH.out
    subst hbt
    replace HC := Lib.hid (HC.out.trans hc4 fun _ _ h => h)
    replace HRD := Lib.hid (HRD.out.kept hc4 (by simp))
    clear hb hc4 HW0
    obtain ⟨g3, off3, rfl, -⟩ := HRD.out.at 0 (by rw [HLEN.out]; exact HL0.out)
    have hg3 : g3 < w4.heap.size := by have := (HRD.out.at' 0 (by rw [HLEN.out]; exact HL0.out)).1; exact block_lt_of_cell this
    go_wp2_with (at_builtin; refine wpList_append_cells rfl (.tmp 47) (.tmp 48) rfl w4.heap.size _ [] rfl (no_cells w4) _ c rfl (HRD.out.kept (Chg.alloc (fun _ => False) w4 _) (by simp)) (by simp) (by simp; have := HLEN.out; have := HSZ.out; omega) ?_)
    intro v5 w5 ho5 hc5
    have hown5 := OwnC.of_own ho5 (by rw [HLEN.out]; exact HL0.out)
    have hc45 : Chg (fun _ => False) w4 w5 := (Chg.alloc (fun _ => False) w4 _).trans hc5 (fun q hq hh => by simp [Value.ownBlock] at hh; omega)
    obtain ⟨g5, off5, cap5, rfl, hb5, hl5, hcell5, hfr5⟩ := id hown5
    obtain ⟨a0, a1, a2⟩ := hcell5 i (by rw [HLEN.out]; exact HIL.out)
    have f2 := hfr5 (i * 3 + 2)
    rw [← Nat.add_assoc] at f2
    rw [HCI.out] at a0 a1 a2
    have hst5 := hown5.storeBase i (by rw [HLEN.out]; exact HIL.out) (ci.Base + z)
    rw [HCI.out] at hst5
    obtain ⟨w6, hw6⟩ : ∃ w6, w5.setCell ⟨g5, off5 + i * 3 + 2, none⟩ (.int .i64 (ci.Base + z)) = w6 := ⟨_, rfl⟩
    have hc56 : Chg (fun k => k = g5) w5 w6 := by rw [← hw6]; exact Chg.setCell w5 ⟨g5, off5 + i * 3 + 2, none⟩ _
    rw [hw6] at hst5
    have hc46 : Chg (fun _ => False) w4 w6 := hc45.trans hc56 (fun q hq (hh : q = g5) => by omega)
    have hlc : c.length = L := HLEN.out
    rw [hlc] at hst5 ⊢
    have HOD := Lib.hid hst5
    have HR6 := Lib.hid (HRD.out.kept hc46 (by simp))
    have HC6 := Lib.hid (HC.out.trans hc46 fun _ _ h => h)
    have HG5 := Lib.hid (show g5 < w6.heap.size from Nat.lt_of_lt_of_le hl5 hc56.size)
    have hwr1 : wrap64 (ci.Base + z) = ci.Base + z := by unfold wrap64; omega
    have hiLI : (i : Int) < (L : Int) := by have := HIL.out; omega
    have hwr2 : wrap64 (ci.Bits + 1) = ci.Bits + 1 := by unfold wrap64; omega
    clear ho5 hown5 hc45 hb5 hl5 hcell5 hfr5 hst5 hc46 hc56 hlc hc5 HRD HC
    go_wp2_with (at_builtin; refine wpList_append_cells rfl (.tmp 67) (.tmp 68) rfl w6.heap.size _ [] rfl (no_cells w6) _ c rfl (HR6.out.kept (Chg.alloc (fun _ => False) w6 _) (by simp)) (by simp) (by simp; have := HLEN.out; have := HSZ.out; omega) ?_)
    intro v7 w7 ho7 hc7
    have hown7 := OwnC.of_own ho7 (by rw [HLEN.out]; exact HL0.out)
    have hc67 : Chg (fun _ => False) w6 w7 := (Chg.alloc (fun _ => False) w6 _).trans hc7 (fun q hq hh => by simp [Value.ownBlock] at hh; omega)
    obtain ⟨g7, off7, cap7, rfl, hb7, hl7, hcell7, hfr7⟩ := id hown7
    obtain ⟨b0, b1, b2⟩ := hcell7 i (by rw [HLEN.out]; exact HIL.out)
    have f1 := hfr7 (i * 3 + 1)
    rw [← Nat.add_assoc] at f1
    rw [HCI.out] at b0 b1 b2
    have hst7 := hown7.storeBits i (by rw [HLEN.out]; exact HIL.out) (ci.Bits + 1)
    rw [HCI.out] at hst7
    obtain ⟨w8, hw8⟩ : ∃ w8, w7.setCell ⟨g7, off7 + i * 3 + 1, none⟩ (.int .i64 (ci.Bits + 1)) = w8 := ⟨_, rfl⟩
    have hc78 : Chg (fun k => k = g7) w7 w8 := by rw [← hw8]; exact Chg.setCell w7 ⟨g7, off7 + i * 3 + 1, none⟩ _
    rw [hw8] at hst7
    have hod8 := (HOD.out.kept hc67 (by simp)).kept hc78 (fun k hk hh => by simp [Value.ownBlock] at hk; have := HG5.out; omega)
    have hc68 : Chg (fun _ => False) w6 w8 := hc67.trans hc78 (fun q hq (hh : q = g7) => by omega)
    have hlc : c.length = L := HLEN.out
    rw [hlc] at hst7 ⊢
    have HW1 := Lib.hid (dwhole_any _ _ w8 hod8.rd HFTD.out (by rw [List.length_set, HLEN.out]; have := HSZ.out; omega))
    have HW2 := Lib.hid fun W (hW : Chg (fun _ => False) w8 W) => dwhole_any _ _ W (hst7.rd.kept hW (by simp)) HFTF.out (by rw [List.length_set, HLEN.out]; have := HSZ.out; omega)
    have HC8 := Lib.hid (HC6.out.trans hc68 fun _ _ h => h)
    clear ho7 hown7 hc67 hb7 hl7 hcell7 hfr7 hst7 hc68 hc78 hlc hc7 hod8 HR6 HC6 HOD a0 a1 a2 f2 hw6
    go_wp2_with fail
    refine (HW1.out).mono ?_
    rintro e w9 ⟨bd, rfl, hbd, hc9⟩
    have hbd2 : bd = (z == 0) := by
      by_cases hz0 : z = 0
      · rw [hbd.2 (HWS.out hz0), hz0]; rfl
      · have h1 : bd ≠ true := fun hh => HWD.out hz0 (hbd.1 hh)
        have h2 : (z == 0) = false := by simpa using hz0
        rw [h2]; simpa using h1
    subst hbd2
    have HW3 := Lib.hid (HW2.out w9 hc9)
    replace HC8 := Lib.hid (HC8.out.trans hc9 fun _ _ h => h)
    clear hbd hc9 HW1 HW2 b0 b1 b2 f1 hw8
    cases hzb : (z == 0) with
    | true =>
      go_wp2_with fail
      refine (HW3.out).mono ?_
      rintro e w10 ⟨bf, rfl, hbf, hc10⟩
      have hbf2 : bf = false := by
        cases bf with
        | false => rfl
        | true => exact absurd (hbf.1 rfl) HWF.out
      subst hbf2
      have HC10 := Lib.hid (HC8.out.trans hc10 fun _ _ h => h)
      clear hbf hc10
      go_wp2
      go_ret
      exact ⟨rfl, HC10.out⟩
    | false =>
      go_wp2_with fail
      refine (HW3.out).mono ?_
      rintro e w10 ⟨bf, rfl, hbf, hc10⟩
      have hbf2 : bf = false := by
        cases bf with
        | false => rfl
        | true => exact absurd (hbf.1 rfl) HWF.out
      subst hbf2
      have HC10 := Lib.hid (HC8.out.trans hc10 fun _ _ h => h)
      clear hbf hc10
      go_wp2
      go_ret
      exact ⟨rfl, HC10.out⟩

end Go.Proofs.Ytbopamcnlocdbaa
