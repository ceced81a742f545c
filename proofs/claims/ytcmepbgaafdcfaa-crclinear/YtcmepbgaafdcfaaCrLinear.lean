/- The walk of CrcLinear. -/
import Derived.Test.YtcmepbgaafdcfaaCrAwake
import Derived.Test.YtcmepbgaafdcfaaApBytes
import Derived.Deep.RegionHeld3
import Derived.Deep.CutRange
namespace Go.Proofs.Ytcmepbgaafdcfaa
open Go.RowKit

/-- the first i of e, then 0 -/
def eTo (e : List Nat) (i n : Nat) : List Nat := e.take i ++ List.replicate (n - i) 0

theorem eTo_length (e : List Nat) (i n : Nat) (h : i ≤ n) (he : n ≤ e.length) : (eTo e i n).length = n := by
  unfold eTo; rw [List.length_append, List.length_take, List.length_replicate]; omega

theorem eTo_all (e : List Nat) (n : Nat) : eTo e n n = e.take n := by unfold eTo; simp

theorem xorB_eTo_zero (a e : List Nat) : xorB a (eTo e 0 a.length) = a := by
  unfold eTo; simp only [List.take_zero, List.nil_append, Nat.sub_zero]
  exact xorB_zero a a.length rfl

theorem xorB_getD (a e : List Nat) (i n : Nat) (ha : a.length = n) (hi : i < n) (he : n ≤ e.length) : (xorB a (eTo e i n)).getD i 0 = a.getD i 0 := by
  have hl := eTo_length e i n (by omega) he
  have hz : (eTo e i n)[i]? = some 0 := by
    unfold eTo
    rw [List.getElem?_append_right (by rw [List.length_take]; omega), List.getElem?_replicate, if_pos (by rw [List.length_take]; omega)]
  rw [List.getD_eq_getElem?_getD, List.getD_eq_getElem?_getD]
  unfold xorB
  rw [List.getElem?_zipWith, hz, List.getElem?_eq_getElem (by omega)]
  simp

theorem xorB_eTo_succ (a e : List Nat) (i n : Nat) (ha : a.length = n) (hi : i < n) (he : n ≤ e.length) : (xorB a (eTo e i n)).set i (a.getD i 0 ^^^ e.getD i 0) = xorB a (eTo e (i + 1) n) := by
  have hl := eTo_length e i n (by omega) he
  have hl1 := eTo_length e (i + 1) n (by omega) he
  apply List.ext_getElem?
  intro j
  by_cases hj : j < n
  · by_cases hij : i = j
    · subst hij
      rw [List.getElem?_set_self (by rw [xorB_length a _ (by omega)]; omega)]
      have hz : (eTo e (i + 1) n)[i]? = some (e.getD i 0) := by
        unfold eTo
        rw [List.getElem?_append_left (by rw [List.length_take]; omega), List.getElem?_take, if_pos (by omega), List.getElem?_eq_getElem (by omega), List.getD_eq_getElem?_getD, List.getElem?_eq_getElem (by omega)]; rfl
      unfold xorB
      rw [List.getElem?_zipWith, hz, List.getElem?_eq_getElem (by omega), List.getD_eq_getElem?_getD, List.getElem?_eq_getElem (by omega)]
      simp
    · rw [List.getElem?_set_ne hij]
      have hz : (eTo e i n)[j]? = (eTo e (i + 1) n)[j]? := by
        unfold eTo
        by_cases hji : j < i
        · rw [List.getElem?_append_left (by rw [List.length_take]; omega), List.getElem?_append_left (by rw [List.length_take]; omega), List.getElem?_take, List.getElem?_take, if_pos hji, if_pos (by omega)]
        · rw [List.getElem?_append_right (by rw [List.length_take]; omega), List.getElem?_append_right (by rw [List.length_take]; omega), List.getElem?_replicate, List.getElem?_replicate, List.length_take, List.length_take, if_pos (by omega), if_pos (by omega)]
      unfold xorB
      rw [List.getElem?_zipWith, List.getElem?_zipWith, hz]
  · rw [List.getElem?_eq_none (by rw [List.length_set, xorB_length a _ (by omega)]; omega), List.getElem?_eq_none (by rw [xorB_length a _ (by omega)]; omega)]

theorem eTo_lt (e : List Nat) (h : ∀ x ∈ e, x < 256) (i n : Nat) : ∀ x ∈ eTo e i n, x < 256 := by
  intro x hx
  unfold eTo at hx
  rcases List.mem_append.1 hx with hx | hx
  · exact h x (List.mem_of_mem_take hx)
  · rw [List.eq_of_mem_replicate hx]; decide

theorem xorB_lt (a e : List Nat) (ha : ∀ x ∈ a, x < 256) (he : ∀ x ∈ e, x < 256) : ∀ x ∈ xorB a e, x < 256 := by
  intro y hy
  unfold xorB at hy
  obtain ⟨i, hi, rfl⟩ := List.getElem_of_mem hy
  rw [List.getElem_zipWith]
  exact Nat.xor_lt_two_pow (n := 8) (ha _ (List.getElem_mem _)) (he _ (List.getElem_mem _))

/-- b[:n] -/
theorem slice_upto {w : World} {ao : Option Addr} {cap n : Nat} {xs : List Nat} (h : RdB w (.slice ao xs.length cap) xs) (hn : n ≤ xs.length) (hcap : xs.length ≤ cap) :
    (∀ W : World, (Instr.slice 22 (.slice ao xs.length cap) none (some (.int .i64 (n : Int))) none).run Try.prog W = .ok (.slice ao n cap) W) ∧ RdB w (.slice ao n cap) (xs.take n) := by
  have hs : ∀ W, (sizeOf (Try.prog.elem 22)).run Try.prog W = .ok 1 W := fun W => by kernel_rfl
  refine ⟨fun W => ?_, ?_⟩
  · rw [run_slice_h W 22 ao xs.length cap (by kernel_rfl) .i64 (n : Int) (by omega) (by omega), hs]
    have e : ∀ a : Option Addr, a.map (fun x => x.add 0) = a := by intro a; cases a <;> simp [Addr.add]
    simp [Result.andThen, sliced, e]
  · have el : (xs.take n).length = n := by rw [List.length_take]; omega
    rcases h with ⟨h0, _⟩ | ⟨g, off, cap', he, hc⟩
    · rw [h0] at hn
      have : n = 0 := by simpa using hn
      exact .inl ⟨by rw [this]; simp, ao, cap, by rw [this]⟩
    · simp only [Value.slice.injEq] at he
      obtain ⟨rfl, _, rfl⟩ := he
      refine .inr ⟨g, off, cap, by rw [el], fun j hj => ?_⟩
      rw [el] at hj
      rw [hc j (by omega)]
      simp [List.getD_eq_getElem?_getD, hj]

set_option maxHeartbeats 4000000 in
set_option maxRecDepth 100000 in
theorem clinear_any (ao au aq : Option Addr) (la lb le ca cb ce : Nat) (xs ys es : List Nat) (w : World) (h : RdB w (.slice ao la ca) xs) (hx : ∀ x ∈ xs, x < 256) (hu : RdB w (.slice au lb cb) ys) (hy : ∀ y ∈ ys, y < 256)
    (hq : RdB w (.slice aq le ce) es) (he : ∀ y ∈ es, y < 256) (hca : la ≤ ca) (hcb : lb ≤ cb) :
    Calls Try.prog 5 #[.slice ao la ca, .slice au lb cb, .slice aq le ce] w fun e w' => Says w e w' := by
  obtain ⟨_, _, hv⟩ := h.form
  simp only [Value.slice.injEq] at hv
  obtain ⟨rfl, rfl, rfl⟩ := hv
  obtain ⟨_, _, hv⟩ := hu.form
  simp only [Value.slice.injEq] at hv
  obtain ⟨rfl, rfl, rfl⟩ := hv
  obtain ⟨_, _, hv⟩ := hq.form
  simp only [Value.slice.injEq] at hv
  obtain ⟨rfl, rfl, rfl⟩ := hv
  have H := Lib.hid h; have HX := Lib.hid hx; have HU := Lib.hid hu; have HY := Lib.hid hy; have HQ := Lib.hid hq; have HE := Lib.hid he
  clear h hx hu hy hq he
  obtain ⟨n, hn1, hn2, hn3, hn4⟩ : ∃ n, n ≤ xs.length ∧ n ≤ ys.length ∧ n ≤ es.length ∧ (n = xs.length ∨ n = ys.length ∨ n = es.length) := ⟨min xs.length (min ys.length es.length), by omega, by omega, by omega, by omega⟩
  go_enter Try.func5, Try.ntmps5
  go_wp2_with fail
  refine (awake4_any w).mono ?_
  rintro e w1 ⟨rfl, hc1⟩
  go_wp2_with fail
  refine (cnew_any w1).mono ?_
  rintro e w2 ⟨b, rfl, t2, hb, hc2⟩
  have hc2' := hc1.trans hc2 (fun _ _ h => h)
  clear hc1 hc2
  go_upto_region 3 with fail
  go_cut [9] from 15 to 21 (fun s9 wx => s9 = .int .i64 (n : Int) ∧ wx = w2)
  case first =>
    go_wp2_with fail
    all_goals (go_meet; exact ⟨congrArg (Value.int .i64) (by omega), rfl⟩)
  case rest =>
  obtain ⟨rfl, rfl⟩ := hcut
  have HN1 := Lib.hid hn1; have HN2 := Lib.hid hn2; have HN3 := Lib.hid hn3
  clear hn1 hn2 hn3 hn4
  by_cases hbig : 300 < n
  · have hb' : decide (300 < (n : Int)) = true := by simp; omega
    go_wp2
    go_ret
    exact ⟨rfl, hc2'⟩
  have hb' : decide (300 < (n : Int)) = false := by simp; omega
  have z2 := hc2'.size
  have hbl := lt_of_block t2
  obtain ⟨hslA, hrA⟩ := slice_upto (n := n) H.out HN1.out hca
  obtain ⟨hslB, hrB⟩ := slice_upto (n := n) HU.out HN2.out hcb
  have hAl : (xs.take n).length = n := by rw [List.length_take]; have := HN1.out; omega
  have hBl : (ys.take n).length = n := by rw [List.length_take]; have := HN2.out; omega
  have hlin := crc_linear 0 (xs.take n) (ys.take n) (es.take n) (take_lt HX.out n) (take_lt HY.out n) (take_lt HE.out n) (by rw [hAl, List.length_take]; have := HN3.out; omega) (by rw [hBl, List.length_take]; have := HN3.out; omega)
  have hAx := take_lt HX.out n
  have hBx := take_lt HY.out n
  obtain ⟨A, has⟩ : ∃ A, xs.take n = A := ⟨_, rfl⟩
  obtain ⟨B, hbs⟩ : ∃ B, ys.take n = B := ⟨_, rfl⟩
  rw [has] at hrA hAl hlin hAx
  rw [hbs] at hrB hBl hlin hBx
  have HRA := Lib.hid hrA; have HRB := Lib.hid hrB; have HAL := Lib.hid hAl; have HBL := Lib.hid hBl; have HLIN := Lib.hid hlin; have HAX := Lib.hid hAx; have HBX := Lib.hid hBx
  clear has hbs hrA hrB hAl hBl hlin hAx hBx
  have hcal := Chg.alloc (fun _ => False) wc (.cells #[] 5)
  have hrx := HRA.out.kept (hc2'.trans hcal (fun _ _ h => h)) (by simp)
  have HRX := Lib.hid hrx; have HCA := Lib.hid hcal
  clear hrx hcal
  go_wp2_with (at_builtin; refine wpList_append_bytes rfl (.tmp 29) (.tmp 32) rfl wc.heap.size _ [] rfl (own_empty wc) _ A rfl HRX.out (by simp) (by simp; rw [HAL.out]; omega) ?_)
  intro v3 w3 ho3 hc3
  have hc3' : Chg (fun _ => False) w w3 := (hc2'.trans HCA.out (fun _ _ h => h)).trans hc3 (fun k hk hx => by simp [Value.ownBlock] at hx; omega)
  have t3 : Tb w3 b := (t2.kept HCA.out (by simp)).kept hc3 (fun hx => by simp [Value.ownBlock] at hx; omega)
  have hlt3 := ho3.lt
  have z3 := hc3'.size
  have hbl3 := lt_of_block t3
  rw [HAL.out] at ho3
  have HO3 := Lib.hid ho3
  obtain ⟨a3, cap3, hv3, -⟩ := own_src ho3
  subst hv3
  have HLT3 := Lib.hid hlt3
  clear hc3 HCA HRX t2 hc2' hlt3 ho3
  have hcal := Chg.alloc (fun _ => False) w3 (.cells #[] 5)
  have hrx := HRB.out.kept (hc3'.trans hcal (fun _ _ h => h)) (by simp)
  have HRX := Lib.hid hrx; have HCA := Lib.hid hcal
  clear hrx hcal
  go_wp2_with (at_builtin; refine wpList_append_bytes rfl (.tmp 34) (.tmp 37) rfl w3.heap.size _ [] rfl (own_empty w3) _ B rfl HRX.out (by simp) (by simp; rw [HBL.out]; omega) ?_)
  intro v4 w4 ho4 hc4
  have hc4' : Chg (fun _ => False) w w4 := (hc3'.trans HCA.out (fun _ _ h => h)).trans hc4 (fun k hk hx => by simp [Value.ownBlock] at hx; omega)
  have t4 : Tb w4 b := (t3.kept HCA.out (by simp)).kept hc4 (fun hx => by simp [Value.ownBlock] at hx; omega)
  have ho34 := (HCA.out.own HO3.out (by simp))
  have ho3 := hc4.own ho34 (fun k hk hx => by simp [Value.ownBlock] at hx; have := (HLT3.out k hk).2; omega)
  rw [HBL.out] at ho4
  obtain ⟨a4, cap4, hv4, -⟩ := own_src ho4
  subst hv4
  have hlt4 := ho4.lt
  have HD : Hid (∀ k, (Value.slice a3 n cap3).ownBlock = some k → k ≠ b ∧ w.heap.size ≤ k ∧ (Value.slice a4 n cap4).ownBlock ≠ some k) := Lib.hid fun k hk => by
    have h3 := HLT3.out k hk
    refine ⟨by omega, by omega, fun hk4 => ?_⟩
    have := (hlt4 k hk4).1
    omega
  have HD4 : Hid (∀ k, (Value.slice a4 n cap4).ownBlock = some k → k ≠ b ∧ w.heap.size ≤ k ∧ (Value.slice a3 n cap3).ownBlock ≠ some k) := Lib.hid fun k hk => by
    have h4 := (hlt4 k hk).1
    refine ⟨by omega, by omega, fun hk3 => ?_⟩
    have := (HLT3.out k hk3).2
    omega
  have ho3' := ownsRow_mono ho3 (Nat.zero_le _)
  have ho4' := ownsRow_mono ho4 (Nat.zero_le _)
  have hz3 := xorB_eTo_zero A es
  have hz4 := xorB_eTo_zero B es
  rw [HAL.out] at hz3
  rw [HBL.out] at hz4
  rw [← hz3] at ho3'
  rw [← hz4] at ho4'
  have HO3' := Lib.hid ho3'; have HO4' := Lib.hid ho4'; have HT4 := Lib.hid t4; have HC4 := Lib.hid hc4'
  clear hc4 ho34 ho3 ho4 hlt4 hz3 hz4 ho3' ho4' t4 hc4' HCA HRX t3 hc3' HO3 HLT3 z2 z3 hbl hbl3
  go_wp2
  go_loopw [12] (fun o12 wr => ∃ i : Nat, i ≤ n ∧ o12 = .int .i64 (i : Int) ∧ wr.ownsRow 0 5 1 (.slice a3 n cap3) n (bv (xorB A (eTo es i n))) ∧ wr.ownsRow 0 5 1 (.slice a4 n cap4) n (bv (xorB B (eTo es i n))) ∧ Tb wr b ∧ Chg (fun _ => False) w wr) (fun o12 _ => n - (intOf o12).toNat)
  case atStart => exact ⟨0, Nat.zero_le _, rfl, HO3'.out, HO4'.out, HT4.out, HC4.out⟩
  case round =>
    obtain ⟨i, hi, rfl, ho3, ho4, t, hc⟩ := hrel
    clear HO3' HO4' HT4 HC4
    by_cases hlt : i < n
    · obtain ⟨g3, c3', hv3, -⟩ := slice_of_own ho3 (by omega)
      simp only [Value.slice.injEq, true_and] at hv3
      obtain ⟨rfl, rfl⟩ := hv3
      obtain ⟨g4, c4', hv4, -⟩ := slice_of_own ho4 (by omega)
      simp only [Value.slice.injEq, true_and] at hv4
      obtain ⟨rfl, rfl⟩ := hv4
      obtain ⟨d3b, d3w, d34⟩ := HD.out g3 rfl
      obtain ⟨d4b, d4w, -⟩ := HD4.out g4 rfl
      have hg34 : g4 ≠ g3 := fun h => d34 (by rw [← h]; rfl)
      have hlen3 := xorB_length A (eTo es i n) (by rw [HAL.out, eTo_length es i n hi HN3.out])
      have hlen4 := xorB_length B (eTo es i n) (by rw [HBL.out, eTo_length es i n hi HN3.out])
      have hnl3 : i < (xorB A (eTo es i n)).length := by rw [hlen3, HAL.out]; exact hlt
      have hnl4 : i < (xorB B (eTo es i n)).length := by rw [hlen4, HBL.out]; exact hlt
      have hc3 := ho3.cellAt i (by omega)
      rw [bv_get _ i hnl3, xorB_getD A es i n HAL.out hlt HN3.out] at hc3
      have hf3 := ho3.frozenAt i
      have hst3 := (ho3.stored i (.int .u8 ((A.getD i 0 ^^^ es.getD i 0 : Nat) : Int))).1
      rw [bv_set, xorB_eTo_succ A es i n HAL.out hlt HN3.out] at hst3
      have hch3 := Chg.setCell wr ⟨g3, i, none⟩ (.int .u8 ((A.getD i 0 ^^^ es.getD i 0 : Nat) : Int))
      have ho4a := hch3.own ho4 (fun k hk hx => by simp [Value.ownBlock] at hk; simp at hx; omega)
      have hcw := hc.trans hch3 (S := fun _ => False) (fun k hk hx => by simp at hx; omega)
      have ta := t.kept hch3 (fun hx => d3b hx.symm)
      replace hst3 := hst3.drew
      replace hch3 := hch3.drew
      replace ho4a := ho4a.drew
      replace hcw := hcw.drew
      replace ta : Tb (wr.setCell ⟨g3, i, none⟩ (.int .u8 ((A.getD i 0 ^^^ es.getD i 0 : Nat) : Int))).drew b := ta
      have hqr := HQ.out.kept hc (by simp)
      have hqw := HQ.out.kept hcw (by simp)
      obtain ⟨ge, offe, hae, hce⟩ : ∃ ge offe, aq = some ⟨ge, offe, none⟩ ∧ wr.cell? ⟨ge, offe + i, none⟩ = some (.int .u8 ((es.getD i 0 : Nat) : Int)) := by
        rcases hqr with ⟨h0, _⟩ | ⟨g, off, cap', he, hcc⟩
        · have := HN3.out; rw [h0] at this; simp at this; omega
        · simp only [Value.slice.injEq] at he
          exact ⟨g, off, he.1, hcc i (by have := HN3.out; omega)⟩
      subst hae
      have ha256 := getD_lt A HAX.out i
      have hb256 := getD_lt B HBX.out i
      have he256 := getD_lt es HE.out i
      have hel : (i : Int) < (es.length : Int) := by have := HN3.out; omega
      have hx3 := xor_u8 (A.getD i 0) (es.getD i 0) ha256 he256
      have hx4 := xor_u8 (B.getD i 0) (es.getD i 0) hb256 he256
      -- the second world
      obtain ⟨wb, hwb⟩ : ∃ wb, wb = (wr.setCell ⟨g3, i, none⟩ (.int .u8 ((A.getD i 0 ^^^ es.getD i 0 : Nat) : Int))).drew := ⟨_, rfl⟩
      rw [← hwb] at hst3 hch3 ho4a hcw ta hqw
      have hce4 : wb.cell? ⟨ge, offe + i, none⟩ = some (.int .u8 ((es.getD i 0 : Nat) : Int)) := by
        rcases hqw with ⟨h0, _⟩ | ⟨g, off, cap', he, hcc⟩
        · have := HN3.out; rw [h0] at this; simp at this; omega
        · simp only [Value.slice.injEq, Option.some.injEq, Addr.mk.injEq, and_true] at he
          obtain ⟨⟨rfl, rfl⟩, _⟩ := he
          exact hcc i (by have := HN3.out; omega)
      have hc4 := ho4a.cellAt i (by omega)
      rw [bv_get _ i hnl4, xorB_getD B es i n HBL.out hlt HN3.out] at hc4
      have hf4 := ho4a.frozenAt i
      have hst4 := (ho4a.stored i (.int .u8 ((B.getD i 0 ^^^ es.getD i 0 : Nat) : Int))).1
      rw [bv_set, xorB_eTo_succ B es i n HBL.out hlt HN3.out] at hst4
      have hch4 := Chg.setCell wb ⟨g4, i, none⟩ (.int .u8 ((B.getD i 0 ^^^ es.getD i 0 : Nat) : Int))
      have ho3b := hch4.own hst3 (fun k hk hx => by simp [Value.ownBlock] at hk; simp at hx; omega)
      have hcw4 := hcw.trans hch4 (S := fun _ => False) (fun k hk hx => by simp at hx; omega)
      have tb := ta.kept hch4 (fun hx => d4b hx.symm)
      obtain ⟨x, hxe⟩ : ∃ x, A.getD i 0 = x := ⟨_, rfl⟩
      obtain ⟨y, hye⟩ : ∃ y, B.getD i 0 = y := ⟨_, rfl⟩
      obtain ⟨z, hze⟩ : ∃ z, es.getD i 0 = z := ⟨_, rfl⟩
      rw [hxe, hze] at hx3 hwb
      rw [hye, hze] at hx4 hst4 ho3b hcw4 tb
      rw [hxe] at hc3 ha256
      rw [hye] at hc4 hb256
      rw [hze] at hce hce4 he256
      have HS4 := Lib.hid hst4; have HS3 := Lib.hid ho3b; have HCW := Lib.hid hcw4; have HTB := Lib.hid tb; have HWB := Lib.hid hwb; have HX3 := Lib.hid hx3; have HX4 := Lib.hid hx4
      clear hst4 ho3b hcw4 tb hch4 hst3 hch3 ho4a hcw ta hqr hqw hxe hye hze hwb ho3 ho4 hlen3 hlen4 hnl3 hnl4 t hc hx3 hx4
      go_wp2
      go_still_tail 12, (by kernel_rfl)
      change wpList _ _ _ _ _ wr.drew
      go_wp2
      rw [HX3.out, ← HWB.out]
      clear hc3 hf3 hce HWB HX3
      go_still_tail 12, (by kernel_rfl)
      change wpList _ _ _ _ _ wb.drew
      go_wp2
      rw [HX4.out]
      go_roundw
      case rel => exact ⟨i + 1, by omega, by go_num, HS3.out.drew, HS4.out.drew, HTB.out, HCW.out.drew⟩
      case measure => simp [intOf]; omega
    · obtain rfl : i = n := by omega
      have hlin := HLIN.out
      rw [eTo_all] at ho3 ho4
      have hx3 := xorB_lt A (es.take i) HAX.out (take_lt HE.out i)
      have hx4 := xorB_lt B (es.take i) HBX.out (take_lt HE.out i)
      have hl3 := xorB_length A (es.take i) (by rw [HAL.out, List.length_take]; have := HN3.out; omega)
      have hl4 := xorB_length B (es.take i) (by rw [HBL.out, List.length_take]; have := HN3.out; omega)
      rw [HAL.out] at hl3
      rw [HBL.out] at hl4
      have q1 : Hid (∀ m : Nat, Calls Try.prog 10 #[.pointer (some ⟨b, 0, none⟩), .slice ao i ca] (wr.drewN m) fun e w' => e = .returned (.int .u32 ((crcAdd 0 A : Nat) : Int)) ∧ ∃ m', w' = (wr.drewN m).drewN m') :=
        Lib.hid fun m => cof_any b _ A (wr.drewN m) t (HRA.out.kept (hc.drewN m) (by simp)) HAX.out (by rw [HAL.out]; omega)
      have q2 : Hid (∀ m : Nat, Calls Try.prog 10 #[.pointer (some ⟨b, 0, none⟩), .slice au i cb] (wr.drewN m) fun e w' => e = .returned (.int .u32 ((crcAdd 0 B : Nat) : Int)) ∧ ∃ m', w' = (wr.drewN m).drewN m') :=
        Lib.hid fun m => cof_any b _ B (wr.drewN m) t (HRB.out.kept (hc.drewN m) (by simp)) HBX.out (by rw [HBL.out]; omega)
      have q3 : Hid (∀ m : Nat, Calls Try.prog 10 #[.pointer (some ⟨b, 0, none⟩), .slice a3 i cap3] (wr.drewN m) fun e w' => e = .returned (.int .u32 ((crcAdd 0 (xorB A (es.take i)) : Nat) : Int)) ∧ ∃ m', w' = (wr.drewN m).drewN m') :=
        Lib.hid fun m => cof_any b _ _ (wr.drewN m) t (RdB.of_own ho3) hx3 (by rw [hl3]; omega)
      have q4 : Hid (∀ m : Nat, Calls Try.prog 10 #[.pointer (some ⟨b, 0, none⟩), .slice a4 i cap4] (wr.drewN m) fun e w' => e = .returned (.int .u32 ((crcAdd 0 (xorB B (es.take i)) : Nat) : Int)) ∧ ∃ m', w' = (wr.drewN m).drewN m') :=
        Lib.hid fun m => cof_any b _ _ (wr.drewN m) t (RdB.of_own ho4) hx4 (by rw [hl4]; omega)
      have e1 := xor_u32 (crcAdd 0 A) (crcAdd 0 (xorB A (es.take i))) (crcAdd_lt _ _) (crcAdd_lt _ _)
      have e2 := xor_u32 (crcAdd 0 B) (crcAdd 0 (xorB B (es.take i))) (crcAdd_lt _ _) (crcAdd_lt _ _)
      rw [← hlin] at e2
      obtain ⟨R, hR⟩ : ∃ R, crcAdd 0 A ^^^ crcAdd 0 (xorB A (es.take i)) = R := ⟨_, rfl⟩
      rw [hR] at e1 e2
      clear hR hlin HLIN
      generalize crcAdd 0 A = s1 at *
      generalize crcAdd 0 B = s2 at *
      generalize crcAdd 0 (xorB A (es.take i)) = s3 at *
      generalize crcAdd 0 (xorB B (es.take i)) = s4 at *
      clear ho3 ho4 hx3 hx4 hl3 hl4 t
      go_wp2
      go_quiet (first
        | (go_at_call 10; with_reducible exact Calls.quiet_of (q1.out _))
        | (go_at_call 10; with_reducible exact Calls.quiet_of (q2.out _))
        | (go_at_call 10; with_reducible exact Calls.quiet_of (q3.out _))
        | (go_at_call 10; with_reducible exact Calls.quiet_of (q4.out _)))
      go_wp2
      go_ret
      exact ⟨rfl, hc.drewN nq⟩

end Go.Proofs.Ytcmepbgaafdcfaa
