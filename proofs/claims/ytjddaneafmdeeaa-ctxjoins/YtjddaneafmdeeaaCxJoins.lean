/- The walk of CtxJoins. -/
import Derived.Test.YtjddaneafmdeeaaCxAwake
import Derived.Test.YtjddaneafmdeeaaHsAwake
import Derived.Test.YtjddaneafmdeeaaHsAdd
namespace Go.Proofs.Ytjddaneafmdeeaa
open Go.RowKit

theorem joined_z (X Y : List Int) (b0 last c : Nat) (hb : b0 < 256) (hl : (addL X Y).length = 256) : joinedC X Y b0 last c =
    (if c = 0 then (if c = last then (((addL X Y).set b0 ((addL X Y).getD b0 0 - 1)).set b0 ((addL X Y).getD b0 0 - 1 + 1)) else ((addL X Y).set b0 ((addL X Y).getD b0 0 - 1)))
     else (if c = last then ((addL X Y).set b0 ((addL X Y).getD b0 0 + 1)) else addL X Y)) := by
  unfold joinedC
  by_cases h0 : c = 0 <;> by_cases hL : c = last
  · simp only [h0, if_true]
    rw [if_pos (by omega), if_pos (by omega), set_getD _ _ _ _ (by rw [hl]; exact hb), if_pos rfl]
  · simp only [h0, if_true]
    rw [if_neg (by omega), if_neg (by omega)]
  · simp only [h0, if_false]
    all_goals try rw [if_pos hL, if_pos hL]
  · simp only [h0, if_false]
    all_goals try rw [if_neg hL, if_neg hL]

set_option maxHeartbeats 4000000 in
set_option maxRecDepth 100000 in
theorem xjoins_any (v u : Value) (xs ys : List Nat) (c : Nat) (w : World) (h : RdB w v xs) (hx : ∀ x ∈ xs, x < 256) (hu : RdB w u ys) (hy : ∀ y ∈ ys, y < 256) (hc8 : c < 256) :
    Calls Try.prog 5 #[v, u, .int .u8 (c : Int)] w fun e w' => Says w e w' := by
  obtain ⟨ao, cap, rfl⟩ := h.form
  obtain ⟨au, capu, rfl⟩ := hu.form
  have H := Lib.hid h; have HX := Lib.hid hx; have HU := Lib.hid hu; have HY := Lib.hid hy
  clear h hx hu hy
  by_cases hbig : 100 < xs.length
  · have hb' : decide (100 < (xs.length : Int)) = true := by simp; omega
    go_enter Try.func5, Try.ntmps5
    go_wp2_with fail
    refine (awake6_any w).mono ?_
    rintro e w1 ⟨rfl, hc1⟩
    go_wp2
    go_ret
    exact ⟨rfl, hc1⟩
  have hb' : decide (100 < (xs.length : Int)) = false := by simp; omega
  by_cases hbig2 : 100 < ys.length
  · have hb2' : decide (100 < (ys.length : Int)) = true := by simp; omega
    go_enter Try.func5, Try.ntmps5
    go_wp2_with fail
    refine (awake6_any w).mono ?_
    rintro e w1 ⟨rfl, hc1⟩
    go_wp2
    go_ret
    exact ⟨rfl, hc1⟩
  have hb2' : decide (100 < (ys.length : Int)) = false := by simp; omega
  by_cases h1 : xs.length = 0
  · have hn1 : ((xs.length : Int) == 0) = true := by simp; exact List.eq_nil_of_length_eq_zero h1
    go_enter Try.func5, Try.ntmps5
    go_wp2_with fail
    refine (awake6_any w).mono ?_
    rintro e w1 ⟨rfl, hc1⟩
    go_wp2
    go_ret
    exact ⟨rfl, hc1⟩
  have hn1 : ((xs.length : Int) == 0) = false := by simp; intro h; exact h1 (by rw [h]; rfl)
  by_cases h2 : ys.length = 0
  · have hn2 : ((ys.length : Int) == 0) = true := by simp; exact List.eq_nil_of_length_eq_zero h2
    go_enter Try.func5, Try.ntmps5
    go_wp2_with fail
    refine (awake6_any w).mono ?_
    rintro e w1 ⟨rfl, hc1⟩
    go_wp2
    go_ret
    exact ⟨rfl, hc1⟩
  have hn2 : ((ys.length : Int) == 0) = false := by simp; intro h; exact h2 (by rw [h]; rfl)
  have hxp : 0 < xs.length := by omega
  have hyp : 0 < ys.length := by omega
  have hxl : xs.length < 10000000000 := by omega
  have hyl : ys.length < 10000000000 := by omega
  have HJ := Lib.hid (sel_joins xs ys c hxp hyp HY.out)
  have hb0 := getD_lt ys HY.out 0
  have hL8 := getD_lt xs HX.out (xs.length - 1)
  have hb1 := cnt_bound (sel xs (c : Int)) (ys.getD 0 0) hb0
  have hb2 := cnt_bound (sel ys (c : Int)) (ys.getD 0 0) hb0
  have hs1 := sel_len xs (c : Int)
  have hs2 := sel_len ys (c : Int)
  have HXY : Hid (∀ x ∈ xs ++ ys, x < 256) := Lib.hid fun x hx => by
    rcases List.mem_append.1 hx with hx | hx
    · exact HX.out x hx
    · exact HY.out x hx
  have HXYL := Lib.hid (show (xs ++ ys).length < 10000000000 by rw [List.length_append]; omega)
  have HAT : Hid (atI (xs ++ ys) (xs.length : Int) = ((xs.getD (xs.length - 1) 0 : Nat) : Int)) := Lib.hid (by
    rw [atI_nat _ _ (by rw [List.length_append]; omega)]
    obtain ⟨k, hk⟩ : ∃ k, xs.length = k + 1 := ⟨xs.length - 1, by omega⟩
    rw [hk, List.getD_cons_succ, Nat.add_sub_cancel, List.getD_eq_getElem?_getD, List.getD_eq_getElem?_getD, List.getElem?_append_left (by omega)])
  obtain ⟨X, hX⟩ : ∃ X, cnt (sel xs (c : Int)) = X := ⟨_, rfl⟩
  obtain ⟨Y, hY⟩ : ∃ Y, cnt (sel ys (c : Int)) = Y := ⟨_, rfl⟩
  obtain ⟨Z, hZ⟩ : ∃ Z, cnt (sel (xs ++ ys) (c : Int)) = Z := ⟨_, rfl⟩
  obtain ⟨b0, hb0e⟩ : ∃ b0, ys.getD 0 0 = b0 := ⟨_, rfl⟩
  obtain ⟨L, hLe⟩ : ∃ L, xs.getD (xs.length - 1) 0 = L := ⟨_, rfl⟩
  have HXL := Lib.hid (show X.length = 256 by rw [← hX, cnt_length])
  have HYL := Lib.hid (show Y.length = 256 by rw [← hY, cnt_length])
  have HZL := Lib.hid (show Z.length = 256 by rw [← hZ, cnt_length])
  have HB1 := Lib.hid (hX ▸ cnt_bounds (sel xs (c : Int)) (by omega)); have HB2 := Lib.hid (hY ▸ cnt_bounds (sel ys (c : Int)) (by omega))
  have HXB : Hid (∀ k, k < 256 → 0 ≤ X.getD k 0 ∧ X.getD k 0 ≤ 1000) := Lib.hid fun k hk => by have := cnt_bound (sel xs (c : Int)) k hk; rw [hX] at this; omega
  have HYB : Hid (∀ k, k < 256 → 0 ≤ Y.getD k 0 ∧ Y.getD k 0 ≤ 1000) := Lib.hid fun k hk => by have := cnt_bound (sel ys (c : Int)) k hk; rw [hY] at this; omega
  rw [hX, hY, hZ, hb0e, hLe] at HJ
  rw [hb0e] at hb0 hb1 hb2
  rw [hLe] at hL8 HAT
  have hz2 : (addL X Y).getD b0 0 = X.getD b0 0 + Y.getD b0 0 := addL_getD X Y b0 (by rw [HXL.out]; exact hb0) (by rw [HYL.out]; exact hb0)
  have hal : (addL X Y).length = 256 := by rw [addL_length _ _ (by rw [HXL.out, HYL.out]), HXL.out]
  have hJ := HJ.out
  rw [joined_z X Y b0 L c hb0 hal] at hJ
  have hzb : 0 ≤ (addL X Y).getD b0 0 ∧ (addL X Y).getD b0 0 ≤ 2000 := by have := HXB.out b0 hb0; have := HYB.out b0 hb0; rw [hz2]; omega
  obtain ⟨z, hze⟩ : ∃ z, (addL X Y).getD b0 0 = z := ⟨_, rfl⟩
  rw [hze] at hJ hzb
  obtain ⟨hz0, hz1⟩ := hzb
  have HHX := Lib.hid hX; have HHY := Lib.hid hY; have HHZ := Lib.hid hZ; have HZE := Lib.hid hze; have HAL := Lib.hid hal; have HB0E := Lib.hid hb0e; have HLE := Lib.hid hLe; have HJ := Lib.hid hJ
  clear hX hY hZ hb0e hLe hb1 hb2 hs1 hs2 hz2 hze hal hJ
  go_enter Try.func5, Try.ntmps5
  go_wp2_with fail
  refine (awake6_any w).mono ?_
  rintro e w2 ⟨rfl, hc2'⟩
  have hca := Chg.alloc (fun _ => False) w2 (.cells #[] 5)
  have hrx := H.out.kept (hc2'.trans hca (fun _ _ h => h)) (by simp)
  have HRX := Lib.hid hrx; have HCA := Lib.hid hca
  have z2 := hc2'.size
  clear hrx hca
  go_wp2_with (at_builtin; refine wpList_append_bytes rfl (.tmp 34) (.tmp 35) rfl w2.heap.size _ [] rfl (own_empty w2) _ xs rfl HRX.out (by simp) (by simp; omega) ?_)
  intro v3 w3 ho3 hc3
  have hc3' : Chg (fun _ => False) w w3 := (hc2'.trans HCA.out (fun _ _ h => h)).trans hc3 (fun k hk hx => by simp [Value.ownBlock] at hx; omega)
  have z3 : w2.heap.size ≤ w3.heap.size := Nat.le_trans HCA.out.size hc3.size
  have hlt3 := ho3.lt
  have hru := HU.out.kept hc3' (by simp)
  clear hc3 HCA HRX
  go_wp2_with (at_builtin; refine wpList_append_bytes rfl (.tmp 36) (.tmp 37) rfl w2.heap.size v3 xs rfl ho3 _ ys rfl hru z3 (by omega) ?_)
  intro v4 w4 ho4 hc4
  have hc4' : Chg (fun _ => False) w w4 := hc3'.trans hc4 (fun k hk hx => by have := (hlt3 k hx.symm).1; omega)
  have rd4 := RdB.of_own ho4
  have RD4 := Lib.hid rd4; have Q4 := Lib.hid hc4'
  clear ho4 hc4 hru ho3 hc3' hc2' hlt3 z2 z3 rd4 hc4'
  go_wp2_with fail
  refine (xfor_any _ xs (c : Int) w4 (H.out.kept Q4.out (by simp)) HX.out hxl (by omega)).mono ?_
  rintro e w5 ⟨v5, rfl, ho5, hc5⟩
  rw [HHX.out] at ho5
  have O5 := Lib.hid ho5; have RD5 := Lib.hid (RD4.out.kept hc5 (by simp)); have Q5 := Lib.hid (Q4.out.trans hc5 (fun _ _ h => h))
  clear ho5 hc5 RD4 Q4
  go_wp2_with fail
  refine (xfor_any _ ys (c : Int) w5 (HU.out.kept Q5.out (by simp)) HY.out hyl (by omega)).mono ?_
  rintro e w6 ⟨v6, rfl, ho6, hc6⟩
  rw [HHY.out] at ho6
  have O6 := Lib.hid ho6; have P6 := Lib.hid (O5.out.kept hc6 (by simp)); have RD6 := Lib.hid (RD5.out.kept hc6 (by simp)); have Q6 := Lib.hid (Q5.out.trans hc6 (fun _ _ h => h))
  clear ho6 hc6 RD5 Q5 O5
  go_wp2_with fail
  refine (xfor_any _ (xs ++ ys) (c : Int) w6 RD6.out HXY.out HXYL.out (by omega)).mono ?_
  rintro e w7 ⟨v7, rfl, ho7, hc7⟩
  rw [HHZ.out] at ho7
  have hR7 := ho7.rd
  have hY7 := (O6.out.kept hc7 (by simp)).rd
  have hX7 := (P6.out.kept hc7 (by simp)).rd
  have RD7 := Lib.hid (RD6.out.kept hc7 (by simp)); have Q7 := Lib.hid (Q6.out.trans hc7 (fun _ _ h => h))
  obtain ⟨a7, k7, rfl⟩ := hR7.form
  obtain ⟨a6, k6, rfl⟩ := hY7.form
  obtain ⟨a5, k5, rfl⟩ := hX7.form
  rw [HZL.out] at hR7 ⊢
  rw [HYL.out] at hY7 ⊢
  rw [HXL.out] at hX7 ⊢
  have R7 := Lib.hid hR7; have Y7 := Lib.hid hY7; have X7 := Lib.hid hX7
  clear ho7 hc7 RD6 Q6 O6 P6 hR7 hY7 hX7
  go_wp2_with (at_make; refine wpList_make_ints rfl _ _ rfl 256 256 256 rfl rfl rfl rfl (by omega) (addTo X Y 0) (addTo_zero X Y) ?_)
  intro w8 h8 hc8'
  have R8 := Lib.hid (R7.out.kept hc8' (by simp)); have Y8 := Lib.hid (Y7.out.kept hc8' (by simp)); have X8 := Lib.hid (X7.out.kept hc8' (by simp))
  have RD8 := Lib.hid (RD7.out.kept hc8' (by simp)); have Q8 := Lib.hid (Q7.out.trans hc8' (fun _ _ h => h)); have H8 := Lib.hid h8
  have hgw : w.heap.size ≤ w7.heap.size := Q7.out.size
  have HNE : Hid (∀ (W : World) (x : Nat) (zz : Int), Chg (fun k => k = w7.heap.size) W (W.setCell ⟨w7.heap.size, x, none⟩ (.int .i64 zz))) := Lib.hid fun W x zz => Chg.setCell W ⟨w7.heap.size, x, none⟩ _
  have blk : ∀ {W : World} {ao : Option Addr} {n cap : Nat} {zs : List Int}, RdI W (.slice ao n cap) zs → 0 < zs.length → ∀ k, (Value.slice ao n cap).ownBlock = some k → k < W.heap.size := by
    intro W ao n cap zs hr hz k hk
    obtain ⟨g, off, rfl, hcell⟩ := hr.at 0 hz
    simp [Value.ownBlock] at hk
    subst hk
    exact block_lt_of_cell hcell
  have B7 := Lib.hid (blk R7.out (by rw [HZL.out]; omega)); have B6 := Lib.hid (blk Y7.out (by rw [HYL.out]; omega)); have B5 := Lib.hid (blk X7.out (by rw [HXL.out]; omega))
  have BA : Hid (∀ k, v4.ownBlock = some k → k < w7.heap.size) := Lib.hid (by
    intro k hk
    obtain ⟨a4, k4, rfl⟩ := RD7.out.form
    obtain ⟨g, off, rfl, hcell⟩ := RD7.out.at 0 (by rw [List.length_append]; omega)
    simp [Value.ownBlock] at hk
    subst hk
    exact block_lt_of_cell hcell)
  have HGW := Lib.hid hgw
  clear h8 hc8' R7 Y7 X7 RD7 Q7 blk hgw
  go_wp2
  go_loopw [13] (fun o13 wr => ∃ k : Nat, k ≤ 256 ∧ o13 = .int .i64 (k : Int) ∧ RowI wr w7.heap.size 3 (addTo X Y k) ∧ RdI wr (.slice a7 256 k7) Z ∧ RdI wr (.slice a6 256 k6) Y ∧ RdI wr (.slice a5 256 k5) X ∧ RdB wr v4 (xs ++ ys) ∧ Chg (fun _ => False) w wr) (fun o13 _ => 256 - (intOf o13).toNat)
  case atStart => exact ⟨0, Nat.zero_le _, rfl, H8.out, R8.out, Y8.out, X8.out, RD8.out, Q8.out⟩
  case round =>
    obtain ⟨k, hk, rfl, hrow, hR, hYr, hXr, hRD, hq⟩ := hrel
    clear H8 R8 Y8 X8 RD8 Q8
    by_cases hlt : k < 256
    · have d13 : decide ((k : Int) < 256) = true := by simp; omega
      have hki : (k : Int) < 256 := by omega
      obtain ⟨g5, o5, rfl, c1⟩ := hXr.at k (by rw [HXL.out]; exact hlt)
      obtain ⟨g6, o6, rfl, c2⟩ := hYr.at k (by rw [HYL.out]; exact hlt)
      have b1 := HXB.out k hlt
      have b2 := HYB.out k hlt
      have hcu := hrow.cell k (by rw [addTo_length]; exact hlt)
      have hfu := hrow.free k
      have hr2 := hrow.set k (X.getD k 0 + Y.getD k 0)
      rw [addTo_set X Y k hlt] at hr2
      have hcs := HNE.out wr k (X.getD k 0 + Y.getD k 0)
      have hR2 := hR.kept hcs (fun q hq hx => by have := B7.out q hq; omega)
      have hY2 := hYr.kept hcs (fun q hq hx => by have := B6.out q hq; omega)
      have hX2 := hXr.kept hcs (fun q hq hx => by have := B5.out q hq; omega)
      have hRD2 := hRD.kept hcs (fun q hq hx => by have := BA.out q hq; omega)
      have hq2 : Chg (fun _ => False) w (wr.setCell ⟨w7.heap.size, k, none⟩ (.int .i64 (X.getD k 0 + Y.getD k 0))) := hq.trans hcs (fun q hq h => by have := HGW.out; omega)
      obtain ⟨x, hxe⟩ : ∃ x, X.getD k 0 = x := ⟨_, rfl⟩
      obtain ⟨y, hye⟩ : ∃ y, Y.getD k 0 = y := ⟨_, rfl⟩
      rw [hxe] at c1 b1
      rw [hye] at c2 b2
      rw [hxe, hye] at hr2 hR2 hY2 hX2 hRD2 hq2
      have hwrap : IntKind.i64.wrap (x + y) = x + y := by rw [IntKind.wrap_i64]; omega
      have J1 := Lib.hid hr2; have J2 := Lib.hid hR2; have J3 := Lib.hid hY2; have J4 := Lib.hid hX2; have J5 := Lib.hid hRD2; have J6 := Lib.hid hq2
      generalize (addTo X Y k).getD k 0 = old at hcu
      clear hr2 hR2 hY2 hX2 hRD2 hq2 hrow hR hYr hXr hRD hq hxe hye hcs
      go_wp2
      go_still_tail 12, (by kernel_rfl)
      change wpList _ _ _ _ _ wr.drew
      go_wp2
      go_roundw
      case rel => exact ⟨k + 1, by omega, by go_num, J1.out, J2.out, J3.out, J4.out, J5.out, J6.out.drew⟩
      case measure => simp [intOf]; omega
    · obtain rfl : k = 256 := by omega
      rw [addTo_all X Y HXL.out HYL.out] at hrow
      clear hYr hXr
      obtain ⟨g2, o2, rfl, cb0⟩ := (HU.out.kept hq (by simp)).at 0 hyp
      rw [HB0E.out, Nat.add_zero] at cb0
      obtain ⟨g1, o1, rfl, cL⟩ := (H.out.kept hq (by simp)).at (xs.length - 1) (by omega)
      rw [HLE.out] at cL
      have hg2 : g2 < w.heap.size := by
        obtain ⟨_, _, he, hc⟩ := HU.out.at 0 hyp
        simp only [Option.some.injEq, Addr.mk.injEq] at he
        obtain ⟨rfl, rfl, -⟩ := he
        exact block_lt_of_cell hc
      have hg1 : g1 < w.heap.size := by
        obtain ⟨_, _, he, hc⟩ := H.out.at 0 hxp
        simp only [Option.some.injEq, Addr.mk.injEq] at he
        obtain ⟨rfl, rfl, -⟩ := he
        exact block_lt_of_cell hc
      have hcz := hrow.cell b0 (by rw [HAL.out]; exact hb0)
      rw [HZE.out] at hcz
      have hfz := hrow.free b0
      obtain ⟨n, hn⟩ : ∃ n, xs.length = n + 1 := ⟨xs.length - 1, by omega⟩
      have hn' : (xs.length : Int) - 1 = (n : Int) := by omega
      have hcL : wr.cell? ⟨g1, o1 + n, none⟩ = some (.int .u8 (L : Int)) := by
        have : xs.length - 1 = n := by omega
        rw [this] at cL; exact cL
      have hnl : n < xs.length := by omega
      have hwn : IntKind.i64.wrap ((xs.length : Int) - 1) = (n : Int) := by rw [IntKind.wrap_i64]; omega
      have HN := Lib.hid hn
      obtain ⟨A, hA⟩ : ∃ A, addL X Y = A := ⟨_, rfl⟩
      rw [hA] at HJ hrow HAL
      have AT : Hid (∀ (W : World) (m : Nat), RdB W v4 (xs ++ ys) → Calls Try.prog 9 #[v4, .int .i64 (xs.length : Int)] (W.drewN m) fun e w' => e = .returned (.int .i64 (L : Int)) ∧ ∃ m', w' = (W.drewN m).drewN m') :=
        Lib.hid fun W m hW => by rw [← HAT.out]; exact xat_any v4 (xs ++ ys) _ (W.drewN m) (hW.kept ((Chg.refl (fun _ => False) W).drewN m) (by simp)) HXY.out HXYL.out (by omega)
      have IN : Hid (∀ (W : World) (m : Nat) (F : List Int), Z = F → RdI W (.slice a7 256 k7) Z → RdI W (.slice (some ⟨w7.heap.size, 0, none⟩) 256 256) F → Calls Try.prog 11 #[.slice a7 256 k7, .slice (some ⟨w7.heap.size, 0, none⟩) 256 256] (W.drewN m) fun e w' => e = .returned (.bool true) ∧ ∃ m', w' = (W.drewN m).drewN m') :=
        Lib.hid fun W m F hF h1 h2 => by
          have hd : (Bool.true) = decide (Z = F) := (decide_eq_true hF).symm
          rw [hd]
          exact ints_any _ _ Z F (W.drewN m) (h1.kept ((Chg.refl (fun _ => False) W).drewN m) (by simp)) (h2.kept ((Chg.refl (fun _ => False) W).drewN m) (by simp)) (by rw [HZL.out]; omega) (by rw [← hF, HZL.out]; omega)
      clear hA cL hn
      by_cases h0 : c = 0
      · by_cases hL : c = L
        · -- c = 0 c = L
          have hF : Z = ((A.set b0 (z - 1)).set b0 z) := by have := HJ.out; rw [if_pos h0, if_pos hL] at this; rw [show z - 1 + 1 = z by omega] at this; exact this
          have rF := (hrow.set b0 (z - 1)).set b0 z
          have qq := (HNE.out wr b0 (z - 1)).trans (HNE.out (wr.setCell ⟨w7.heap.size, b0, none⟩ (.int .i64 (z - 1))) b0 z) (fun _ _ h => h)
          have rdF := rF.rd 256
          rw [show (((A.set b0 (z - 1)).set b0 z)).length = 256 by simp [HAL.out]] at rdF
          have RF := Lib.hid rdF
          have RZ := Lib.hid (hR.kept qq (fun q hq hx => by have := B7.out q hq; omega))
          have RB := Lib.hid (hRD.kept qq (fun q hq hx => by have := BA.out q hq; omega))
          have QF := Lib.hid (hq.trans qq (S := fun _ => False) (fun q hq h => by have := HGW.out; omega))
          have IN2 := Lib.hid (fun m => IN.out _ m _ hF RZ.out RF.out)
          have AT2 := Lib.hid (fun m => AT.out _ m RB.out)
          have kL : ((wr.setCell ⟨w7.heap.size, b0, none⟩ (.int .i64 (z - 1))).setCell ⟨w7.heap.size, b0, none⟩ (.int .i64 z)).cell? ⟨g1, o1 + n, none⟩ = some (.int .u8 (L : Int)) := by rw [World.cell?_of_block (w := wr) (qq.block g1 (by have := hq.size; omega) (by have := HGW.out; omega))]; exact hcL
          have kB : ((wr.setCell ⟨w7.heap.size, b0, none⟩ (.int .i64 (z - 1))).setCell ⟨w7.heap.size, b0, none⟩ (.int .i64 z)).cell? ⟨g2, o2, none⟩ = some (.int .u8 (b0 : Int)) := by rw [World.cell?_of_block (w := wr) (qq.block g2 (by have := hq.size; omega) (by have := HGW.out; omega))]; exact cb0
          have kM : (wr.setCell ⟨w7.heap.size, b0, none⟩ (.int .i64 (z - 1))).cell? ⟨g1, o1 + n, none⟩ = some (.int .u8 (L : Int)) := by rw [World.cell?_of_block (w := wr) ((HNE.out wr b0 (z - 1)).block g1 (by have := hq.size; omega) (by have := HGW.out; omega))]; exact hcL
          have kN : (wr.setCell ⟨w7.heap.size, b0, none⟩ (.int .i64 (z - 1))).cell? ⟨g2, o2, none⟩ = some (.int .u8 (b0 : Int)) := by rw [World.cell?_of_block (w := wr) ((HNE.out wr b0 (z - 1)).block g2 (by have := hq.size; omega) (by have := HGW.out; omega))]; exact cb0
          have kC := World.cell?_setCell_same wr ⟨w7.heap.size, b0, none⟩ (.int .i64 (z - 1)) hcz
          clear hF rF qq rdF hrow hR hRD hq hg1 hg2
          subst h0
          subst hL
          go_wp2
          go_quiet (first | (go_at_call 11; with_reducible exact Calls.quiet_of (IN2.out _)) | (go_at_call 9; with_reducible exact Calls.quiet_of (AT2.out _)))
          go_wp2
          go_ret
          exact ⟨rfl, QF.out.drewN _⟩
        · -- c = 0 c ≠ L
          have hF : Z = (A.set b0 (z - 1)) := by have := HJ.out; rw [if_pos h0, if_neg hL] at this; exact this
          have rF := hrow.set b0 (z - 1)
          have qq := HNE.out wr b0 (z - 1)
          have rdF := rF.rd 256
          rw [show ((A.set b0 (z - 1))).length = 256 by simp [HAL.out]] at rdF
          have RF := Lib.hid rdF
          have RZ := Lib.hid (hR.kept qq (fun q hq hx => by have := B7.out q hq; omega))
          have RB := Lib.hid (hRD.kept qq (fun q hq hx => by have := BA.out q hq; omega))
          have QF := Lib.hid (hq.trans qq (S := fun _ => False) (fun q hq h => by have := HGW.out; omega))
          have IN2 := Lib.hid (fun m => IN.out _ m _ hF RZ.out RF.out)
          have AT2 := Lib.hid (fun m => AT.out _ m RB.out)
          have kL : (wr.setCell ⟨w7.heap.size, b0, none⟩ (.int .i64 (z - 1))).cell? ⟨g1, o1 + n, none⟩ = some (.int .u8 (L : Int)) := by rw [World.cell?_of_block (w := wr) (qq.block g1 (by have := hq.size; omega) (by have := HGW.out; omega))]; exact hcL
          have kB : (wr.setCell ⟨w7.heap.size, b0, none⟩ (.int .i64 (z - 1))).cell? ⟨g2, o2, none⟩ = some (.int .u8 (b0 : Int)) := by rw [World.cell?_of_block (w := wr) (qq.block g2 (by have := hq.size; omega) (by have := HGW.out; omega))]; exact cb0
          clear hF rF qq rdF hrow hR hRD hq hg1 hg2
          subst h0
          have eL : ((0 : Int) == (L : Int)) = false := by simp; omega
          go_wp2
          go_quiet (first | (go_at_call 11; with_reducible exact Calls.quiet_of (IN2.out _)) | (go_at_call 9; with_reducible exact Calls.quiet_of (AT2.out _)))
          go_wp2
          go_ret
          exact ⟨rfl, QF.out.drewN _⟩
      · by_cases hL : c = L
        · -- c ≠ 0 c = L
          have hF : Z = (A.set b0 (z + 1)) := by have := HJ.out; rw [if_neg h0, if_pos hL] at this; exact this
          have rF := hrow.set b0 (z + 1)
          have qq := HNE.out wr b0 (z + 1)
          have rdF := rF.rd 256
          rw [show ((A.set b0 (z + 1))).length = 256 by simp [HAL.out]] at rdF
          have RF := Lib.hid rdF
          have RZ := Lib.hid (hR.kept qq (fun q hq hx => by have := B7.out q hq; omega))
          have RB := Lib.hid (hRD.kept qq (fun q hq hx => by have := BA.out q hq; omega))
          have QF := Lib.hid (hq.trans qq (S := fun _ => False) (fun q hq h => by have := HGW.out; omega))
          have IN2 := Lib.hid (fun m => IN.out _ m _ hF RZ.out RF.out)
          have AT2 := Lib.hid (fun m => AT.out _ m RB.out)
          have kL : (wr.setCell ⟨w7.heap.size, b0, none⟩ (.int .i64 (z + 1))).cell? ⟨g1, o1 + n, none⟩ = some (.int .u8 (L : Int)) := by rw [World.cell?_of_block (w := wr) (qq.block g1 (by have := hq.size; omega) (by have := HGW.out; omega))]; exact hcL
          have kB : (wr.setCell ⟨w7.heap.size, b0, none⟩ (.int .i64 (z + 1))).cell? ⟨g2, o2, none⟩ = some (.int .u8 (b0 : Int)) := by rw [World.cell?_of_block (w := wr) (qq.block g2 (by have := hq.size; omega) (by have := HGW.out; omega))]; exact cb0
          clear hF rF qq rdF hrow hR hRD hq hg1 hg2
          have e0 : ((c : Int) == 0) = false := by simp; omega
          subst hL
          go_wp2
          go_quiet (first | (go_at_call 11; with_reducible exact Calls.quiet_of (IN2.out _)) | (go_at_call 9; with_reducible exact Calls.quiet_of (AT2.out _)))
          go_wp2
          go_ret
          exact ⟨rfl, QF.out.drewN _⟩
        · -- c ≠ 0 c ≠ L
          have hF : Z = A := by have := HJ.out; rw [if_neg h0, if_neg hL] at this; exact this
          have rF := hrow
          have qq := Chg.refl (fun k => k = w7.heap.size) wr
          have rdF := rF.rd 256
          rw [show (A).length = 256 by simp [HAL.out]] at rdF
          have RF := Lib.hid rdF
          have RZ := Lib.hid (hR.kept qq (fun q hq hx => by have := B7.out q hq; omega))
          have RB := Lib.hid (hRD.kept qq (fun q hq hx => by have := BA.out q hq; omega))
          have QF := Lib.hid (hq.trans qq (S := fun _ => False) (fun q hq h => by have := HGW.out; omega))
          have IN2 := Lib.hid (fun m => IN.out _ m _ hF RZ.out RF.out)
          have AT2 := Lib.hid (fun m => AT.out _ m RB.out)
          have kL : wr.cell? ⟨g1, o1 + n, none⟩ = some (.int .u8 (L : Int)) := by rw [World.cell?_of_block (w := wr) (qq.block g1 (by have := hq.size; omega) (by have := HGW.out; omega))]; exact hcL
          have kB : wr.cell? ⟨g2, o2, none⟩ = some (.int .u8 (b0 : Int)) := by rw [World.cell?_of_block (w := wr) (qq.block g2 (by have := hq.size; omega) (by have := HGW.out; omega))]; exact cb0
          clear hF rF qq rdF hrow hR hRD hq hg1 hg2
          have e0 : ((c : Int) == 0) = false := by simp; omega
          have eL : ((c : Int) == (L : Int)) = false := by simp; omega
          go_wp2
          go_quiet (first | (go_at_call 11; with_reducible exact Calls.quiet_of (IN2.out _)) | (go_at_call 9; with_reducible exact Calls.quiet_of (AT2.out _)))
          go_wp2
          go_ret
          exact ⟨rfl, QF.out.drewN _⟩

end Go.Proofs.Ytjddaneafmdeeaa
