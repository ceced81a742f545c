/- The walk of CtxMore. -/
import Derived.Test.YtjddaneafmdeeaaCxAwake
import Derived.Test.YtjddaneafmdeeaaHsAwake
import Derived.Deep.RegionHeld3
namespace Go.Proofs.Ytjddaneafmdeeaa
open Go.RowKit

set_option maxHeartbeats 1000000 in
set_option maxRecDepth 100000 in
theorem xmore_any (v : Value) (xs : List Nat) (y c : Nat) (w : World) (h : RdB w v xs) (hx : ∀ x ∈ xs, x < 256) (hy : y < 256) (hc8 : c < 256) :
    Calls Try.prog 7 #[v, .int .u8 (y : Int), .int .u8 (c : Int)] w fun e w' => Says w e w' := by
  obtain ⟨ao, cap, rfl⟩ := h.form
  have H := Lib.hid h; have HX := Lib.hid hx
  clear h hx
  by_cases hbig : 100 < xs.length
  · have hb' : decide (100 < (xs.length : Int)) = true := by simp; omega
    go_enter Try.func7, Try.ntmps7
    go_wp2_with fail
    refine (awake6_any w).mono ?_
    rintro e w1 ⟨rfl, hc1⟩
    go_wp2
    go_ret
    exact ⟨rfl, hc1⟩
  have hb' : decide (100 < (xs.length : Int)) = false := by simp; omega
  by_cases h1 : xs.length = 0
  · have hn1 : ((xs.length : Int) == 0) = true := by simp; exact List.eq_nil_of_length_eq_zero h1
    go_enter Try.func7, Try.ntmps7
    go_wp2_with fail
    refine (awake6_any w).mono ?_
    rintro e w1 ⟨rfl, hc1⟩
    go_wp2
    go_ret
    exact ⟨rfl, hc1⟩
  have hn1 : ((xs.length : Int) == 0) = false := by simp; intro h; exact h1 (by rw [h]; rfl)
  have hxp : 0 < xs.length := by omega
  have hxl : xs.length < 10000000000 := by omega
  have hL8 := getD_lt xs HX.out (xs.length - 1)
  have HXY := Lib.hid (snoc_lt HX.out hy)
  have HXYL := Lib.hid (show (xs ++ [y]).length < 10000000000 by simp; omega)
  have HXYM := Lib.hid (show (xs ++ [y]).length < 1000000 by simp; omega)
  have HXM := Lib.hid (show xs.length < 1000000 by omega)
  have hsm := sel_more xs y (c : Int) hy
  rw [lst_last 0 xs hxp] at hsm
  have hwm := wid_more xs y HX.out hy (by omega) 256
  have hwl := wid_le xs 256
  rw [show wid xs 256 = widest xs from rfl, show wid (xs ++ [y]) 256 = widest (xs ++ [y]) from rfl] at hwm
  rw [show wid xs 256 = widest xs from rfl] at hwl
  have HAT : Hid (atI (xs ++ [y]) (xs.length : Int) = ((xs.getD (xs.length - 1) 0 : Nat) : Int)) := Lib.hid (by
    rw [atI_nat _ _ (by simp)]
    obtain ⟨k, hk⟩ : ∃ k, xs.length = k + 1 := ⟨xs.length - 1, by omega⟩
    rw [hk, List.getD_cons_succ, Nat.add_sub_cancel, List.getD_eq_getElem?_getD, List.getD_eq_getElem?_getD, List.getElem?_append_left (by omega)])
  have hbd := cnt_bound (sel xs (c : Int)) y hy
  have hs1 := sel_len xs (c : Int)
  obtain ⟨X, hX⟩ : ∃ X, cnt (sel xs (c : Int)) = X := ⟨_, rfl⟩
  obtain ⟨Y, hY⟩ : ∃ Y, cnt (sel (xs ++ [y]) (c : Int)) = Y := ⟨_, rfl⟩
  obtain ⟨L, hLe⟩ : ∃ L, xs.getD (xs.length - 1) 0 = L := ⟨_, rfl⟩
  obtain ⟨A, hA⟩ : ∃ A, widest xs = A := ⟨_, rfl⟩
  obtain ⟨B, hB⟩ : ∃ B, widest (xs ++ [y]) = B := ⟨_, rfl⟩
  have HXL := Lib.hid (show X.length = 256 by rw [← hX, cnt_length])
  have HYL := Lib.hid (show Y.length = 256 by rw [← hY, cnt_length])
  rw [hX, hY, hLe] at hsm
  rw [hLe] at hL8 HAT
  rw [hX] at hbd
  rw [hA, hB] at hwm
  rw [hA] at hwl
  obtain ⟨z, hze⟩ : ∃ z, X.getD y 0 = z := ⟨_, rfl⟩
  rw [hze] at hsm hbd
  have hz0 := hbd.1
  have hz1 : z ≤ 1000 := by omega
  have hAB := hwm.1
  have hBA : B ≤ A + 1 := hwm.2
  have HHX := Lib.hid hX; have HHY := Lib.hid hY; have HZE := Lib.hid hze; have HLE := Lib.hid hLe; have HSM := Lib.hid hsm; have HA := Lib.hid hA; have HB := Lib.hid hB; have HWL := Lib.hid hwl
  have HAB := Lib.hid hAB; have HBA := Lib.hid hBA
  clear hX hY hLe hsm hA hB hwm hwl hbd hs1 hze hAB hBA
  go_enter Try.func7, Try.ntmps7
  go_wp2_with fail
  refine (awake6_any w).mono ?_
  rintro e w2 ⟨rfl, hc2'⟩
  have z2 := hc2'.size
  have hca := Chg.alloc (fun _ => False) w2 (.cells #[] 5)
  have hrx := H.out.kept (hc2'.trans hca (fun _ _ h => h)) (by simp)
  have HRX := Lib.hid hrx; have HCA := Lib.hid hca
  clear hrx hca
  go_wp2_with (at_builtin; refine wpList_append_bytes rfl (.tmp 22) (.tmp 23) rfl w2.heap.size _ [] rfl (own_empty w2) _ xs rfl HRX.out (by simp) (by simp; omega) ?_)
  intro v3 w3 ho3 hc3
  have hc3' : Chg (fun _ => False) w w3 := (hc2'.trans HCA.out (fun _ _ h => h)).trans hc3 (fun k hk hx => by simp [Value.ownBlock] at hx; omega)
  have z3 : w2.heap.size ≤ w3.heap.size := Nat.le_trans HCA.out.size hc3.size
  clear hc3 HCA HRX
  have hca := Chg.alloc (fun _ => False) w3 (.cells #[.int .u8 (y : Int)] 5)
  have hrd := rdb_new w3 [y] #[.int .u8 (y : Int)] 1 (0, 0) rfl rfl
  have ho3a := hca.own ho3 (by simp)
  have hlt3 := ho3.lt
  have HRD := Lib.hid hrd; have HO3 := Lib.hid ho3a; have HCA := Lib.hid hca; have HLT3 := Lib.hid hlt3
  have Z3A := Lib.hid (Nat.le_trans z3 hca.size)
  clear hca hrd ho3 ho3a hlt3
  go_wp2_with (at_builtin; refine wpList_append_bytes rfl (.tmp 24) (.tmp 26) rfl w2.heap.size v3 xs rfl HO3.out _ [y] rfl HRD.out Z3A.out (by simp; omega) ?_)
  intro v4 w4 ho4 hc4
  have hc4' : Chg (fun _ => False) w w4 := (hc3'.trans HCA.out (fun _ _ h => h)).trans hc4 (fun k hk hx => by have := (HLT3.out k hx.symm).1; omega)
  have RD4 := Lib.hid (RdB.of_own ho4); have Q4 := Lib.hid hc4'
  have BA : Hid (∀ k, v4.ownBlock = some k → k < w4.heap.size) := Lib.hid (by
    intro k hk
    have hr := RD4.out
    obtain ⟨a4, c4, rfl⟩ := hr.form
    obtain ⟨g, off, rfl, hcell⟩ := hr.at 0 (by simp)
    simp [Value.ownBlock] at hk
    subst hk
    exact block_lt_of_cell hcell)
  clear ho4 hc4 hc4' hc3' hc2' HLT3 Z3A z2 z3 HRD HO3 HCA
  go_wp2_with fail
  refine (xfor_any _ xs (c : Int) w4 (H.out.kept Q4.out (by simp)) HX.out hxl (by omega)).mono ?_
  rintro e w5 ⟨v5, rfl, ho5, hc5⟩
  rw [HHX.out] at ho5
  have O5 := Lib.hid ho5; have RD5 := Lib.hid (RD4.out.kept hc5 (by simp)); have Q5 := Lib.hid (Q4.out.trans hc5 (fun _ _ h => h))
  have S45 := hc5.size
  have S4 := Q4.out.size
  clear ho5 hc5 RD4 Q4
  go_wp2_with fail
  refine (xfor_any _ (xs ++ [y]) (c : Int) w5 RD5.out HXY.out HXYL.out (by omega)).mono ?_
  rintro e w6 ⟨v6, rfl, ho6, hc6⟩
  rw [HHY.out] at ho6
  have hO6 := O5.out.kept hc6 (by simp)
  have hl5 : ∀ k, v5.ownBlock = some k → w4.heap.size ≤ k ∧ k < w5.heap.size := by
    obtain ⟨g, off, cap, rfl, hg, hl, _⟩ := O5.out
    intro k hk
    simp [Value.ownBlock] at hk
    omega
  obtain ⟨g6, o6, k6, rfl, hg6, hgl6, -, -⟩ := id ho6
  obtain ⟨g5, o5, k5, rfl, hg5, hgl5, hcl5, hfr5⟩ := id hO6
  have e5 := hl5 g5 rfl
  have hRD := RD5.out.kept hc6 (by simp)
  have hQ := Q5.out.trans hc6 (fun _ _ h => h)
  have hcy := hcl5 y (by rw [HXL.out]; exact hy)
  have hfy := hfr5 y
  rw [HZE.out] at hcy
  rw [HXL.out] at hO6 ⊢
  rw [HYL.out] at ho6 ⊢
  obtain ⟨n, hn⟩ : ∃ n, xs.length = n + 1 := ⟨xs.length - 1, by omega⟩
  obtain ⟨g1, o1, rfl, cL⟩ := (H.out.kept hQ (by simp)).at (xs.length - 1) (by omega)
  rw [HLE.out] at cL
  have hg1 : g1 < w.heap.size := by
    obtain ⟨_, _, he, hc⟩ := H.out.at 0 hxp
    simp only [Option.some.injEq, Addr.mk.injEq] at he
    obtain ⟨rfl, rfl, -⟩ := he
    exact block_lt_of_cell hc
  have hcL : w6.cell? ⟨g1, o1 + n, none⟩ = some (.int .u8 (L : Int)) := by
    have : xs.length - 1 = n := by omega
    rw [this] at cL; exact cL
  have hn' : (xs.length : Int) - 1 = (n : Int) := by omega
  have hnl : n < xs.length := by omega
  have hni : (n : Int) < (xs.length : Int) := by omega
  have hni0 : (0 : Int) ≤ (n : Int) := by omega
  have hwn : IntKind.i64.wrap ((xs.length : Int) - 1) = (n : Int) := by rw [IntKind.wrap_i64]; omega
  have hwn2 : IntKind.i64.wrap (n : Int) = (n : Int) := by rw [IntKind.wrap_i64]; omega
  have hwL : IntKind.i64.wrap (L : Int) = (L : Int) := by rw [IntKind.wrap_i64]; omega
  have hwA : IntKind.i64.wrap ((A : Int) + 1) = (A : Int) + 1 := by have := HWL.out; rw [IntKind.wrap_i64]; omega
  have HE5 := Lib.hid e5; have HG6 := Lib.hid hg6; have HG1 := Lib.hid hg1; have HS4 := Lib.hid S4; have HS45 := Lib.hid S45
  clear cL hn hcl5 hfr5 hl5 hg5 hgl5 hg6 hgl6 e5 hg1 S4 S45 O5 RD5 Q5 hc6
  by_cases hcL' : c = L
  · have hF : Y = X.set y (z + 1) := by have := HSM.out; rw [if_pos (by omega)] at this; exact this
    have hst := hO6.store y (by rw [HXL.out]; exact hy) (z + 1)
    rw [← hF] at hst
    have qq := Chg.setCell w6 ⟨g5, o5 + y, none⟩ (.int .i64 (z + 1))
    have RX := Lib.hid hst.rd
    have RY := Lib.hid (ho6.rd.kept qq (fun k hk hx => by have := HG6.out; have := HE5.out; simp [Value.ownBlock] at hk; simp at hx; omega))
    have RB := Lib.hid (hRD.kept qq (fun k hk hx => by have := BA.out k hk; have := HE5.out; simp at hx; omega))
    have QW := Lib.hid (hQ.trans qq (S := fun _ => False) (fun k hk hx => by have := HE5.out; have := HS4.out; simp at hx; omega))
    have KL := Lib.hid (show (w6.setCell ⟨g5, o5 + y, none⟩ (.int .i64 (z + 1))).cell? ⟨g1, o1 + n, none⟩ = some (.int .u8 (L : Int)) by rw [World.cell?_of_block (w := w6) (qq.block g1 (by have := hQ.size; have := HG1.out; omega) (by have := HE5.out; have := HS4.out; have := HG1.out; simp; omega))]; exact hcL)
    clear hF hst qq hO6 ho6 hRD hQ
    obtain rfl : L = c := hcL'.symm
    go_wp2_with fail
    refine (xwidest_any _ (xs ++ [y]) (w6.setCell ⟨g5, o5 + y, none⟩ (.int .i64 (z + 1))) RB.out HXY.out HXYM.out).mono ?_
    rintro e w7 ⟨rfl, hc7⟩
    rw [HB.out]
    have RX7 := Lib.hid (RX.out.kept hc7 (by simp)); have RY7 := Lib.hid (RY.out.kept hc7 (by simp)); have RB7 := Lib.hid (RB.out.kept hc7 (by simp)); have QW7 := Lib.hid (QW.out.trans hc7 (fun _ _ h => h))
    have HG17 := Lib.hid (show g1 < w7.heap.size by have := QW7.out.size; have := HG1.out; omega)
    have k7 : w7.cell? ⟨g1, o1 + n, none⟩ = some (.int .u8 (L : Int)) := by rw [World.cell?_of_block (hc7.block g1 (by have := QW.out.size; have := HG1.out; omega) (by simp))]; exact KL.out
    clear RX RY RB QW KL hc7 hcL hcy hfy
    have d1 : A ≤ B := HAB.out
    have d2 : (B : Int) ≤ (A : Int) + 1 := by have := HBA.out; omega
    go_wp2_with fail
    go_region_held3 (fun W => W.cell? ⟨g1, o1 + n, none⟩ = some (.int .u8 (L : Int))) (first | assumption | (dsimp only; assumption)) (first
      | (go_at_call 11; refine (ints_c _ _ Y Y w7.drew RX7.out RY7.out (by rw [HYL.out]; omega) (by rw [HYL.out]; omega)).mono ?_; rintro e w8 ⟨rfl, hc8⟩; rw [decide_eq_true rfl]; have RB8 := Lib.hid (RdB.kept (w := w7.drew) RB7.out hc8 (by simp)); have QW8 := Lib.hid (QW7.out.drew.trans hc8 (fun _ _ h => h)); have k8 : w8.cell? ⟨g1, o1 + n, none⟩ = some (.int .u8 (L : Int)) := (World.cell?_of_block (hc8.block g1 HG17.out (by simp))).trans k7; clear hc8)
      | (go_at_call 16; refine (xwidest_any _ xs w8 (H.out.kept QW8.out (by simp)) HX.out HXM.out).mono ?_; rintro e w9 ⟨rfl, hc9⟩; rw [HA.out]; have RB9 := Lib.hid (RB8.out.kept hc9 (by simp)); have QW9 := Lib.hid (QW8.out.trans hc9 (fun _ _ h => h)); have k9 : w9.cell? ⟨g1, o1 + n, none⟩ = some (.int .u8 (L : Int)) := (World.cell?_of_block (hc9.block g1 (block_lt_of_cell k8) (by simp))).trans k8; clear hc9)
      | (go_at_call 16; refine (xwidest_any _ xs w9 (H.out.kept QW9.out (by simp)) HX.out HXM.out).mono ?_; rintro e w10 ⟨rfl, hc10⟩; rw [HA.out]; have RB10 := Lib.hid (RB9.out.kept hc10 (by simp)); have QW10 := Lib.hid (QW9.out.trans hc10 (fun _ _ h => h)); have k10 : w10.cell? ⟨g1, o1 + n, none⟩ = some (.int .u8 (L : Int)) := (World.cell?_of_block (hc10.block g1 (block_lt_of_cell k9) (by simp))).trans k9; clear hc10)
      | (go_at_call 9; refine (xat_c _ (xs ++ [y]) _ w10 RB10.out HXY.out HXYL.out (by omega)).mono ?_; rintro e w11 ⟨rfl, hc11⟩; rw [HAT.out]; have QW11 := Lib.hid (QW10.out.trans hc11 (fun _ _ h => h)); have k11 : w11.cell? ⟨g1, o1 + n, none⟩ = some (.int .u8 (L : Int)) := (World.cell?_of_block (hc11.block g1 (block_lt_of_cell k10) (by simp))).trans k10; clear hc11))
    go_wp2
    go_ret
    exact ⟨rfl, QW11.out⟩
  · have hF : Y = X := by have := HSM.out; rw [if_neg (by omega)] at this; exact this
    rw [← hF] at hO6
    have RX := Lib.hid hO6.rd
    have RY := Lib.hid ho6.rd
    have RB := Lib.hid hRD
    have QW := Lib.hid hQ
    have KL := Lib.hid hcL
    have eL : ((c : Int) == (L : Int)) = false := by simp; omega
    clear hF hO6 ho6 hRD hQ
    go_wp2_with fail
    refine (xwidest_any _ (xs ++ [y]) w6 RB.out HXY.out HXYM.out).mono ?_
    rintro e w7 ⟨rfl, hc7⟩
    rw [HB.out]
    have RX7 := Lib.hid (RX.out.kept hc7 (by simp)); have RY7 := Lib.hid (RY.out.kept hc7 (by simp)); have RB7 := Lib.hid (RB.out.kept hc7 (by simp)); have QW7 := Lib.hid (QW.out.trans hc7 (fun _ _ h => h))
    have HG17 := Lib.hid (show g1 < w7.heap.size by have := QW7.out.size; have := HG1.out; omega)
    have k7 : w7.cell? ⟨g1, o1 + n, none⟩ = some (.int .u8 (L : Int)) := by rw [World.cell?_of_block (hc7.block g1 (by have := QW.out.size; have := HG1.out; omega) (by simp))]; exact KL.out
    clear RX RY RB QW KL hc7 hcL hcy hfy
    have d1 : A ≤ B := HAB.out
    have d2 : (B : Int) ≤ (A : Int) + 1 := by have := HBA.out; omega
    go_wp2_with fail
    go_region_held3 (fun W => W.cell? ⟨g1, o1 + n, none⟩ = some (.int .u8 (L : Int))) (first | assumption | (dsimp only; assumption)) (first
      | (go_at_call 11; refine (ints_c _ _ Y Y w7.drew RX7.out RY7.out (by rw [HYL.out]; omega) (by rw [HYL.out]; omega)).mono ?_; rintro e w8 ⟨rfl, hc8⟩; rw [decide_eq_true rfl]; have RB8 := Lib.hid (RdB.kept (w := w7.drew) RB7.out hc8 (by simp)); have QW8 := Lib.hid (QW7.out.drew.trans hc8 (fun _ _ h => h)); have k8 : w8.cell? ⟨g1, o1 + n, none⟩ = some (.int .u8 (L : Int)) := (World.cell?_of_block (hc8.block g1 HG17.out (by simp))).trans k7; clear hc8)
      | (go_at_call 16; refine (xwidest_any _ xs w8 (H.out.kept QW8.out (by simp)) HX.out HXM.out).mono ?_; rintro e w9 ⟨rfl, hc9⟩; rw [HA.out]; have RB9 := Lib.hid (RB8.out.kept hc9 (by simp)); have QW9 := Lib.hid (QW8.out.trans hc9 (fun _ _ h => h)); have k9 : w9.cell? ⟨g1, o1 + n, none⟩ = some (.int .u8 (L : Int)) := (World.cell?_of_block (hc9.block g1 (block_lt_of_cell k8) (by simp))).trans k8; clear hc9)
      | (go_at_call 16; refine (xwidest_any _ xs w9 (H.out.kept QW9.out (by simp)) HX.out HXM.out).mono ?_; rintro e w10 ⟨rfl, hc10⟩; rw [HA.out]; have RB10 := Lib.hid (RB9.out.kept hc10 (by simp)); have QW10 := Lib.hid (QW9.out.trans hc10 (fun _ _ h => h)); have k10 : w10.cell? ⟨g1, o1 + n, none⟩ = some (.int .u8 (L : Int)) := (World.cell?_of_block (hc10.block g1 (block_lt_of_cell k9) (by simp))).trans k9; clear hc10)
      | (go_at_call 9; refine (xat_c _ (xs ++ [y]) _ w10 RB10.out HXY.out HXYL.out (by omega)).mono ?_; rintro e w11 ⟨rfl, hc11⟩; rw [HAT.out]; have QW11 := Lib.hid (QW10.out.trans hc11 (fun _ _ h => h)); have k11 : w11.cell? ⟨g1, o1 + n, none⟩ = some (.int .u8 (L : Int)) := (World.cell?_of_block (hc11.block g1 (block_lt_of_cell k10) (by simp))).trans k10; clear hc11))
    go_wp2
    go_ret
    exact ⟨rfl, QW11.out⟩

end Go.Proofs.Ytjddaneafmdeeaa
