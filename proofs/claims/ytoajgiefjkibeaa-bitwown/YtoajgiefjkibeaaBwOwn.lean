/- The walk of BitwOwn. -/
import Derived.Test.YtoajgiefjkibeaaBwMany
import Derived.Test.YtoajgiefjkibeaaBwMark
namespace Go.Proofs.Ytoajgiefjkibeaa
open Go.RowKit

/-- one store into a row of bytes -/
theorem own_store {w : World} {base g n cap : Nat} {ys : List Nat} (h : w.ownsRow base 5 1 (.slice (some ⟨g, 0, none⟩) n cap) n (bv ys)) (j : Nat) (x : Int) (hx : 0 ≤ x) :
    ∃ ys', (w.setCell ⟨g, j, none⟩ (.int .u8 x)).ownsRow base 5 1 (.slice (some ⟨g, 0, none⟩) n cap) n (bv ys') := by
  obtain ⟨u, rfl⟩ := Int.eq_ofNat_of_zero_le hx
  have hs := (h.stored j (.int .u8 (u : Int))).1
  rw [bv_set] at hs
  exact ⟨_, hs⟩

set_option maxHeartbeats 2000000 in
set_option maxRecDepth 100000 in
theorem own_any (v : Value) (ps : List (Nat × Int)) (u : Nat) (w : World) (h : RdP w v ps) (_hu : u < 256) :
    Calls Try.prog 6 #[v, .int .u8 (u : Int)] w fun e w' => Says w e w' := by
  obtain ⟨ao, cap, hv, hao⟩ := h.form
  subst hv
  clear hao
  by_cases hbig : 60 < ps.length
  · go_enter Try.func6, Try.ntmps6
    go_wp2_with fail
    refine (awake_any w).mono ?_
    rintro e w1 ⟨rfl, hc1⟩
    go_wp2
    go_ret
    exact ⟨rfl, hc1⟩
  · have hpl := putAll_length [] ps
    have hl : (putAll [] ps).length < 1000000 := by simp at hpl; omega
    have hd : decide (60 < (ps.length : Int)) = false := by simp; omega
    clear hpl
    go_enter Try.func6, Try.ntmps6
    go_wp2_with fail
    refine (awake_any w).mono ?_
    rintro e w1 ⟨rfl, hc1⟩
    have h1 := h.kept hc1 (fun _ _ => by simp)
    go_wp2_with fail
    refine (lput_foot _ ps w1 h1 (by omega)).mono ?_
    rintro e w2 ⟨rfl, ox, hx2, ax, hc2⟩
    have h2 := h1.kept hc2 (fun _ _ => by simp)
    go_wp2_with fail
    refine (lput_foot _ ps w2 h2 (by omega)).mono ?_
    rintro e w3 ⟨rfl, oy, hy3, ay, hc3⟩
    have hx3 := hx2.kept hc3 (by simp) (by simp)
    have dxy := Dj.of_above hx2 ay
    have z1 := hc1.size; have z2 := hc2.size; have z3 := hc3.size
    have ax' := ax.mono (B' := w.heap.size) (by omega)
    have ay' := ay.mono (B' := w.heap.size) (by omega)
    have hc3' := (hc1.next hc2).next hc3
    clear hc1 hc2 hc3 h h1 h2 hx2 ax ay
    generalize hbs : putAll [] ps = bs at *
    clear hbs
    have Hax := Lib.hid ax'; have Hay := Lib.hid ay'; have Hxy := Lib.hid dxy
    clear ax' ay' dxy
    have Hlx := Lib.hid hx3.lt; have Hly := Lib.hid hy3.lt
    have hp4 : (pack bs).length < 1000000 := by rw [pack_length]; omega
    have hp5 : (pack (bs ++ [true])).length < 1000000 := by rw [pack_length]; simp; omega
    go_wp2_with fail
    refine (bytes_any w1.heap.size ox bs w3 hx3 (by omega)).mono ?_
    rintro e w4 ⟨g4, cap4, rfl, r4, hc4⟩
    have hx4 := hx3.kept hc4 (by simp) (by simp); have hy4 := hy3.kept hc4 (by simp) (by simp)
    have hc4' := hc3'.next hc4
    have b4 := (r4.lt g4 rfl)
    have z4 := hc4.size
    clear hx3 hy3 hc4 hc3'
    go_wp2_with fail
    refine (close_any w1.heap.size ox bs w4 hx4 (by omega)).mono ?_
    rintro e w5 ⟨g5, cap5, rfl, r5, hc5⟩
    have hx5 := hx4.kept hc5 (by simp) (by simp); have hy5 := hy4.kept hc5 (by simp) (by simp)
    have hc5' := hc4'.next hc5
    have r4' := hc5.own r4 (fun _ _ => by simp)
    have b5 := (r5.lt g5 rfl)
    have z5 := hc5.size
    clear hx4 hy4 hc5 hc4' r4
    generalize pack bs = p4 at *
    generalize pack (bs ++ [true]) = p5 at *
    go_wp2
    go_loopw [10] (fun i wr => ∃ (k : Nat) (ys : List Nat), k ≤ p4.length ∧ i = .int .i64 (k : Int) ∧ wr.ownsRow w3.heap.size 5 1 (.slice (some ⟨g4, 0, none⟩) p4.length cap4) p4.length (bv ys) ∧ Chg (fun j => j = g4) w5 wr) (fun i _ => p4.length - (intOf i).toNat)
    case atStart => exact ⟨0, p4, Nat.zero_le _, rfl, r4', Chg.refl _ _⟩
    case round =>
      obtain ⟨k, ys, hk, rfl, hown, hcr⟩ := hrel
      by_cases hlt : k < p4.length
      · have hyl : ys.length = p4.length := by have := hown.1; simpa [bv] using this
        have hcell := hown.cellAt k (by omega)
        rw [bv_get ys k (by omega)] at hcell
        have hfr := hown.frozenAt k
        generalize ys.getD k 0 = y at *
        have Hyl := Lib.hid hyl
        obtain ⟨ys', hs⟩ := own_store hown k (bits BinOp.xor IntKind.u8 (y : Int) (u : Int)) (bits_lo_u8 _ _ _)
        have hc' : Chg (fun j => j = g4) w5 (wr.setCell ⟨g4, k, none⟩ (.int .u8 (bits BinOp.xor IntKind.u8 (y : Int) (u : Int)))) := hcr.trans (Chg.setCell wr ⟨g4, k, none⟩ _) (fun _ _ h => h)
        have HS := Lib.hid hs; have HC := Lib.hid hc'
        clear hyl hs hc'
        go_wp2
        go_roundw
        case rel => exact ⟨k + 1, ys', by omega, by go_num, HS.out, HC.out⟩
        case measure => simp [intOf]; omega
      · obtain ⟨w6, rfl⟩ : ∃ w6 : World, w6 = wr := ⟨_, rfl⟩
        have hx6 := hx5.kept hcr (by have := Hlx.out.1; omega) (fun j hj => by have := (Hlx.out.2 j hj).2; omega)
        have hy6 := hy5.kept hcr (by have := Hly.out.1; omega) (fun j hj => by have := (Hly.out.2 j hj).2; omega)
        have r6 := hcr.own r5 (fun j hj => by simp [Value.ownBlock] at hj; omega)
        have hc6' : Chg (fun _ => False) w w6 := hc5'.trans hcr (fun j hj h => by omega)
        have z6 := hcr.size
        clear hx5 hy5 r5 hcr hown r4' hc5'
        go_wp2
        go_loopw [11] (fun i wr => ∃ (k : Nat) (ys : List Nat), k ≤ p5.length ∧ i = .int .i64 (k : Int) ∧ wr.ownsRow w4.heap.size 5 1 (.slice (some ⟨g5, 0, none⟩) p5.length cap5) p5.length (bv ys) ∧ Chg (fun j => j = g5) w6 wr) (fun i _ => p5.length - (intOf i).toNat)
        case atStart => exact ⟨0, p5, Nat.zero_le _, rfl, r6, Chg.refl _ _⟩
        case round =>
          obtain ⟨k2, ys, hk2, rfl, hown, hcr⟩ := hrel
          by_cases hlt : k2 < p5.length
          · have hyl : ys.length = p5.length := by have := hown.1; simpa [bv] using this
            have hcell := hown.cellAt k2 (by omega)
            rw [bv_get ys k2 (by omega)] at hcell
            have hfr := hown.frozenAt k2
            generalize ys.getD k2 0 = y at *
            have Hyl := Lib.hid hyl
            obtain ⟨ys', hs⟩ := own_store hown k2 (bits BinOp.xor IntKind.u8 (y : Int) (u : Int)) (bits_lo_u8 _ _ _)
            have hc' : Chg (fun j => j = g5) w6 (wr.setCell ⟨g5, k2, none⟩ (.int .u8 (bits BinOp.xor IntKind.u8 (y : Int) (u : Int)))) := hcr.trans (Chg.setCell wr ⟨g5, k2, none⟩ _) (fun _ _ h => h)
            have HS := Lib.hid hs; have HC := Lib.hid hc'
            clear hyl hs hc'
            go_wp2
            go_roundw
            case rel => exact ⟨k2 + 1, ys', by omega, by go_num, HS.out, HC.out⟩
            case measure => simp [intOf]; omega
          · have hx7 := hx6.kept hcr (by have := Hlx.out.1; omega) (fun j hj => by have := (Hlx.out.2 j hj).2; omega)
            have hy7 := hy6.kept hcr (by have := Hly.out.1; omega) (fun j hj => by have := (Hly.out.2 j hj).2; omega)
            have hc7' : Chg (fun _ => False) w wr := hc6'.trans hcr (fun j hj h => by omega)
            have z7 := hcr.size
            clear hx6 hy6 hcr hown r6 hc6'
            go_wp2_with fail
            refine (put_in w1.heap.size ox bs 9 5 wr hx7 (by omega) (by decide) (by decide) (by decide) (by decide)).mono ?_
            rintro e w8 ⟨rfl, ox1, hx8, hc8, hox⟩
            have hy8 := Hxy.out.keep hy7 hc8
            have Hxy := Lib.hid (Hxy.out.step hy7 hox)
            have z8 := hc8.size
            have hc8' := hc7'.up hc8 Hax.out
            clear hx7 hy7 hc8 hc7' hox
            go_wp2_with fail
            refine (put_in w2.heap.size oy bs 9 5 w8 hy8 (by omega) (by decide) (by decide) (by decide) (by decide)).mono ?_
            rintro e w9 ⟨rfl, oy1, hy9, hc9, hoy⟩
            have hx9 := Hxy.out.symm.keep hx8 hc9
            have hc9' := hc8'.up hc9 Hay.out
            clear hx8 hy8 hc9 hc8' hoy
            generalize hbt : bs ++ bitsOf (9 : Int).toNat (5 : Int).toNat = bt at *
            have hbl : bt.length < 2000000 := by rw [← hbt]; simp [bitsOf_length]; omega
            clear hbt
            go_wp2_with fail
            refine (close_any w1.heap.size ox1 bt w9 hx9 (by omega)).mono ?_
            rintro e w10 ⟨g10, cap10, rfl, r10, hc10⟩
            have hx10 := hx9.kept hc10 (by simp) (by simp); have hy10 := hy9.kept hc10 (by simp) (by simp)
            have hc10' := hc9'.next hc10
            have r10' := RdB.of_own r10
            clear hx9 hy9 hc10 hc9' r10
            go_wp2_with fail
            refine (close_any w2.heap.size oy1 bt w10 hy10 (by omega)).mono ?_
            rintro e w11 ⟨g11, cap11, rfl, r11, hc11⟩
            have hx11 := hx10.kept hc11 (by simp) (by simp); have hy11 := hy10.kept hc11 (by simp) (by simp)
            have hc11' := hc10'.next hc11
            have r10 := r10'.kept hc11 (by simp)
            have r11' := RdB.of_own r11
            clear hx10 hy10 hc11 hc10' r11 r10'
            go_wp2_with fail
            refine (same_any _ _ _ _ w11 r10 r11' (pack_lt _) (pack_lt _)).mono ?_
            rintro e w12 ⟨rfl, rfl⟩
            rw [show decide (pack (bt ++ [true]) = pack (bt ++ [true])) = true from decide_eq_true rfl]
            clear r10 r11'
            go_wp2_with fail
            refine (bytes_any w1.heap.size ox1 bt w11 hx11 (by omega)).mono ?_
            rintro e w13 ⟨g13, cap13, rfl, r13, hc13⟩
            have hy13 := hy11.kept hc13 (by simp) (by simp)
            have hc13' := hc11'.next hc13
            have r13' := RdB.of_own r13
            clear hx11 hy11 hc13 hc11' r13
            go_wp2_with fail
            refine (bytes_any w2.heap.size oy1 bt w13 hy13 (by omega)).mono ?_
            rintro e w14 ⟨g14, cap14, rfl, r14, hc14⟩
            have hc14' := hc13'.next hc14
            have r13 := r13'.kept hc14 (by simp)
            have r14' := RdB.of_own r14
            clear hy13 hc14 hc13' r14 r13'
            go_wp2_with fail
            refine (same_any _ _ _ _ w14 r13 r14' (pack_lt _) (pack_lt _)).mono ?_
            rintro e w15 ⟨rfl, rfl⟩
            rw [show decide (pack bt = pack bt) = true from decide_eq_true rfl]
            clear r13 r14'
            go_wp2
            go_ret
            exact ⟨rfl, hc14'⟩

end Go.Proofs.Ytoajgiefjkibeaa
