/- The walk of BitwSplits. -/
import Derived.Test.YtoajgiefjkibeaaBwMany
import Derived.Test.YtoajgiefjkibeaaBwMark
namespace Go.Proofs.Ytoajgiefjkibeaa
open Go.RowKit

theorem div_bd (u m : Nat) (hu : u < 4294967296) : 0 ≤ (u : Int) / 2 ^ m ∧ (u : Int) / 2 ^ m < 4294967296 ∧ ((u : Int) / 2 ^ m).toNat = u / 2 ^ m := by
  have e : ((u : Int) / 2 ^ m) = ((u / 2 ^ m : Nat) : Int) := by simp
  have h := Nat.div_le_self u (2 ^ m)
  rw [e]
  generalize u / 2 ^ m = y at *
  omega

theorem bits_xor_nat (k : IntKind) (hk : ∀ n : Int, 0 ≤ n → n < 2 ^ k.bits → k.wrap n = n) (a b : Nat) (ha : a < 2 ^ k.bits) (hb : b < 2 ^ k.bits) : bits .xor k a b = ((a ^^^ b : Nat) : Int) := by
  simp only [bits, BitVec.ofInt_natCast, BitVec.toNat_xor, BitVec.toNat_ofNat, Nat.mod_eq_of_lt ha, Nat.mod_eq_of_lt hb]
  exact hk _ (Int.natCast_nonneg _) (by exact_mod_cast Nat.xor_lt_two_pow ha hb)

theorem xor_low (u x k : Nat) (hu : u < 4294967296) (_hk : k ≤ 24) : bitsOf (bits BinOp.xor IntKind.u32 (u : Int) ((x : Int) * 2 ^ k % 4294967296)).toNat k = bitsOf u k := by
  have e : ((x : Int) * 2 ^ k % 4294967296) = ((x * 2 ^ k % 2 ^ 32 : Nat) : Int) := by simp
  rw [e, bits_xor_nat .u32 wraps_u32 u _ (by simpa [IntKind.bits] using hu) (by have := Nat.mod_lt (x * 2 ^ k) (show 2 ^ 32 > 0 by decide); simpa [IntKind.bits] using this), Int.toNat_natCast]
  refine bitsOf_congr _ _ _ fun i hi => ?_
  have h1 := Nat.testBit_xor u (x * 2 ^ k % 2 ^ 32) i
  have h2 : (x * 2 ^ k % 2 ^ 32).testBit i = false := by
    rw [Nat.testBit_mod_two_pow, ← Nat.shiftLeft_eq, Nat.testBit_shiftLeft]
    simp; omega
  rw [h2, Bool.xor_false, Nat.testBit_eq_decide_div_mod_eq, Nat.testBit_eq_decide_div_mod_eq] at h1
  have := Bool.eq_iff_iff.1 h1
  simp at this
  generalize (u ^^^ x * 2 ^ k % 2 ^ 32) / 2 ^ i = p at *
  generalize u / 2 ^ i = q at *
  omega

set_option maxHeartbeats 2000000 in
set_option maxRecDepth 100000 in
theorem splits_any (v : Value) (ps : List (Nat × Int)) (u n c x : Nat) (w : World) (h : RdP w v ps) (hu : u < 4294967296) (hn : n < 256) (hc : c < 256) (_hx : x < 4294967296) :
    Calls Try.prog 5 #[v, .int .u32 (u : Int), .int .u8 (n : Int), .int .u8 (c : Int), .int .u32 (x : Int)] w fun e w' => Says w e w' := by
  obtain ⟨ao, cap, hv, hao⟩ := h.form
  subst hv
  clear hao
  by_cases hbig : 60 < ps.length
  · go_enter Try.func5, Try.ntmps5
    go_wp2_with fail
    refine (awake_any w).mono ?_
    rintro e w1 ⟨rfl, hc1⟩
    go_wp2
    go_ret
    exact ⟨rfl, hc1⟩
  · have hpl := putAll_length [] ps
    have hl : (putAll [] ps).length < 1000000 := by simp at hpl; omega
    clear hpl
    obtain ⟨k, hk, hk24⟩ : ∃ k : Nat, (n : Int) % 25 = (k : Int) ∧ k ≤ 24 := ⟨n % 25, by omega, by omega⟩
    obtain ⟨m, hm, hmk⟩ : ∃ m : Nat, (c : Int) % ((k : Int) + 1) = (m : Int) ∧ m ≤ k := ⟨c % (k + 1), by simp, by have := Nat.mod_lt c (show k + 1 > 0 by omega); omega⟩
    go_enter Try.func5, Try.ntmps5
    go_wp2_with fail
    refine (awake_any w).mono ?_
    rintro e w1 ⟨rfl, hc1⟩
    have h1 := h.kept hc1 (fun _ _ => by simp)
    go_wp2_with fail
    refine (lput_foot _ ps w1 h1 (by omega)).mono ?_
    rintro e w2 ⟨rfl, ox, hx2, ax, hc2⟩
    have h2 := h1.kept hc2 (fun _ _ => by simp)
    go_wp2_with fail
    refine (lput_foot _ ps w2 h2 (by omega)).mono ?_
    rintro e w3 ⟨rfl, oy, hy3, ay, hc3⟩
    have hx3 := hx2.kept hc3 (by simp) (by simp)
    have dxy := Dj.of_above hx2 ay
    have h3 := h2.kept hc3 (fun _ _ => by simp)
    go_wp2_with fail
    refine (lput_foot _ ps w3 h3 (by omega)).mono ?_
    rintro e w4 ⟨rfl, oz, hz4, az, hc4⟩
    have hx4 := hx3.kept hc4 (by simp) (by simp)
    have hy4 := hy3.kept hc4 (by simp) (by simp)
    have dxz := Dj.of_above hx3 az
    have dyz := Dj.of_above hy3 az
    have z1 := hc1.size; have z2 := hc2.size; have z3 := hc3.size; have z4 := hc4.size
    have ax' := ax.mono (B' := w.heap.size) (by omega)
    have ay' := ay.mono (B' := w.heap.size) (by omega)
    have az' := az.mono (B' := w.heap.size) (by omega)
    have hc4' := ((hc1.next hc2).next hc3).next hc4
    clear hc1 hc2 hc3 hc4 h h1 h2 h3 hx2 hx3 hy3 ax ay az
    generalize hbs : putAll [] ps = bs at *
    clear hbs
    have Hax := Lib.hid ax'; have Hay := Lib.hid ay'; have Haz := Lib.hid az'; have Hxy := Lib.hid dxy; have Hxz := Lib.hid dxz; have Hyz := Lib.hid dyz
    clear ax' ay' az' dxy dxz dyz
    go_wp2_with fail
    refine (put_in w1.heap.size ox bs (u : Int) (k : Int) w4 hx4 (by omega) (by omega) (by omega) (by omega) (by omega)).mono ?_
    rintro e w5 ⟨rfl, ox1, hx5, hc5, hox⟩
    have hy5 := Hxy.out.keep hy4 hc5
    have hz5 := Hxz.out.keep hz4 hc5
    have Hxy := Lib.hid (Hxy.out.step hy4 hox)
    have Hxz := Lib.hid (Hxz.out.step hz4 hox)
    have z5 := hc5.size
    have hc5' := hc4'.up hc5 Hax.out
    have Hax := Lib.hid (Hax.out.step (w := w4) (by omega) hox)
    clear hx4 hy4 hz4 hc5 hc4' hox
    go_wp2_with fail
    refine (put_in w2.heap.size oy bs (u : Int) (m : Int) w5 hy5 (by omega) (by omega) (by omega) (by omega) (by omega)).mono ?_
    rintro e w6 ⟨rfl, oy1, hy6, hc6, hoy⟩
    have hx6 := Hxy.out.symm.keep hx5 hc6
    have hz6 := Hyz.out.keep hz5 hc6
    have Hxy := Lib.hid (Hxy.out.symm.step hx5 hoy).symm
    have Hyz := Lib.hid (Hyz.out.step hz5 hoy)
    have z6 := hc6.size
    have hc6' := hc5'.up hc6 Hay.out
    have Hay := Lib.hid (Hay.out.step (w := w5) (by omega) hoy)
    clear hx5 hy5 hz5 hc6 hc5' hoy
    rw [Int.toNat_natCast, Int.toNat_natCast] at hx6 hy6
    go_wp2_with fail
    refine (put_in w2.heap.size oy1 (bs ++ bitsOf u m) ((u : Int) / 2 ^ m) ((k : Int) - (m : Int)) w6 hy6 (by simp [bitsOf_length]; omega) (div_bd u m hu).1 (div_bd u m hu).2.1 (by omega) (by omega)).mono ?_
    rintro e w7 ⟨rfl, oy2, hy7, hc7, hoy⟩
    rw [(div_bd u m hu).2.2, show ((k : Int) - (m : Int)).toNat = k - m from by omega, List.append_assoc, ← bitsOf_split u k m hmk] at hy7
    have hx7 := Hxy.out.symm.keep hx6 hc7
    have hz7 := Hyz.out.keep hz6 hc7
    have Hxy := Lib.hid (Hxy.out.symm.step hx6 hoy).symm
    have Hyz := Lib.hid (Hyz.out.step hz6 hoy)
    have z7 := hc7.size
    have hc7' := hc6'.up hc7 Hay.out
    have Hay := Lib.hid (Hay.out.step (w := w6) (by omega) hoy)
    clear hx6 hy6 hz6 hc7 hc6' hoy
    go_wp2_with fail
    refine (put_in w3.heap.size oz bs (bits BinOp.xor IntKind.u32 (u : Int) ((x : Int) * 2 ^ k % 4294967296)) (k : Int) w7 hz7 (by omega) (bits_lo_u32 _ _ _) (by have := bits_hi_u32 .xor (u : Int) ((x : Int) * 2 ^ k % 4294967296); omega) (by omega) (by omega)).mono ?_
    rintro e w8 ⟨rfl, oz1, hz8, hc8, hoz⟩
    rw [Int.toNat_natCast, xor_low u x k hu hk24] at hz8
    have hx8 := Hxz.out.symm.keep hx7 hc8
    have hy8 := Hyz.out.symm.keep hy7 hc8
    have hc8' := hc7'.up hc8 Haz.out
    clear hx7 hy7 hz7 hc8 hc7' hoz Hxy Hxz Hyz Hax Hay Haz
    generalize hbt : bs ++ bitsOf u k = bt at *
    have hbl : bt.length < 2000000 := by rw [← hbt]; simp [bitsOf_length]; omega
    clear hbt
    go_wp2_with fail
    refine (close_any w1.heap.size ox1 bt w8 hx8 (by omega)).mono ?_
    rintro e w9 ⟨g9, cap9, rfl, r9, hc9⟩
    have hx9 := hx8.kept hc9 (by simp) (by simp); have hy9 := hy8.kept hc9 (by simp) (by simp); have hz9 := hz8.kept hc9 (by simp) (by simp)
    have hc9' := hc8'.next hc9
    have r9' := RdB.of_own r9
    clear hx8 hy8 hz8 hc9 hc8' r9
    go_wp2_with fail
    refine (close_any w2.heap.size oy2 bt w9 hy9 (by omega)).mono ?_
    rintro e w10 ⟨g10, cap10, rfl, r10, hc10⟩
    have hx10 := hx9.kept hc10 (by simp) (by simp); have hz10 := hz9.kept hc10 (by simp) (by simp)
    have hc10' := hc9'.next hc10
    have r9 := r9'.kept hc10 (by simp)
    have r10' := RdB.of_own r10
    clear hx9 hy9 hz9 hc10 hc9' r10 r9'
    go_wp2_with fail
    refine (same_any _ _ _ _ w10 r9 r10' (pack_lt _) (pack_lt _)).mono ?_
    rintro e w11 ⟨rfl, rfl⟩
    rw [show decide (pack (bt ++ [true]) = pack (bt ++ [true])) = true from decide_eq_true rfl]
    clear r9 r10'
    go_wp2_with fail
    refine (close_any w1.heap.size ox1 bt w10 hx10 (by omega)).mono ?_
    rintro e w12 ⟨g12, cap12, rfl, r12, hc12⟩
    have hz12 := hz10.kept hc12 (by simp) (by simp)
    have hc12' := hc10'.next hc12
    have r12' := RdB.of_own r12
    clear hx10 hz10 hc12 hc10' r12
    go_wp2_with fail
    refine (close_any w3.heap.size oz1 bt w12 hz12 (by omega)).mono ?_
    rintro e w13 ⟨g13, cap13, rfl, r13, hc13⟩
    have hc13' := hc12'.next hc13
    have r12 := r12'.kept hc13 (by simp)
    have r13' := RdB.of_own r13
    clear hz12 hc13 hc12' r13 r12'
    go_wp2_with fail
    refine (same_any _ _ _ _ w13 r12 r13' (pack_lt _) (pack_lt _)).mono ?_
    rintro e w14 ⟨rfl, rfl⟩
    rw [show decide (pack (bt ++ [true]) = pack (bt ++ [true])) = true from decide_eq_true rfl]
    clear r12 r13'
    go_wp2
    go_ret
    exact ⟨rfl, hc13'⟩

end Go.Proofs.Ytoajgiefjkibeaa
