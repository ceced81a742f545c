/- A bitr.Reader in memory; what bitr's Len8, bitAt, markAt, Left do. -/
import Derived.Test.YtdejfoemofhpdaaBwSame
import Derived.Test.YtdejfoemofhpdaaBrMath
import Derived.Laws.MathBits
namespace Go.Proofs.Ytdejfoemofhpdaa
open Go.RowKit

theorem len8_le (x : Nat) (h : x < 256) : len8 x ≤ 8 := bitLen_le8 x h

set_option maxRecDepth 100000 in
set_option maxHeartbeats 400000 in
theorem len8_any (x : Nat) (hx : x < 256) (w : World) : Calls Try.prog 25 #[.int .u8 (x : Int)] w fun e w' => e = .returned (.int .i64 (len8 x : Int)) ∧ w = w' := by
  go_enter Try.func25, Try.ntmps25
  go_wp2
  rw [len8tab_get]
  go_ret
  refine ⟨congrArg (fun z => Ending.returned (Value.int .i64 z)) ?_, rfl⟩
  have := bitLen_le8 x hx
  rw [show wrap64 (bitLen x : Int) = bitLen x from by unfold wrap64; omega]
  rfl

theorem and_one (y : Nat) (hy : y < 4294967296) : bits BinOp.and IntKind.u32 (y : Int) 1 = ((y % 2 : Nat) : Int) := by
  have h := bits_mask .u32 32 (by decide) wraps_u32 1 (by decide) (y : Int) (by omega) (by omega)
  rw [show (1 : Int) = 2 ^ 1 - 1 from by decide, h]
  simp

/-- the value is a slice of bytes in the block g, all of it -/
theorem bitAt_any (g off i cap n x : Nat) (w : World) (hc : w.cell? ⟨g, off + i / 8, none⟩ = some (.int .u8 (x : Int))) (hi : i / 8 < n) (hi2 : i < 1000000000000) (hx : x < 256) :
    Calls Try.prog 21 #[.slice (some ⟨g, off, none⟩) n cap, .int .i64 (i : Int)] w fun e w' => e = .returned (.int .u32 ((x / 2 ^ (i % 8) % 2 : Nat) : Int)) ∧ w' = w := by
  have H := Lib.hid (and_one (x / 2 ^ (i % 8)) (by have := Nat.div_le_self x (2 ^ (i % 8)); omega))
  go_enter Try.func21, Try.ntmps21
  go_wp2
  go_ret
  refine ⟨congrArg (fun z => Ending.returned (Value.int .u32 z)) ?_, rfl⟩
  have e : ((x : Int) / 2 ^ (i % 8) % 4294967296) = ((x / 2 ^ (i % 8) : Nat) : Int) := by
    have e1 : ((x : Int) / 2 ^ (i % 8)) = ((x / 2 ^ (i % 8) : Nat) : Int) := by simp
    have := Nat.div_le_self x (2 ^ (i % 8))
    rw [e1]
    generalize x / 2 ^ (i % 8) = y at *
    omega
  rw [e]; exact H.out

theorem bitAt_y (g off i cap n x y : Nat) (w : World) (hc : w.cell? ⟨g, off + i / 8, none⟩ = some (.int .u8 (x : Int))) (hi : i / 8 < n) (hi2 : i < 1000000000000) (hx : x < 256) (hy : x / 2 ^ (i % 8) % 2 = y) :
    Calls Try.prog 21 #[.slice (some ⟨g, off, none⟩) n cap, .int .i64 (i : Int)] w fun e w' => e = .returned (.int .u32 (y : Int)) ∧ w' = w := by
  rw [← hy]; exact bitAt_any g off i cap n x w hc hi hi2 hx

set_option maxHeartbeats 400000 in
theorem markAt_any (g off n cap x : Nat) (w : World) (hn : 0 < n) (hn2 : n < 100000000000) (hc : w.cell? ⟨g, off + (n - 1), none⟩ = some (.int .u8 (x : Int))) (hx : x < 256) :
    Calls Try.prog 19 #[.slice (some ⟨g, off, none⟩) n cap] w fun e w' => e = .returned (.int .i64 (8 * ((n : Int) - 1) + (len8 x : Int) - 1)) ∧ w' = w := by
  obtain ⟨m, rfl⟩ : ∃ m, n = m + 1 := ⟨n - 1, by omega⟩
  rw [Nat.add_sub_cancel] at hc
  have h8 := len8_le x hx
  go_enter Try.func19, Try.ntmps19
  go_wp2_with fail
  refine (len8_any x hx w).mono ?_
  rintro e w' ⟨rfl, rfl⟩
  go_wp2
  go_ret
  exact ⟨congrArg (fun z => Ending.returned (Value.int .i64 z)) (by omega), rfl⟩

/-- The Reader at block b, its bytes in the block g, has the bits bs. -/
def Rr (w : World) (b g : Nat) (bs : List Bool) : Prop :=
  ∃ xs : List Nat, (∀ x ∈ xs, x < 256) ∧ xs.length < 100000000000 ∧ bs.length ≤ 8 * xs.length ∧ bs = (bitsB xs).take bs.length ∧
    w.heap[b]? = some (.cells #[.slice (some ⟨g, 0, none⟩) xs.length xs.length, .int .i64 (bs.length : Int)] 53 (0, 0)) ∧
    w.heap[g]? = some (.cells (bv xs).toArray 5 (0, 0))

theorem Rr.lt {w : World} {b g : Nat} {bs : List Bool} (h : Rr w b g bs) : b < w.heap.size ∧ g < w.heap.size ∧ b ≠ g := by
  obtain ⟨xs, _, _, _, _, hb, hg⟩ := h
  refine ⟨lt_of_block hb, lt_of_block hg, ?_⟩
  rintro rfl
  rw [hb] at hg
  simp at hg

theorem Rr.kept {S : Nat → Prop} {w w' : World} {b g : Nat} {bs : List Bool} (h : Rr w b g bs) (hc : Chg S w w') (h1 : ¬ S b) (h2 : ¬ S g) : Rr w' b g bs := by
  have hl := h.lt
  obtain ⟨xs, e1, e2, e3, e4, hb, hg⟩ := h
  exact ⟨xs, e1, e2, e3, e4, (hc.block b hl.1 h1).trans hb, (hc.block g hl.2.1 h2).trans hg⟩

theorem row_cells {w : World} {g : Nat} {t : TypeId} {xs : List Nat} (h : w.heap[g]? = some (.cells (bv xs).toArray t (0, 0))) (j : Nat) (hj : j < xs.length) : w.cell? ⟨g, j, none⟩ = some (.int .u8 ((xs.getD j 0 : Nat) : Int)) := by
  rw [cell_of_row w g j _ t _ h, List.getElem?_toArray, bv_get xs j hj]

theorem left_any (b g : Nat) (bs : List Bool) (w : World) (h : Rr w b g bs) :
    Calls Try.prog 13 #[.pointer (some ⟨b, 0, none⟩)] w fun e w' => e = .returned (.int .i64 (bs.length : Int)) ∧ w = w' := by
  obtain ⟨xs, -, -, -, -, hb, -⟩ := h
  obtain ⟨c0, c1, f0, f1⟩ := cells2 hb
  clear hb
  go_enter Try.func13, Try.ntmps13
  go_wp2
  go_ret
  exact ⟨rfl, rfl⟩

set_option maxHeartbeats 400000 in
theorem take_no (b g : Nat) (bs : List Bool) (n : Int) (w : World) (h : Rr w b g bs) (hn : n < 0 ∨ 24 < n ∨ (bs.length : Int) < n) :
    Calls Try.prog 11 #[.pointer (some ⟨b, 0, none⟩), .int .i64 n] w fun e w' => e = .returned (.tuple #[.int .u32 0, .bool false]) ∧ w = w' := by
  obtain ⟨xs, -, -, -, -, hb, -⟩ := h
  obtain ⟨c0, c1, f0, f1⟩ := cells2 hb
  clear hb
  by_cases h0 : n < 0
  · have h0' : decide (n < 0) = true := by simpa using h0
    go_enter Try.func11, Try.ntmps11
    go_wp2
    go_ret2
    exact ⟨rfl, rfl⟩
  · have h0' : decide (n < 0) = false := by simpa using h0
    by_cases h1 : 24 < n
    · have h1' : decide (24 < n) = true := by simpa using h1
      go_enter Try.func11, Try.ntmps11
      go_wp2
      go_ret2
      exact ⟨rfl, rfl⟩
    · have h1' : decide (24 < n) = false := by simpa using h1
      have h2' : decide ((bs.length : Int) < n) = true := by simp; omega
      go_enter Try.func11, Try.ntmps11
      go_wp2
      go_ret2
      exact ⟨rfl, rfl⟩

theorem bits_or_nat (k : IntKind) (hk : ∀ n : Int, 0 ≤ n → n < 2 ^ k.bits → k.wrap n = n) (a b : Nat) (ha : a < 2 ^ k.bits) (hb : b < 2 ^ k.bits) : bits .or k a b = ((a ||| b : Nat) : Int) := by
  simp only [bits, BitVec.ofInt_natCast, BitVec.toNat_or, BitVec.toNat_ofNat, Nat.mod_eq_of_lt ha, Nat.mod_eq_of_lt hb]
  exact hk _ (Int.natCast_nonneg _) (by exact_mod_cast Nat.or_lt_two_pow ha hb)

theorem or_shift (v i y : Nat) (hv : v < 2 ^ i) (hi : i ≤ 24) (hy : y < 2) : bits .or .u32 (v : Int) ((y : Int) * 2 ^ i % 4294967296) = ((v + y * 2 ^ i : Nat) : Int) := by
  have hp : 2 ^ i ≤ 2 ^ 24 := Nat.pow_le_pow_right (by omega) hi
  have hlt : y * 2 ^ i ≤ 2 ^ 24 := by
    have : y * 2 ^ i ≤ 1 * 2 ^ i := Nat.mul_le_mul_right _ (by omega)
    omega
  have e : ((y : Int) * 2 ^ i % 4294967296) = ((y * 2 ^ i : Nat) : Int) := by
    have e1 : ((y : Int) * 2 ^ i) = ((y * 2 ^ i : Nat) : Int) := by simp
    rw [e1]
    generalize y * 2 ^ i = z at *
    omega
  rw [e, bits_or_nat .u32 wraps_u32 v _ (by simp only [IntKind.bits]; omega) (by simp only [IntKind.bits]; omega)]
  congr 1
  have := Nat.two_pow_add_eq_or_of_lt hv y
  rw [Nat.or_comm, Nat.mul_comm y, ← this, Nat.add_comm]

theorem val_take_succ (D : List Bool) (i : Nat) (h : i < D.length) : val (D.take (i + 1)) = val (D.take i) + (D[i]).toNat * 2 ^ i := by
  rw [List.take_succ_eq_append_getElem h, val_append]
  simp only [val, List.length_take, Nat.min_eq_left (Nat.le_of_lt h)]
  simp [Nat.mul_comm]

theorem val_take_lt (D : List Bool) (i : Nat) : val (D.take i) < 2 ^ i := by
  have h := val_lt (D.take i)
  have h2 : 2 ^ (D.take i).length ≤ 2 ^ i := Nat.pow_le_pow_right (by omega) (List.length_take_le _ _)
  omega

theorem toNat_bit (y : Nat) (b : Bool) (h : b = decide (y % 2 = 1)) : y % 2 = b.toNat := by
  subst h
  have := Nat.mod_two_eq_zero_or_one y
  rcases this with h | h <;> simp [h]

set_option maxHeartbeats 1000000 in
theorem take_yes (b g : Nat) (bs : List Bool) (n : Nat) (w : World) (h : Rr w b g bs) (hn : n ≤ 24) (hnl : n ≤ bs.length) :
    Calls Try.prog 11 #[.pointer (some ⟨b, 0, none⟩), .int .i64 (n : Int)] w fun e w' => e = .returned (.tuple #[.int .u32 ((takeV bs n : Nat) : Int), .bool true]) ∧ Rr w' b g (takeR bs n) ∧ Chg (fun k => k = b) w w' := by
  have hl := h.lt
  obtain ⟨xs, hx, hxl, hle, hbs, hb, hg⟩ := h
  obtain ⟨c0, c1, f0, f1⟩ := cells2 hb
  have h0' : decide ((n : Int) < 0) = false := by simp
  have h1' : decide (24 < (n : Int)) = false := by simp; omega
  have h2' : decide ((bs.length : Int) < (n : Int)) = false := by simp; omega
  obtain ⟨m, hm⟩ : ∃ m, bs.length = m + n := ⟨bs.length - n, by omega⟩
  have hb1 := set2_1 (u := .int .i64 ((bs.length : Int) - (n : Int))) hb
  have hg1 : (w.setCell ⟨b, 1, none⟩ (.int .i64 ((bs.length : Int) - (n : Int)))).heap[g]? = some (.cells (bv xs).toArray 5 (0, 0)) := by
    rw [heap_setCell_other w ⟨b, 1, none⟩ g _ (fun h => hl.2.2 h.symm)]; exact hg
  have hc1 := Chg.setCell w ⟨b, 1, none⟩ (.int .i64 ((bs.length : Int) - (n : Int)))
  have HB1 := Lib.hid hb1; have HG1 := Lib.hid hg1; have HC1 := Lib.hid hc1; have HBS := Lib.hid hbs; have HM := Lib.hid hm
  have hbit : ∀ i, i < n → ∃ hi : i < (bs.drop m).length, (bs.drop m)[i] = decide (xs.getD ((m + i) / 8) 0 / 2 ^ ((m + i) % 8) % 2 = 1) := by
    intro i hi
    refine ⟨by rw [List.length_drop]; omega, ?_⟩
    have e1 : bs[m + i]? = some (decide (xs.getD ((m + i) / 8) 0 / 2 ^ ((m + i) % 8) % 2 = 1)) := by
      rw [hbs, List.getElem?_take, if_pos (by omega), bitsB_get _ _ (by omega)]
    rw [List.getElem?_eq_getElem (by omega)] at e1
    rw [List.getElem_drop]
    exact Option.some.inj e1
  have HBIT := Lib.hid hbit
  have HFIN : Hid (val ((bs.drop m).take n) = takeV bs n) := by
    refine Lib.hid ?_
    rw [show (bs.drop m).take n = bs.drop m from List.take_of_length_le (by rw [List.length_drop]; omega)]
    unfold takeV
    rw [show bs.length - n = m from by omega]
  have HTR : Hid (takeR bs n = (bitsB xs).take m) := by
    refine Lib.hid ?_
    unfold takeR
    rw [show bs.length - n = m from by omega]
    conv => lhs; rw [hbs]
    rw [List.take_take, Nat.min_eq_left (by omega)]
  clear hb1 hg1 hc1 hb hg hbs hm hbit
  go_enter Try.func11, Try.ntmps11
  go_wp2
  generalize w.setCell ⟨b, 1, none⟩ (.int .i64 ((bs.length : Int) - (n : Int))) = w1 at *
  go_loopw [6, 31] (fun o6 o31 wr => ∃ k : Nat, k ≤ n ∧ o31 = .int .i64 (k : Int) ∧ o6 = .int .u32 ((val ((bs.drop m).take k) : Nat) : Int) ∧ wr.heap[b]? = some (.cells #[.slice (some ⟨g, 0, none⟩) xs.length xs.length, .int .i64 (m : Int)] 53 (0, 0)) ∧ wr.heap[g]? = some (.cells (bv xs).toArray 5 (0, 0)) ∧ Chg (fun k => k = b) w wr) (fun _ o31 _ => n - (intOf o31).toNat)
  case atStart =>
    refine ⟨0, Nat.zero_le _, rfl, by simp [val], ?_, HG1.out, HC1.out⟩
    have := HB1.out
    have hm := HM.out
    rw [show ((bs.length : Int) - (n : Int)) = (m : Int) from by omega] at this
    exact this
  case round =>
    obtain ⟨k, hk, rfl, rfl, hb, hg, hc⟩ := hrel
    clear HB1 HG1 HC1 c0 c1 f0 f1
    by_cases hlt : k < n
    · obtain ⟨d0, d1, e0, e1⟩ := cells2 hb
      have hmm := HM.out
      have hrow := row_cells hg ((m + k) / 8) (by omega)
      have hxx := getD_lt xs hx ((m + k) / 8)
      obtain ⟨y, hy⟩ : ∃ y, xs.getD ((m + k) / 8) 0 / 2 ^ ((m + k) % 8) % 2 = y := ⟨_, rfl⟩
      have HOR : Hid (bits BinOp.or IntKind.u32 ((val ((bs.drop m).take k) : Nat) : Int) ((y : Int) * 2 ^ k % 4294967296) = ((val ((bs.drop m).take (k + 1)) : Nat) : Int)) := by
        refine Lib.hid ?_
        obtain ⟨hi, hbitk⟩ := HBIT.out k hlt
        rw [or_shift (val ((bs.drop m).take k)) k y (val_take_lt _ _) (by omega) (by omega), val_take_succ (bs.drop m) k hi, ← hy, toNat_bit _ _ hbitk]
      go_wp2
      go_quiet (first | (go_at_call 21; refine Calls.quiet_of_same (bitAt_y g 0 (m + k) xs.length xs.length (xs.getD ((m + k) / 8) 0) y _ ?_ (by omega) (by omega) hxx hy); rw [Nat.zero_add]; exact hrow))
      go_wp2
      rw [HOR.out]
      go_roundw
      case rel => exact ⟨k + 1, by omega, by go_num, rfl, hb, hg, hc.drewN nq⟩
      case measure => simp [intOf]; omega
    · obtain rfl : k = n := by omega
      go_wp2
      go_ret2
      have hmm := HM.out
      have hr : (takeR bs k).length = m := by rw [takeR_length]; omega
      refine ⟨congrArg (fun z : Nat => Ending.returned (Value.tuple #[.int .u32 (z : Int), .bool true])) HFIN.out, ⟨xs, hx, hxl, by omega, ?_, by rw [hr]; exact hb, hg⟩, hc⟩
      rw [hr]; exact HTR.out

/-- what Take answers for every n -/
theorem take_any (b g : Nat) (bs : List Bool) (n : Int) (w : World) (h : Rr w b g bs) :
    Calls Try.prog 11 #[.pointer (some ⟨b, 0, none⟩), .int .i64 n] w fun e w' =>
      (∃ m : Nat, n = (m : Int) ∧ m ≤ 24 ∧ m ≤ bs.length ∧ e = .returned (.tuple #[.int .u32 ((takeV bs m : Nat) : Int), .bool true]) ∧ Rr w' b g (takeR bs m) ∧ Chg (fun k => k = b) w w') ∨
      ((n < 0 ∨ 24 < n ∨ (bs.length : Int) < n) ∧ e = .returned (.tuple #[.int .u32 0, .bool false]) ∧ w = w') := by
  by_cases hn : n < 0 ∨ 24 < n ∨ (bs.length : Int) < n
  · exact (take_no b g bs n w h hn).mono fun e w' ⟨h1, h2⟩ => .inr ⟨hn, h1, h2⟩
  · obtain ⟨m, rfl⟩ := Int.eq_ofNat_of_zero_le (show 0 ≤ n by omega)
    exact (take_yes b g bs m w h (by omega) (by omega)).mono fun e w' ⟨h1, h2, h3⟩ => .inl ⟨m, rfl, by omega, by omega, h1, h2, h3⟩

end Go.Proofs.Ytdejfoemofhpdaa
