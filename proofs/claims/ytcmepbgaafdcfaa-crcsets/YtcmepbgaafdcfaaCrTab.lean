/- A crc.Table in memory; what crc's Add and Of tell. -/
import Derived.Test.YtcmepbgaafdcfaaBfRead
import Derived.Test.YtcmepbgaafdcfaaCrMathB
namespace Go.Proofs.Ytcmepbgaafdcfaa
open Go.RowKit

theorem bits_xor_nat (k : IntKind) (hk : ∀ n : Int, 0 ≤ n → n < 2 ^ k.bits → k.wrap n = n) (a b : Nat) (ha : a < 2 ^ k.bits) (hb : b < 2 ^ k.bits) : bits .xor k a b = ((a ^^^ b : Nat) : Int) := by
  simp only [bits, BitVec.ofInt_natCast, BitVec.toNat_xor, BitVec.toNat_ofNat, Nat.mod_eq_of_lt ha, Nat.mod_eq_of_lt hb]
  exact hk _ (Int.natCast_nonneg _) (by exact_mod_cast Nat.xor_lt_two_pow ha hb)

theorem wraps_u8 (n : Int) (h0 : 0 ≤ n) (h1 : n < 2 ^ 8) : IntKind.u8.wrap n = n := by rw [IntKind.wrap_u8]; omega

theorem xor_u32 (a b : Nat) (ha : a < 4294967296) (hb : b < 4294967296) : bits .xor .u32 (a : Int) (b : Int) = ((a ^^^ b : Nat) : Int) := bits_xor_nat .u32 wraps_u32 a b (by simpa [IntKind.bits] using ha) (by simpa [IntKind.bits] using hb)
theorem xor_u8 (a b : Nat) (ha : a < 256) (hb : b < 256) : bits .xor .u8 (a : Int) (b : Int) = ((a ^^^ b : Nat) : Int) := bits_xor_nat .u8 wraps_u8 a b (by simpa [IntKind.bits] using ha) (by simpa [IntKind.bits] using hb)

theorem not_u32 (s : Nat) (hs : s < 4294967296) : bits .xor .u32 IntKind.u32.max (s : Int) = ((4294967295 - s : Nat) : Int) := by
  rw [show IntKind.u32.max = ((4294967295 : Nat) : Int) from rfl, xor_u32 _ _ (by omega) hs, turned hs]

def tabV : List Value := (List.range 256).map fun i => .int .u32 ((iterL 8 i : Nat) : Int)

/-- The Table at block b: what each byte does. -/
def Tb (w : World) (b : Nat) : Prop := w.heap[b]? = some (.cells tabV.toArray 37 (0, 0))

theorem Tb.kept {S : Nat → Prop} {w w' : World} {b : Nat} (h : Tb w b) (hc : Chg S w w') (h1 : ¬ S b) : Tb w' b := (hc.block b (lt_of_block h) h1).trans h
theorem Tb.cell {w : World} {b : Nat} (h : Tb w b) (i : Nat) (hi : i < 256) : w.cell? ⟨b, i, none⟩ = some (.int .u32 ((iterL 8 i : Nat) : Int)) := by
  rw [cell_of_row w b i _ _ _ h, List.getElem?_toArray]
  simp [tabV, hi]

theorem crcBytes_take (x : Nat) (xs : List Nat) (k : Nat) (h : k < xs.length) : crcBytes x (xs.take (k + 1)) = iterL 8 (crcBytes x (xs.take k) ^^^ xs.getD k 0) := by
  rw [List.take_succ_eq_append_getElem h, crcBytes_append, List.getD_eq_getElem?_getD, List.getElem?_eq_getElem h]; rfl

theorem take_lt {xs : List Nat} (hx : ∀ x ∈ xs, x < 256) (k : Nat) : ∀ x ∈ xs.take k, x < 256 := fun x h => hx x (List.mem_of_mem_take h)

theorem xor_mod256 (a b : Nat) : (a ^^^ b) % 256 = (a % 256) ^^^ (b % 256) := by
  show (a ^^^ b) % 2 ^ 8 = (a % 2 ^ 8) ^^^ (b % 2 ^ 8)
  exact Nat.xor_mod_two_pow

theorem xor_div256 (a b : Nat) (hb : b < 256) : (a ^^^ b) / 256 = a / 256 := by
  show (a ^^^ b) / 2 ^ 8 = a / 2 ^ 8
  rw [Nat.xor_div_two_pow, Nat.div_eq_of_lt (show b < 2 ^ 8 from hb), Nat.xor_zero]

set_option maxHeartbeats 1000000 in
theorem cadd_any (b : Nat) (v : Value) (s : Nat) (xs : List Nat) (w : World) (ht : Tb w b) (h : RdB w v xs) (hx : ∀ x ∈ xs, x < 256) (hs : s < 4294967296) (hl : xs.length < 100000000000) :
    Calls Try.prog 12 #[.pointer (some ⟨b, 0, none⟩), .int .u32 (s : Int), v] w fun e w' => e = .returned (.int .u32 ((crcAdd s xs : Nat) : Int)) ∧ ∃ m, w' = w.drewN m := by
  obtain ⟨ao, cap, rfl⟩ := h.form
  have H := Lib.hid h; have HX := Lib.hid hx; have HT := Lib.hid ht
  clear h hx ht
  have hsg : IntKind.u32.signed = false := rfl
  go_enter Try.func12, Try.ntmps12
  go_wp2
  go_loopw [7, 14] (fun o7 o14 wr => ∃ k : Nat, k ≤ xs.length ∧ o14 = .int .i64 (k : Int) ∧ o7 = .int .u32 ((crcBytes (4294967295 - s) (xs.take k) : Nat) : Int) ∧ ∃ m, wr = w.drewN m) (fun _ o14 _ => xs.length - (intOf o14).toNat)
  case atStart => exact ⟨0, Nat.zero_le _, rfl, by rw [not_u32 s hs]; rfl, 0, rfl⟩
  case round =>
    obtain ⟨k, hk, rfl, rfl, m, rfl⟩ := hrel
    by_cases hlt : k < xs.length
    · obtain ⟨g, off, hao, hcell⟩ : ∃ g off, ao = some ⟨g, off, none⟩ ∧ w.cell? ⟨g, off + k, none⟩ = some (.int .u8 ((xs.getD k 0 : Nat) : Int)) := by
        rcases H.out with ⟨h0, _⟩ | ⟨g, off, cap', he, hc⟩
        · rw [h0] at hlt; simp at hlt
        · simp only [Value.slice.injEq] at he
          exact ⟨g, off, he.1, hc _ hlt⟩
      subst hao
      have hsu := crcBytes_take (4294967295 - s) xs k hlt
      have hX := crcBytes_lt (4294967295 - s) (xs.take k) (by omega) (take_lt HX.out k)
      have hy := getD_lt xs HX.out k
      obtain ⟨X, hXe⟩ : ∃ X, crcBytes (4294967295 - s) (xs.take k) = X := ⟨_, rfl⟩
      obtain ⟨y, hye⟩ : ∃ y, xs.getD k 0 = y := ⟨_, rfl⟩
      rw [hXe] at hsu hX ⊢
      rw [hye] at hcell hsu hy
      have htab := HT.out.cell ((X ^^^ y) % 256) (by omega)
      have hx8 : bits .xor .u8 ((X : Int) % 256) (y : Int) = (((X ^^^ y) % 256 : Nat) : Int) := by
        rw [xor_mod256, Nat.mod_eq_of_lt hy, ← xor_u8 (X % 256) y (by omega) hy]; simp
      have hx32 : bits .xor .u32 ((X : Int) / 256) ((iterL 8 ((X ^^^ y) % 256) : Nat) : Int) = ((iterL 8 (X ^^^ y) : Nat) : Int) := by
        have hi := iterL_lt 8 (show (X ^^^ y) % 256 < 4294967296 by omega)
        rw [byte_table (X ^^^ y), xor_div256 X y hy, Nat.xor_comm _ (X / 256), ← xor_u32 (X / 256) _ (by omega) hi]; simp
      obtain ⟨z, hz⟩ : ∃ z, (X ^^^ y) % 256 = z := ⟨_, rfl⟩
      have hz2 : z < 256 := by omega
      rw [hz] at htab hx8 hx32
      have HSU := Lib.hid hsu
      clear hsu hXe hye hz
      go_wp2
      go_roundw
      case rel => exact ⟨k + 1, by omega, by go_num, by rw [HSU.out], m, rfl⟩
      case measure => simp [intOf]; omega
    · obtain rfl : k = xs.length := by omega
      rw [List.take_length]
      go_wp2
      go_ret
      have hX := crcBytes_lt (4294967295 - s) xs (by omega) HX.out
      exact ⟨congrArg (fun z => Ending.returned (Value.int .u32 z)) (not_u32 _ hX), m, rfl⟩

theorem cof_any (b : Nat) (v : Value) (xs : List Nat) (w : World) (ht : Tb w b) (h : RdB w v xs) (hx : ∀ x ∈ xs, x < 256) (hl : xs.length < 100000000000) :
    Calls Try.prog 10 #[.pointer (some ⟨b, 0, none⟩), v] w fun e w' => e = .returned (.int .u32 ((crcAdd 0 xs : Nat) : Int)) ∧ ∃ m, w' = w.drewN m := by
  obtain ⟨ao, cap, rfl⟩ := h.form
  have H := Lib.hid (cadd_any b _ 0 xs w ht h hx (by omega) hl)
  clear h hx ht
  go_enter Try.func10, Try.ntmps10
  go_wp2_with fail
  refine H.out.mono ?_
  rintro e w' ⟨rfl, m, rfl⟩
  go_wp2
  go_ret
  exact ⟨rfl, m, rfl⟩

/-- a Table of which the first k are filled -/
def tabTo (k : Nat) : List Value := (List.range 256).map fun i => .int .u32 (((if i < k then iterL 8 i else 0) : Nat) : Int)
theorem tabTo_all : tabTo 256 = tabV := by
  unfold tabTo tabV
  apply List.map_congr_left
  intro i hi
  rw [if_pos (List.mem_range.1 hi)]
theorem tab_zero (n : Nat) : ((List.range n).map fun i => Value.int .u32 (((if i < 0 then iterL 8 i else 0) : Nat) : Int)) = List.replicate n (.int .u32 0) := by
  apply List.ext_getElem (by simp)
  intro i h1 h2
  simp
theorem tabTo_zero : tabTo 0 = List.replicate 256 (.int .u32 0) := tab_zero 256
theorem tabTo_length (k : Nat) : (tabTo k).length = 256 := by simp [tabTo]
theorem tabTo_set (k : Nat) (_hk : k < 256) : (tabTo k).set k (.int .u32 ((iterL 8 k : Nat) : Int)) = tabTo (k + 1) := by
  apply List.ext_getElem (by simp [tabTo])
  intro i h1 h2
  by_cases hik : k = i
  · subst hik; simp [tabTo]
  · rw [List.getElem_set_ne hik]
    simp only [tabTo, List.getElem_map, List.getElem_range]
    by_cases hlt : i < k
    · rw [if_pos hlt, if_pos (by omega)]
    · rw [if_neg hlt, if_neg (by omega)]

theorem iterL_succ (j x : Nat) : iterL (j + 1) x = stepL (iterL j x) := by rw [iterL_add j 1]; rfl

theorem zeroTable : ∃ Z : List Value, Z = List.replicate 256 (.int .u32 0) ∧ ∀ W : World, (zeroValue 37).run Try.prog W = .ok (.agg Z.toArray) W := ⟨_, rfl, fun W => by kernel_rfl⟩

theorem and_one_odd (x : Nat) (hx : x < 4294967296) : (bits BinOp.and IntKind.u32 (x : Int) 1 == 1) = decide (x % 2 = 1) := by
  rw [and_one x hx, Bool.eq_iff_iff]; simp; omega

set_option maxHeartbeats 1000000 in
theorem ceight_any (k : Nat) (w : World) (hk : k < 4294967296) : Calls Try.prog 14 #[.int .u32 (k : Int)] w fun e w' => e = .returned (.int .u32 ((iterL 8 k : Nat) : Int)) ∧ w' = w := by
  go_enter Try.func14, Try.ntmps14
  go_wp2
  go_loopw [0, 4] (fun o0 o4 wr => ∃ j : Nat, j ≤ 8 ∧ o4 = .int .i64 (j : Int) ∧ o0 = .int .u32 ((iterL j k : Nat) : Int) ∧ wr = w) (fun _ o4 _ => 8 - (intOf o4).toNat)
  case atStart => exact ⟨0, Nat.zero_le _, rfl, rfl, rfl⟩
  case round =>
    obtain ⟨j, hj, rfl, rfl, rfl⟩ := hrel
    have hx := iterL_lt j hk
    have hsu := iterL_succ j k
    by_cases hj8 : j < 8
    · obtain ⟨x, hxe⟩ : ∃ x, iterL j k = x := ⟨_, rfl⟩
      rw [hxe] at hx hsu ⊢
      have hod := and_one_odd x hx
      clear hxe
      by_cases hodd : x % 2 = 1
      · rw [decide_eq_true hodd] at hod
        have hxor : bits .xor .u32 ((x : Int) / 2) 3988292384 = ((stepL x : Nat) : Int) := by
          unfold stepL
          rw [if_pos hodd, ← xor_u32 (x / 2) poly (by omega) (by decide)]; simp [poly]
        have HSU := Lib.hid hsu
        clear hsu
        go_wp2
        go_roundw
        case rel => exact ⟨j + 1, by omega, by go_num, by rw [HSU.out], trivial⟩
        case measure => simp [intOf]; omega
      · rw [decide_eq_false hodd] at hod
        have hst : stepL x = x / 2 := by unfold stepL; rw [if_neg hodd]
        rw [hst] at hsu
        have HSU := Lib.hid hsu
        clear hsu hst
        go_wp2
        go_roundw
        case rel => exact ⟨j + 1, by omega, by go_num, by rw [HSU.out]; go_num, trivial⟩
        case measure => simp [intOf]; omega
    · obtain rfl : j = 8 := by omega
      clear hsu
      go_wp2
      go_ret
      exact ⟨rfl, rfl⟩

set_option maxHeartbeats 1000000 in
set_option maxRecDepth 100000 in
theorem cnew_any (w : World) : Calls Try.prog 9 #[] w fun e w' => ∃ b, e = .returned (.pointer (some ⟨b, 0, none⟩)) ∧ Tb w' b ∧ w.heap.size ≤ b ∧ Chg (fun _ => False) w w' := by
  obtain ⟨Z, hZ, hzero⟩ := zeroTable
  have h0 : (w.alloc (.cells Z.toArray 37)).heap[w.heap.size]? = some (.cells (tabTo 0).toArray 37 (0, 0)) := by
    rw [tabTo_zero, ← hZ]; exact heap_alloc_new w _
  have H0 := Lib.hid h0
  have HC0 := Lib.hid (Chg.alloc (fun _ => False) w (.cells Z.toArray 37))
  clear hZ h0
  go_enter Try.func9, Try.ntmps9
  go_wp2
  go_loopw [5] (fun o5 wr => ∃ k : Nat, k ≤ 256 ∧ o5 = .int .i64 (k : Int) ∧ wr.heap[w.heap.size]? = some (.cells (tabTo k).toArray 37 (0, 0)) ∧ Chg (fun _ => False) w wr) (fun o5 _ => 256 - (intOf o5).toNat)
  case atStart => exact ⟨0, Nat.zero_le _, rfl, H0.out, HC0.out⟩
  case round =>
    obtain ⟨k, hk, rfl, hb, hc⟩ := hrel
    clear H0 HC0
    by_cases hlt : k < 256
    · have hx := iterL_lt 8 (show k < 4294967296 by omega)
      have HE := Lib.hid (ceight_any k wr.drew (by omega))
      have hwk : IntKind.u32.wrap (k : Int) = (k : Int) := wraps_u32 _ (by omega) (by simp [IntKind.bits]; omega)
      have hcell : wr.cell? ⟨w.heap.size, k, none⟩ = some ((tabTo k)[k]'(by rw [tabTo_length]; exact hlt)) := by
        rw [cell_of_row wr _ k _ _ _ hb, List.getElem?_toArray, List.getElem?_eq_getElem (by rw [tabTo_length]; exact hlt)]
      have hfr := frozen_of_row wr w.heap.size k _ _ hb
      have hb1 := heap_setCell_same wr w.heap.size k _ _ (.int .u32 ((iterL 8 k : Nat) : Int)) hb
      have hc1 : Chg (fun _ => False) w (wr.setCell ⟨w.heap.size, k, none⟩ (.int .u32 ((iterL 8 k : Nat) : Int))) := hc.trans (Chg.setCell wr ⟨w.heap.size, k, none⟩ _) (fun q hq h => by simp at h; omega)
      have HB1 := Lib.hid hb1; have HC1 := Lib.hid hc1
      clear hb1 hc1 hb hc
      obtain ⟨x, hxe⟩ : ∃ x, iterL 8 k = x := ⟨_, rfl⟩
      rw [hxe] at hx HB1 HC1 HE
      have HXE := Lib.hid hxe
      clear hxe
      generalize (tabTo k)[k]'(by rw [tabTo_length]; exact hlt) = old at hcell
      go_wp2
      refine wp_region_still_tail 8 (by kernel_rfl) (by kernel_rfl) ?_
      simp only [List.take_succ_cons, List.take_zero, List.drop_succ_cons, List.drop_zero]
      repeat still_step
      still_call HE.out
      repeat still_step
      refine wpStill_nil ?_
      change wpList _ _ _ _ _ wr.drew
      go_wp2
      go_roundw
      case rel =>
        refine ⟨k + 1, by omega, by go_num, ?_, HC1.out.drew⟩
        have := HB1.out
        rw [← tabTo_set k hlt, HXE.out]
        show (wr.setCell _ _).heap[w.heap.size]? = _
        simpa using this
      case measure => simp [intOf]; omega
    · obtain rfl : k = 256 := by omega
      rw [tabTo_all] at hb
      go_wp2
      go_ret
      exact ⟨_, rfl, hb, Nat.le_refl _, hc⟩

end Go.Proofs.Ytcmepbgaafdcfaa
