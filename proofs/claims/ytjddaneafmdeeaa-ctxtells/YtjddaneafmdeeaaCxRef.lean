/- What the document's own ctx (puncheonref06) tells. -/
import Derived.Test.YtjddaneafmdeeaaHsRef
import Derived.Test.YtjddaneafmdeeaaCxMath
import Derived.Test.YtjddaneafmdeeaaApBytes
import Derived.Test.YtjddaneafmdeeaaApInts
namespace Go.Proofs.Ytjddaneafmdeeaa
open Go.RowKit

theorem own_oneB (w : World) (x : Nat) : (w.alloc (.cells #[.int .u8 (x : Int)] 5)).ownsRow w.heap.size 5 1 (.slice (some ⟨w.heap.size, 0, none⟩) 1 1) [x].length (bv [x]) :=
  ⟨rfl, .inr ⟨w.heap.size, 1, #[.int .u8 (x : Int)], rfl, Nat.le_refl _, heap_alloc_new w _, Nat.le_refl _, by unfold maxLen; omega, rfl, rfl⟩⟩

set_option maxHeartbeats 1000000 in
theorem r6at_any (v : Value) (xs : List Nat) (i : Int) (w : World) (h : RdB w v xs) (hx : ∀ x ∈ xs, x < 256) (hl : xs.length < 10000000000) (hi : -9223372036854775808 ≤ i ∧ i ≤ 9223372036854775807) :
    Calls Try.prog 10 #[v, .int .i64 i] w fun e w' => e = .returned (.int .i64 (atI xs i)) ∧ Chg (fun _ => False) w w' := by
  obtain ⟨ao, cap, rfl⟩ := h.form
  have H := Lib.hid h; have HX := Lib.hid hx
  clear h hx
  by_cases hneg : i < 0
  · have d1 : decide (i < 0) = true := decide_eq_true hneg
    have HA := Lib.hid (atI_out xs i (.inl hneg))
    go_enter Try.func10, Try.ntmps10
    go_wp2
    go_ret
    rw [HA.out]
    exact ⟨rfl, Chg.refl _ _⟩
  · have d1 : decide (i < 0) = false := decide_eq_false hneg
    by_cases hbig : (xs.length : Int) ≤ i
    · have d2 : decide ((xs.length : Int) ≤ i) = true := decide_eq_true hbig
      have HA := Lib.hid (atI_out xs i (.inr hbig))
      go_enter Try.func10, Try.ntmps10
      go_wp2
      go_ret
      rw [HA.out]
      exact ⟨rfl, Chg.refl _ _⟩
    · have d2 : decide ((xs.length : Int) ≤ i) = false := decide_eq_false hbig
      obtain ⟨k, rfl⟩ : ∃ k : Nat, i = (k : Int) := ⟨i.toNat, by omega⟩
      have hk : k < xs.length := by omega
      have HA := Lib.hid (atI_nat xs k hk)
      have hca := Chg.alloc (fun _ => False) w (.cells #[.int .u8 ((0 : Nat) : Int)] 5)
      have hoA := own_oneB w 0
      have hrx := H.out.kept hca (by simp)
      have HRX := Lib.hid hrx; have HCA := Lib.hid hca; have HO := Lib.hid hoA
      clear hca hoA hrx hneg hbig hi
      go_enter Try.func10, Try.ntmps10
      go_wp2_with (at_builtin; refine wpList_append_bytes rfl (.tmp 14) (.tmp 15) rfl w.heap.size _ [0] rfl HO.out _ xs rfl HRX.out (by simp) (by simp; omega) ?_)
      intro v3 w3 ho3 hc3
      have hc3' : Chg (fun _ => False) w w3 := HCA.out.trans hc3 (fun k hk hx => by simp [Value.ownBlock] at hx; omega)
      have hrd := RdB.of_own ho3
      obtain ⟨ao3, cap3, rfl⟩ := hrd.form
      obtain ⟨g, off, rfl, hcell⟩ := hrd.at k (by simp; omega)
      have hy := getD_lt (0 :: xs) (fun x hx => by
        rcases List.mem_cons.1 hx with rfl | hx
        · omega
        · exact HX.out x hx) k
      obtain ⟨y, hye⟩ : ∃ y, (0 :: xs).getD k 0 = y := ⟨_, rfl⟩
      rw [hye] at hcell hy HA
      have hkl : k < (0 :: xs).length := by simp; omega
      obtain ⟨n, hn⟩ : ∃ n, (0 :: xs).length = n := ⟨_, rfl⟩
      rw [hn] at hkl ⊢
      clear hc3 HCA HRX HO hrd ho3 hn
      go_wp2
      go_ret
      rw [HA.out]
      exact ⟨rfl, hc3'⟩

set_option maxHeartbeats 1000000 in
set_option maxRecDepth 100000 in
theorem r6for_any (v : Value) (xs : List Nat) (c : Int) (w : World) (h : RdB w v xs) (hx : ∀ x ∈ xs, x < 256) (hl : xs.length < 10000000000) :
    Calls Try.prog 13 #[v, .int .i64 c] w fun e w' => ∃ v', e = .returned v' ∧ OwnI w' w.heap.size v' (cnt (sel xs c)) ∧ Chg (fun _ => False) w w' := by
  obtain ⟨ao, cap, rfl⟩ := h.form
  have H := Lib.hid h; have HX := Lib.hid hx
  clear h hx
  go_enter Try.func13, Try.ntmps13
  go_wp2_with (at_make; refine wpList_make_ints rfl _ _ rfl 256 256 256 rfl rfl rfl rfl (by omega) (cnt (sel (xs.take 0) c)) (by rw [List.take_zero, sel_nil, cnt_nil]) ?_)
  intro w1 h1 hc1
  have H1 := Lib.hid h1; have HC1 := Lib.hid hc1
  clear h1 hc1
  go_wp2
  go_loopw [6] (fun o6 wr => ∃ k : Nat, k ≤ xs.length ∧ o6 = .int .i64 (k : Int) ∧ RowI wr w.heap.size 3 (cnt (sel (xs.take k) c)) ∧ Chg (fun _ => False) w wr) (fun o6 _ => xs.length - (intOf o6).toNat)
  case atStart => exact ⟨0, Nat.zero_le _, rfl, H1.out, HC1.out⟩
  case round =>
    obtain ⟨k, hk, rfl, hrow, hc⟩ := hrel
    clear H1 HC1
    by_cases hlt : k < xs.length
    · have HROW := Lib.hid hrow; have HC := Lib.hid hc
      clear hrow hc
      go_wp2_with fail
      refine (r6at_any _ xs (k : Int) wr (H.out.kept HC.out (by simp)) HX.out hl (by omega)).mono ?_
      rintro e w2 ⟨rfl, hc2⟩
      rw [atI_nat xs k hlt]
      have hrow := HROW.out.kept hc2 (by simp)
      have hc := HC.out.trans hc2 (fun _ _ h => h)
      have hst := sel_take_succ xs k hlt c
      clear HROW HC hc2
      obtain ⟨y, hye⟩ : ∃ y, (0 :: xs).getD k 0 = y := ⟨_, rfl⟩
      rw [hye] at hst ⊢
      clear hye
      by_cases hyc : (y : Int) = c
      · subst hyc
        rw [if_pos rfl] at hst
        obtain ⟨g, off, rfl, hcell⟩ := (H.out.kept hc (by simp)).at k hlt
        have hx8 := getD_lt xs HX.out k
        obtain ⟨x, hxe⟩ : ∃ x, xs.getD k 0 = x := ⟨_, rfl⟩
        rw [hxe] at hcell hx8 hst
        have hcs := cnt_snoc (sel (xs.take k) (y : Int)) x hx8
        rw [← hst] at hcs
        have hcu := hrow.cell x (by rw [cnt_length]; exact hx8)
        have hfu := hrow.free x
        have hbd : 0 ≤ (cnt (sel (xs.take k) (y : Int))).getD x 0 ∧ (cnt (sel (xs.take k) (y : Int))).getD x 0 ≤ 10000000000 := by
          rw [cnt_getD _ _ hx8]
          have h1 := List.count_le_length (l := sel (xs.take k) (y : Int)) (a := x)
          have h2 := sel_len (xs.take k) (y : Int)
          rw [List.length_take] at h2
          omega
        have hr2 := hrow.set x ((cnt (sel (xs.take k) (y : Int))).getD x 0 + 1)
        rw [← hcs] at hr2
        have hc2 : Chg (fun _ => False) w (w2.setCell ⟨w.heap.size, x, none⟩ (.int .i64 ((cnt (sel (xs.take k) (y : Int))).getD x 0 + 1))) := hc.trans (Chg.setCell w2 ⟨w.heap.size, x, none⟩ _) (fun q hq h => by simp at h; omega)
        obtain ⟨z, hze⟩ : ∃ z, (cnt (sel (xs.take k) (y : Int))).getD x 0 = z := ⟨_, rfl⟩
        rw [hze] at hcu hbd hr2 hc2
        obtain ⟨hz0, hz1⟩ := hbd
        have HR2 := Lib.hid hr2; have HC2 := Lib.hid hc2
        clear hst hcs hr2 hc2 hrow hc hze hxe
        go_wp2
        go_roundw
        case rel => exact ⟨k + 1, by omega, by go_num, HR2.out, HC2.out⟩
        case measure => simp [intOf]; omega
      · rw [if_neg hyc, List.append_nil] at hst
        have hne : ((y : Int) == c) = false := by simp [hyc]
        have HST := Lib.hid hst; have HROW := Lib.hid hrow; have HC := Lib.hid hc
        clear hst hrow hc
        go_wp2
        go_roundw
        case rel => exact ⟨k + 1, by omega, by go_num, by rw [HST.out]; exact HROW.out, HC.out⟩
        case measure => simp [intOf]; omega
    · obtain rfl : k = xs.length := by omega
      rw [List.take_length] at hrow
      go_wp2
      go_ret
      exact ⟨_, rfl, by have := hrow.own 256 w.heap.size (Nat.le_refl _); rw [cnt_length] at this; exact this, hc⟩

set_option maxHeartbeats 1000000 in
set_option maxRecDepth 100000 in
theorem r6present_any (v : Value) (xs : List Nat) (w : World) (h : RdB w v xs) (hx : ∀ x ∈ xs, x < 256) (hl : xs.length < 10000000000) :
    Calls Try.prog 15 #[v] w fun e w' => ∃ v', e = .returned v' ∧ RdI w' v' (pres xs) ∧ Chg (fun _ => False) w w' := by
  obtain ⟨ao, cap, rfl⟩ := h.form
  have H := Lib.hid h; have HX := Lib.hid hx
  clear h hx
  go_enter Try.func15, Try.ntmps15
  go_wp2
  go_loopw [3, 4] (fun o3 o4 wr => ∃ (c : Nat) (vo : Value), c ≤ 256 ∧ o4 = .int .i64 (c : Int) ∧ vo = o3 ∧ wr.ownsRow w.heap.size 3 1 vo (presTo xs c).length (iw (presTo xs c)) ∧ Chg (fun _ => False) w wr) (fun _ o4 _ => 256 - (intOf o4).toNat)
  case atStart => exact ⟨0, _, Nat.zero_le _, rfl, rfl, nil_owns w _, Chg.refl _ _⟩
  case round =>
    obtain ⟨c, vo, hcc, rfl, rfl, hown, hc⟩ := hrel
    have hpl := presTo_length xs c
    obtain ⟨wa, hwa⟩ : ∃ wa, wa = wr := ⟨_, rfl⟩
    subst hwa
    by_cases hlt : c < 256
    · have HOWN := Lib.hid hown; have HC := Lib.hid hc
      clear hown hc
      have d8 : decide ((c : Int) < 256) = true := by simp; omega
      go_wp2
      go_loopw [5, 6] (fun o5 o6 wr => ∃ k : Nat, k ≤ xs.length ∧ o6 = .int .i64 (k : Int) ∧ o5 = .int .i64 (((sel (xs.take k) (c : Int)).length : Nat) : Int) ∧ wr.ownsRow w.heap.size 3 1 vo (presTo xs c).length (iw (presTo xs c)) ∧ Chg (fun _ => False) w wr) (fun _ o6 _ => xs.length - (intOf o6).toNat)
      case atStart => exact ⟨0, Nat.zero_le _, rfl, rfl, HOWN.out, HC.out⟩
      case round =>
        obtain ⟨k, hk, rfl, rfl, hown, hc⟩ := hrel
        clear HOWN HC
        have hsl := sel_len (xs.take k) (c : Int)
        rw [List.length_take] at hsl
        have HOWN := Lib.hid hown; have HC := Lib.hid hc
        clear hown hc
        by_cases hkl : k < xs.length
        · have hst := sel_take_succ xs k hkl (c : Int)
          obtain ⟨n, hn⟩ : ∃ n, (sel (xs.take k) (c : Int)).length = n := ⟨_, rfl⟩
          rw [hn] at hsl ⊢
          have HN := Lib.hid hn
          clear hn
          go_wp2_with fail
          refine (r6at_any _ xs (k : Int) wr (H.out.kept HC.out (by simp)) HX.out hl (by omega)).mono ?_
          rintro e w2 ⟨rfl, hc2⟩
          rw [atI_nat xs k hkl]
          have HOWN2 := Lib.hid (hc2.own HOWN.out (by simp))
          have HC2 := Lib.hid (HC.out.trans hc2 (fun _ _ h => h))
          clear HOWN HC hc2
          obtain ⟨y, hye⟩ : ∃ y, (0 :: xs).getD k 0 = y := ⟨_, rfl⟩
          rw [hye] at hst ⊢
          clear hye
          by_cases hyc : (y : Int) = (c : Int)
          · rw [if_pos hyc] at hst
            have hq : ((y : Int) == (c : Int)) = true := by simp [hyc]
            have hst' : (sel (xs.take (k + 1)) (c : Int)).length = n + 1 := by rw [hst, List.length_append, HN.out]; rfl
            have HST := Lib.hid hst'
            clear hst hst'
            go_wp2
            go_roundw
            case rel => exact ⟨k + 1, by omega, by go_num, by rw [HST.out]; go_num, HOWN2.out, HC2.out⟩
            case measure => simp [intOf]; omega
          · rw [if_neg hyc, List.append_nil] at hst
            have hq : ((y : Int) == (c : Int)) = false := by simp; omega
            have hst' : (sel (xs.take (k + 1)) (c : Int)).length = n := by rw [hst, HN.out]
            have HST := Lib.hid hst'
            clear hst hst'
            go_wp2
            go_roundw
            case rel => exact ⟨k + 1, by omega, by go_num, by rw [HST.out], HOWN2.out, HC2.out⟩
            case measure => simp [intOf]; omega
        · obtain rfl : k = xs.length := by omega
          rw [List.take_length] at hsl ⊢
          have hps := presTo_succ xs c
          obtain ⟨n, hn⟩ : ∃ n, (sel xs (c : Int)).length = n := ⟨_, rfl⟩
          rw [hn] at hsl hps ⊢
          clear hn
          by_cases hpos : 0 < n
          · rw [if_pos hpos] at hps
            have hd : decide (0 < (n : Int)) = true := by simp; omega
            have hca := Chg.alloc (fun _ => False) wr (.cells #[.int .i64 (c : Int)] 3)
            have hrd := rdi_new wr [(c : Int)] #[.int .i64 (c : Int)] 1 (0, 0) rfl rfl
            have hoa := hca.own HOWN.out (by simp)
            have hz : w.heap.size ≤ (wr.alloc (.cells #[.int .i64 (c : Int)] 3)).heap.size := Nat.le_trans HC.out.size hca.size
            have hlt3 := HOWN.out.lt
            have HCA := Lib.hid hca; have HRD := Lib.hid hrd; have HOA := Lib.hid hoa; have HZ := Lib.hid hz; have HLT3 := Lib.hid hlt3
            have HPS := Lib.hid hps
            clear hca hrd hoa hz hlt3 hps
            go_wp2_with (at_builtin; refine wpList_append_ints rfl (.tmp 26) (.tmp 28) rfl w.heap.size vo (presTo xs c) rfl HOA.out _ [(c : Int)] rfl HRD.out HZ.out (by simp; omega) ?_)
            intro v4 w4 ho4 hc4
            have ho4 := (show w4.ownsRow w.heap.size 3 1 v4 (presTo xs c ++ [(c : Int)]).length (iw (presTo xs c ++ [(c : Int)])) by simpa using ho4)
            rw [← HPS.out] at ho4
            have hc4' : Chg (fun _ => False) w w4 := (HC.out.trans HCA.out (fun _ _ h => h)).trans hc4 (fun k hk hx => by have := (HLT3.out k hx.symm).1; omega)
            clear hc4 HCA HRD HOA HZ HLT3 HPS
            go_wp2
            go_roundw
            case rel => exact ⟨c + 1, _, by omega, by go_num, rfl, ho4, hc4'⟩
            case measure => simp [intOf]; omega
          · rw [if_neg hpos, List.append_nil] at hps
            have hd : decide (0 < (n : Int)) = false := by simp; omega
            have HPS := Lib.hid hps
            clear hps
            go_wp2
            go_roundw
            case rel => exact ⟨c + 1, _, by omega, by go_num, rfl, by rw [HPS.out]; exact HOWN.out, HC.out⟩
            case measure => simp [intOf]; omega
    · obtain rfl : c = 256 := by omega
      have hrd := RdI.of_own hown
      clear hown
      go_wp2
      go_ret
      exact ⟨_, rfl, hrd, hc⟩

end Go.Proofs.Ytjddaneafmdeeaa
