/- What ctx's At, For, Present and Widest tell. THIS ALONE SPEAKS OF THE PROGRAM'S OWN TEXT. (Present and Widest: CxProgB.) -/
import Derived.Test.YtjddaneafmdeeaaCxMath
import Derived.Test.YtjddaneafmdeeaaHsHist
import Derived.Test.YtjddaneafmdeeaaApBytes
import Derived.Test.YtjddaneafmdeeaaApInts
namespace Go.Proofs.Ytjddaneafmdeeaa
open Go.RowKit

set_option maxHeartbeats 1000000 in
theorem xat_any (v : Value) (xs : List Nat) (i : Int) (w : World) (h : RdB w v xs) (hx : ∀ x ∈ xs, x < 256) (hl : xs.length < 10000000000) (hi : -9223372036854775808 ≤ i ∧ i ≤ 9223372036854775807) :
    Calls Try.prog 9 #[v, .int .i64 i] w fun e w' => e = .returned (.int .i64 (atI xs i)) ∧ ∃ m, w' = w.drewN m := by
  obtain ⟨ao, cap, rfl⟩ := h.form
  have H := Lib.hid h; have HX := Lib.hid hx
  clear h hx
  by_cases hneg : i < 0
  · have d1 : decide (i < 0) = true := decide_eq_true hneg
    have HA := Lib.hid (atI_out xs i (.inl hneg))
    go_enter Try.func9, Try.ntmps9
    go_wp2
    go_ret
    rw [HA.out]
    exact ⟨rfl, 0, rfl⟩
  have d1 : decide (i < 0) = false := decide_eq_false hneg
  by_cases hbig : (xs.length : Int) ≤ i
  · have d2 : decide ((xs.length : Int) ≤ i) = true := decide_eq_true hbig
    have HA := Lib.hid (atI_out xs i (.inr hbig))
    go_enter Try.func9, Try.ntmps9
    go_wp2
    go_ret
    rw [HA.out]
    exact ⟨rfl, 0, rfl⟩
  have d2 : decide ((xs.length : Int) ≤ i) = false := decide_eq_false hbig
  obtain ⟨k, rfl⟩ : ∃ k : Nat, i = (k : Int) := ⟨i.toNat, by omega⟩
  have hk : k < xs.length := by omega
  have HA := Lib.hid (atI_nat xs k hk)
  by_cases h0 : k = 0
  · subst h0
    rw [show atI xs ((0 : Nat) : Int) = 0 from HA.out]
    obtain ⟨N, hN⟩ : ∃ N, xs.length = N := ⟨_, rfl⟩
    rw [hN] at hk H ⊢
    have hN0 : ¬ N = 0 := by omega
    have hNI : ¬ (N : Int) ≤ 0 := by omega
    clear hN hl HA hi d1 d2 hneg hbig
    go_enter Try.func9, Try.ntmps9
    go_wp2
    go_ret
    exact ⟨rfl, 0, rfl⟩
  · obtain ⟨j, rfl⟩ : ∃ j, k = j + 1 := ⟨k - 1, by omega⟩
    obtain ⟨g, off, rfl, hcell⟩ := H.out.at j (by omega)
    have hy := getD_lt xs HX.out j
    rw [List.getD_cons_succ] at HA
    obtain ⟨y, hye⟩ : ∃ y, xs.getD j 0 = y := ⟨_, rfl⟩
    rw [hye] at hcell hy HA
    have e0 : (((j + 1 : Nat) : Int) == 0) = false := by simp; omega
    have hjl : j < xs.length := by omega
    clear hye h0 hneg hbig hi
    go_enter Try.func9, Try.ntmps9
    go_wp2
    go_ret
    rw [HA.out]
    exact ⟨rfl, 0, rfl⟩

/-- a captured variable -/
def One (w : World) (b : Nat) (t : TypeId) (v : Value) : Prop := w.heap[b]? = some (.cells #[v] t (0, 0))
theorem One.kept {S : Nat → Prop} {w w' : World} {b : Nat} {t : TypeId} {v : Value} (h : One w b t v) (hc : Chg S w w') (hS : ¬ S b) : One w' b t v := (hc.block b (lt_of_block h) hS).trans h

set_option maxHeartbeats 1000000 in
theorem xfor1_any (A c : Int) (Bc : Nat) (w : World) (hc : One w Bc 3 (.int .i64 c)) :
    Calls Try.prog 23 #[.int .i64 A, .pointer (some ⟨Bc, 0, none⟩)] w fun e w' => e = .returned (.bool (decide (A = c))) ∧ w' = w := by
  have c2 := cell_of_one hc
  clear hc
  go_enter Try.func23, Try.ntmps23
  go_wp2
  go_ret
  exact ⟨rfl, rfl⟩

theorem nil_ownsB (w : World) (base : Nat) : w.ownsRow base 5 1 (.slice none 0 0) ([] : List Nat).length (bv []) := ⟨rfl, .inl ⟨rfl, rfl⟩⟩

set_option maxHeartbeats 2000000 in
theorem xpicked_any (v : Value) (xs : List Nat) (c : Int) (Bc : Nat) (w : World) (h : RdB w v xs) (hx : ∀ x ∈ xs, x < 256) (hl : xs.length < 10000000000)
    (hc : One w Bc 3 (.int .i64 c)) :
    Calls Try.prog 22 #[v, .func (.func 23) #[] #[.pointer (some ⟨Bc, 0, none⟩)]] w fun e w' => ∃ v', e = .returned v' ∧ RdB w' v' (sel xs c) ∧ Chg (fun _ => False) w w' := by
  obtain ⟨ao, cap, rfl⟩ := h.form
  have H := Lib.hid h; have HX := Lib.hid hx; have HC := Lib.hid hc
  clear h hx hc
  go_enter Try.func22, Try.ntmps22
  go_wp2
  go_loopw [5, 10] (fun o5 o10 wr => ∃ (k : Nat) (vo : Value), k ≤ xs.length ∧ o10 = .int .i64 (k : Int) ∧ vo = o5 ∧ wr.ownsRow w.heap.size 5 1 vo (sel (xs.take k) c).length (bv (sel (xs.take k) c)) ∧ Chg (fun _ => False) w wr) (fun _ o10 _ => xs.length - (intOf o10).toNat)
  case atStart => exact ⟨0, _, Nat.zero_le _, rfl, rfl, nil_ownsB w _, Chg.refl _ _⟩
  case round =>
    obtain ⟨k, vo, hk, rfl, rfl, hown, hcg⟩ := hrel
    by_cases hlt : k < xs.length
    · obtain ⟨g, off, rfl, hcell⟩ := (H.out.kept hcg (by simp)).at k hlt
      have hst := sel_take_succ xs k hlt c
      have hsl := sel_len (xs.take k) c
      rw [List.length_take] at hsl
      have hat := atI_nat xs k hlt
      obtain ⟨y, hye⟩ : ∃ y, (0 :: xs).getD k 0 = y := ⟨_, rfl⟩
      rw [hye] at hst hat
      clear hye
      have HOWN := Lib.hid hown; have HCG := Lib.hid hcg; have HST := Lib.hid hst; have HSL := Lib.hid hsl; have HAT := Lib.hid hat
      clear hown hcg hst hsl hat
      have hkI : (k : Int) < (xs.length : Int) := by omega
      obtain ⟨x, hxe⟩ : ∃ x, xs.getD k 0 = x := ⟨_, rfl⟩
      rw [hxe] at hcell HST
      clear hxe
      go_wp2_with fail
      refine (xat_any _ xs (k : Int) wr (H.out.kept HCG.out (by simp)) HX.out hl (by omega)).mono ?_
      rintro e w2 ⟨rfl, m, rfl⟩
      rw [HAT.out]
      have o2 := HCG.out.drewN m
      have own2 := ((Chg.refl (fun _ => False) wr).drewN m).own HOWN.out (by simp)
      obtain ⟨W, hW⟩ : ∃ W, wr.drewN m = W := ⟨_, rfl⟩
      rw [hW] at o2 own2 ⊢
      have O2 := Lib.hid o2; have OWN2 := Lib.hid own2
      clear HOWN HCG hW o2 own2 hcell
      go_wp2_with fail
      refine (xfor1_any _ c Bc W (HC.out.kept O2.out (by simp))).mono ?_
      rintro e w3 ⟨rfl, rfl⟩
      by_cases hyc : (y : Int) = c
      · rw [decide_eq_true hyc]
        have hst := HST.out
        rw [if_pos hyc] at hst
        have hca := Chg.alloc (fun _ => False) w3 (.cells #[.int .u8 (x : Int)] 5)
        have hrd := rdb_new w3 [x] #[.int .u8 (x : Int)] 1 (0, 0) rfl rfl
        have hoa := hca.own OWN2.out (by simp)
        have hz : w.heap.size ≤ (w3.alloc (.cells #[.int .u8 (x : Int)] 5)).heap.size := Nat.le_trans O2.out.size hca.size
        have hlt3 := OWN2.out.lt
        have HCA := Lib.hid hca; have HRD := Lib.hid hrd; have HOA := Lib.hid hoa; have HZ := Lib.hid hz; have HLT3 := Lib.hid hlt3; have HPS := Lib.hid hst
        clear hca hrd hoa hz hlt3 hst hyc
        go_wp2_with (at_builtin; refine wpList_append_bytes rfl (.tmp 20) (.tmp 22) rfl w.heap.size vo (sel (xs.take k) c) rfl HOA.out _ [x] rfl HRD.out HZ.out (by have := HSL.out; simp; omega) ?_)
        intro v4 w4 ho4 hc4
        have ho4 := (show w4.ownsRow w.heap.size 5 1 v4 (sel (xs.take k) c ++ [x]).length (bv (sel (xs.take k) c ++ [x])) by simpa using ho4)
        rw [← HPS.out] at ho4
        have hc4' : Chg (fun _ => False) w w4 := (O2.out.trans HCA.out (fun _ _ h => h)).trans hc4 (fun q hq hx => by have := (HLT3.out q hx.symm).1; omega)
        clear hc4 HCA HRD HOA HZ HLT3 HPS
        go_wp2
        go_roundw
        case rel => exact ⟨k + 1, _, by omega, by go_num, rfl, ho4, hc4'⟩
        case measure => simp [intOf]; omega
      · rw [decide_eq_false hyc]
        have hst := HST.out
        rw [if_neg hyc, List.append_nil] at hst
        have HPS := Lib.hid hst
        clear hst hyc
        go_wp2
        go_roundw
        case rel => exact ⟨k + 1, _, by omega, by go_num, rfl, by rw [HPS.out]; exact OWN2.out, O2.out⟩
        case measure => simp [intOf]; omega
    · obtain rfl : k = xs.length := by omega
      rw [List.take_length] at hown
      have hrd := RdB.of_own hown
      clear hown
      go_wp2
      go_ret
      exact ⟨_, rfl, hrd, hcg⟩

set_option maxHeartbeats 2000000 in
theorem xfor_any (v : Value) (xs : List Nat) (c : Int) (w : World) (h : RdB w v xs) (hx : ∀ x ∈ xs, x < 256) (hl : xs.length < 10000000000) (_hc : -9223372036854775808 ≤ c ∧ c ≤ 9223372036854775807) :
    Calls Try.prog 12 #[v, .int .i64 c] w fun e w' => ∃ v', e = .returned v' ∧ OwnI w' w.heap.size v' (cnt (sel xs c)) ∧ Chg (fun _ => False) w w' := by
  obtain ⟨ao, cap, rfl⟩ := h.form
  have cc := Chg.alloc (fun _ => False) w (.cells #[.int .i64 c] 3)
  have b2 : One (w.alloc (.cells #[.int .i64 c] 3)) w.heap.size 3 (.int .i64 c) := heap_alloc_new w _
  obtain ⟨W2, hW2⟩ : ∃ W2, w.alloc (.cells #[.int .i64 c] 3) = W2 := ⟨_, rfl⟩
  rw [hW2] at b2 cc
  have HCH := Lib.hid (xpicked_any (.slice ao xs.length cap) xs c w.heap.size W2 (h.kept cc (by simp)) hx hl b2)
  have HX := Lib.hid hx; have CC := Lib.hid cc
  have hsz := cc.size
  have hmf : ∀ (fn : Fn) (first cap : Array Value) (w : World), (Instr.makeFunc fn first cap).run Try.prog w = .ok (.func fn first cap) w := fun _ _ _ _ => rfl
  clear h hx b2 cc
  go_enter Try.func12, Try.ntmps12
  go_wp2_with fail
  refine HCH.out.mono ?_
  rintro e w3 ⟨v3, rfl, rd3, hc3⟩
  have q3 := CC.out.trans hc3 (fun _ _ h => h)
  have hs3 := q3.size
  clear hc3
  go_wp2_with fail
  refine (hof_any _ (sel xs c) w3 rd3 (sel_lt HX.out c) (by have := sel_len xs c; omega)).mono ?_
  rintro e w4 ⟨v4, rfl, ho4, hc4⟩
  have q4 := q3.trans hc4 (fun _ _ h => h)
  have ho := ho4.mono hs3
  clear q3 hc4 rd3 ho4
  go_wp2
  go_ret
  exact ⟨_, rfl, ho, q4⟩

end Go.Proofs.Ytjddaneafmdeeaa
