/- What the document's own Reader (puncheonref03) tells: New, Left, Take, Pad, Rest. -/
import Derived.Test.YthenjooffkbkpaaBrRef
import Derived.Test.YthenjooffkbkpaaBwRef
import Derived.Test.YthenjooffkbkpaaBfSplits
namespace Go.Proofs.Ythenjooffkbkpaa
open Go.RowKit

/-- The value v is a slice of the bits bs. -/
def RdQ (w : World) (v : Value) (bs : List Bool) : Prop :=
  (bs = [] ∧ ∃ ao c, v = .slice ao 0 c) ∨ ∃ g off cap, v = .slice (some ⟨g, off, none⟩) bs.length cap ∧ ∀ j (h : j < bs.length), w.cell? ⟨g, off + j, none⟩ = some (.bool bs[j])

theorem RdQ.form {w : World} {v : Value} {bs : List Bool} (h : RdQ w v bs) : ∃ ao cap, v = .slice ao bs.length cap := by
  rcases h with ⟨rfl, ao, c, rfl⟩ | ⟨g, off, cap, rfl, _⟩
  · exact ⟨ao, c, rfl⟩
  · exact ⟨_, cap, rfl⟩

theorem RdQ.kept {S : Nat → Prop} {w w' : World} {v : Value} {bs : List Bool} (h : RdQ w v bs) (hc : Chg S w w') (hS : ∀ k, v.ownBlock = some k → ¬ S k) : RdQ w' v bs := by
  rcases h with h | ⟨g, off, cap, rfl, hcell⟩
  · exact .inl h
  · refine .inr ⟨g, off, cap, rfl, fun j hj => ?_⟩
    have := hcell j hj
    have hlt : g < w.heap.size := block_lt_of_cell this
    rw [World.cell?_of_block (w := w) (hc.block g hlt (hS g rfl))]; exact this

theorem RdQ.cells {w : World} {ao : Option Addr} {n cap : Nat} {bs : List Bool} (h : RdQ w (.slice ao n cap) bs) (hp : 0 < bs.length) : ∃ g off, ao = some ⟨g, off, none⟩ ∧ ∀ j (h : j < bs.length), w.cell? ⟨g, off + j, none⟩ = some (.bool bs[j]) := by
  rcases h with ⟨h0, _⟩ | ⟨g, off, cap', he, hc⟩
  · rw [h0] at hp; simp at hp
  · simp only [Value.slice.injEq] at he
    exact ⟨g, off, he.1, hc⟩

/-- a slice of a row of bits: v[l:h] and v[l:] -/
theorem slice_bits {w : World} {v : Value} {bs : List Bool} (ho : w.ownsRow 0 4 1 v bs.length (bl bs)) (l h : Nat) (hl : l ≤ h) (hh : h ≤ bs.length) :
    ∃ ao2 c2, (∀ W : World, (Instr.slice 26 v (some (.int .i64 (l : Int))) (some (.int .i64 (h : Int))) none).run Try.prog W = .ok (.slice ao2 (h - l) c2) W) ∧
      (h = bs.length → ∀ W : World, (Instr.slice 26 v (some (.int .i64 (l : Int))) none none).run Try.prog W = .ok (.slice ao2 (h - l) c2) W) ∧ RdQ w (.slice ao2 (h - l) c2) ((bs.drop l).take (h - l)) := by
  have hcapo : ∃ ao cap, v = .slice ao bs.length cap ∧ bs.length ≤ cap ∧ cap ≤ maxLen ∧ (0 < bs.length → ∃ g, ao = some ⟨g, 0, none⟩) := by
    rcases ho.2 with ⟨rfl, h0⟩ | ⟨g, cap, cur, rfl, _, _, h1, h2, _⟩
    · exact ⟨none, 0, by rw [h0], by omega, by unfold maxLen; omega, fun h => by omega⟩
    · exact ⟨_, cap, rfl, h1, h2, fun _ => ⟨g, rfl⟩⟩
  obtain ⟨ao, cap, rfl, hcap, hmax, hao⟩ := hcapo
  have hs : ∀ W, (sizeOf (Try.prog.elem 26)).run Try.prog W = .ok 1 W := fun W => by kernel_rfl
  refine ⟨if cap = l then ao else ao.map (·.add l), cap - l, fun W => ?_, fun he W => ?_, ?_⟩
  · rw [run_slice_lh W 26 ao bs.length cap (by kernel_rfl) .i64 .i64 (l : Int) (h : Int) (by omega) (by omega) (by omega), hs]
    simp [Result.andThen, sliced]
  · rw [run_slice_l W 26 ao bs.length cap (by kernel_rfl) .i64 (l : Int) (by omega) (by omega), hs]
    simp [Result.andThen, sliced, he]
  · by_cases hz : h = l
    · exact .inl ⟨by rw [hz, Nat.sub_self]; rfl, _, _, by rw [hz, Nat.sub_self]⟩
    · rw [if_neg (by omega)]
      obtain ⟨g, hg⟩ := hao (by omega)
      subst hg
      rw [show Option.map (fun x : Addr => x.add l) (some ⟨g, 0, none⟩) = some ⟨g, l, none⟩ from by simp [Addr.add]; omega]
      have elen : ((bs.drop l).take (h - l)).length = h - l := by rw [List.length_take, List.length_drop]; omega
      refine .inr ⟨g, l, _, by rw [elen], fun j hj => ?_⟩
      rw [elen] at hj
      rw [ho.cellAt (l + j) (by omega), bl_get bs (l + j) (by omega)]
      simp

set_option maxHeartbeats 1000000 in
theorem rnumber_q (v : Value) (bs : List Bool) (w : World) (h : RdQ w v bs) (hl : bs.length ≤ 24) :
    Calls Try.prog 35 #[v] w fun e w' => e = .returned (.int .u32 ((val bs : Nat) : Int)) ∧ w' = w := by
  obtain ⟨ao, cap, rfl⟩ := h.form
  have H := Lib.hid h
  clear h
  go_enter Try.func35, Try.ntmps35
  go_wp2
  go_loopw [3, 4] (fun o3 o4 wr => ∃ j : Nat, j ≤ bs.length ∧ o4 = .int .i64 ((j : Int) - 1) ∧ o3 = .int .u32 ((val (bs.drop j) : Nat) : Int) ∧ wr = w) (fun _ o4 _ => (intOf o4 + 1).toNat)
  case atStart => exact ⟨bs.length, Nat.le_refl _, rfl, by simp [val], rfl⟩
  case round =>
    obtain ⟨j, hj, rfl, rfl, rfl⟩ := hrel
    rcases j with _ | j
    · go_wp2
      go_ret
      exact ⟨rfl, rfl⟩
    · have hij : (((j + 1 : Nat) : Int) - 1) = (j : Int) := by omega
      rw [hij]
      obtain ⟨g, off, hao, hcell⟩ := H.out.cells (by omega)
      subst hao
      have hc := hcell j (by omega)
      have hv := val_drop_succ bs j (by omega)
      have hb := val_lt (bs.drop (j + 1))
      have hb2 : 2 ^ (bs.drop (j + 1)).length ≤ 2 ^ 23 := Nat.pow_le_pow_right (by omega) (by rw [List.length_drop]; omega)
      obtain ⟨y, hy⟩ : ∃ y, val (bs.drop (j + 1)) = y := ⟨_, rfl⟩
      have hy2 : y < 8388608 := by rw [← hy]; omega
      rw [hy] at hv ⊢
      have HV := Lib.hid hv
      clear hv hb hb2 hy hij hcell
      cases hbj : bs[j]
      · rw [hbj] at hc HV
        clear hbj
        go_wp2
        go_roundw
        case rel => exact ⟨j, by omega, rfl, by rw [HV.out]; simp <;> omega, trivial⟩
        case measure => simp [intOf]
      · rw [hbj] at hc HV
        clear hbj
        go_wp2
        go_roundw
        case rel => exact ⟨j, by omega, rfl, by rw [HV.out]; simp <;> omega, trivial⟩
        case measure => simp [intOf]

set_option maxHeartbeats 1000000 in
theorem rbytes_q (v : Value) (bs : List Bool) (w : World) (h : RdQ w v bs) (hlen : bs.length < 1000000) :
    Calls Try.prog 16 #[v] w fun e w' => Fresh w (pack bs) e w' := by
  obtain ⟨i, hi, hz0, hz1, hz2⟩ := info_parts Try.infoU8
  obtain ⟨ao, cap, rfl⟩ := h.form
  have H := Lib.hid h
  clear h
  have hby : i.bytes * ((bs.length + 7) / 8) ≤ 281474976710656 := by rw [hz2]; omega
  go_enter Try.func16, Try.ntmps16
  go_wp2_with (at_make; refine wpList_make_full _ rfl (.tmp 8) (.tmp 8) 32 rfl w.heap.size 5 i (.int .u8 0) 1 Try.underlying32 hi hz0 hz1 .i64 .i64 _ _ ((bs.length + 7) / 8) rfl rfl (by omega) (by omega) hby (by unfold maxLen; omega) (Nat.le_refl _) ?_)
  intro w1 hown1 hgrow1
  rw [zeros_bv, ← packTo_zero] at hown1
  have hc1 : Chg (fun _ => False) w w1 := (Chg.of_grown hgrow1).mono fun k _ hk => by simp at hk
  clear hgrow1
  go_wp2
  go_loopw [4] (fun o4 wr => ∃ k : Nat, k ≤ bs.length ∧ o4 = .int .i64 (k : Int) ∧ wr.ownsRow w.heap.size 5 1 (.slice (some ⟨w.heap.size, 0, none⟩) ((bs.length + 7) / 8) ((bs.length + 7) / 8)) ((bs.length + 7) / 8) (bv (packTo bs k)) ∧ Chg (fun _ => False) w wr) (fun o4 _ => bs.length - (intOf o4).toNat)
  case atStart => exact ⟨0, Nat.zero_le _, rfl, hown1, hc1⟩
  case round =>
    obtain ⟨k, hk, rfl, ho, hc⟩ := hrel
    clear hown1 hc1
    by_cases hlt : k < bs.length
    · obtain ⟨g, off, hao, hcells⟩ := (H.out.kept hc (by simp)).cells (by omega)
      subst hao
      have hcell := hcells k hlt
      clear hcells
      have hs1 := packTo_succ bs k hlt
      have hlt2 := packTo_lt bs k hlt
      have hb := ho.cellAt (k / 8) (by omega)
      rw [bv_get _ _ (by rw [packTo_length]; omega)] at hb
      have hfr := ho.frozenAt (k / 8)
      have hadd := add_u8 _ (k % 8) (by omega) hlt2
      have hst := ho.stored (k / 8) (.int .u8 (((packTo bs k).getD (k / 8) 0 + 2 ^ (k % 8) : Nat) : Int))
      rw [bv_set] at hst
      cases hbk : bs[k]
      · rw [hbk] at hs1 hcell
        simp only [Bool.toNat_false, Nat.zero_mul, Nat.add_zero] at hs1
        have hs2 : packTo bs (k + 1) = packTo bs k := by
          rw [hs1]
          have hl : k / 8 < (packTo bs k).length := by rw [packTo_length]; omega
          rw [List.getD_eq_getElem?_getD, List.getElem?_eq_getElem hl]; simp
        have HS2 := Lib.hid hs2
        clear hs1 hs2 hst hadd hbk hlt2
        go_wp2
        go_roundw
        case rel => exact ⟨k + 1, by omega, by go_num, by rw [HS2.out]; exact ho, hc⟩
        case measure => simp [intOf]; omega
      · rw [hbk] at hs1 hcell
        simp only [Bool.toNat_true, Nat.one_mul] at hs1
        rw [← hs1] at hst
        generalize hx : (packTo bs k).getD (k / 8) 0 = x at *
        have hst1 := hst.1
        have hc2 : Chg (fun _ => False) w (wr.setCell ⟨w.heap.size, k / 8, none⟩ (.int .u8 ((x + 2 ^ (k % 8) : Nat) : Int))) := hc.trans (Chg.setCell wr ⟨w.heap.size, k / 8, none⟩ _) (fun j hj h => by simp at h; omega)
        have hx2 : 2 ^ (k % 8) ≤ 2 ^ 7 := Nat.pow_le_pow_right (by omega) (by omega)
        have hx256 : x < 256 := by omega
        have HA := Lib.hid hadd; have HST := Lib.hid hst1; have HC2 := Lib.hid hc2
        clear hs1 hst hst1 hc2 hbk hlt2 hx hadd hx2
        go_wp2
        go_region
        go_wp2
        go_roundw
        case rel =>
          refine ⟨k + 1, by omega, by go_num, ?_, ?_⟩
          · rw [HA.out]; exact HST.out.drew
          · rw [HA.out]; exact HC2.out.drew
        case measure => simp [intOf]; omega
    · obtain rfl : k = bs.length := by omega
      rw [packTo_all] at ho
      go_wp2
      go_ret
      exact ⟨w.heap.size, (bs.length + 7) / 8, by rw [pack_length]; rfl, by rw [pack_length]; exact ho, hc⟩

/-- The document's Reader at block b, its bits bs in the block o (none: there are none), of which p were taken. -/
def Xr (w : World) (b : Nat) (o : Option Nat) (bs : List Bool) (p : Nat) : Prop :=
  bs.length < 1000000 ∧ p ≤ bs.length ∧ ∃ v, w.heap[b]? = some (.cells #[v, .int .i64 (p : Int)] 58 (0, 0)) ∧ v.ownBlock = o ∧ w.ownsRow 0 4 1 v bs.length (bl bs)

theorem Xr.lt {w : World} {b : Nat} {o : Option Nat} {bs : List Bool} {p : Nat} (h : Xr w b o bs p) : b < w.heap.size ∧ ∀ k, o = some k → k < w.heap.size ∧ k ≠ b := by
  obtain ⟨_, _, v, hb, ho, hown⟩ := h
  refine ⟨lt_of_block hb, fun k hk => ?_⟩
  have hk' := ho.trans hk
  refine ⟨(hown.lt k hk').2, ?_⟩
  rcases hown.2 with ⟨rfl, _⟩ | ⟨q, cap, cur, rfl, _, hq, _⟩
  · simp [Value.ownBlock] at hk'
  · simp only [Value.ownBlock, Option.some.injEq] at hk'
    subst hk'
    rintro rfl
    rw [hb] at hq
    simp at hq

theorem Xr.kept {S : Nat → Prop} {w w' : World} {b : Nat} {o : Option Nat} {bs : List Bool} {p : Nat} (h : Xr w b o bs p) (hc : Chg S w w') (h1 : ¬ S b) (h2 : ∀ k, o = some k → ¬ S k) : Xr w' b o bs p := by
  have hl := h.lt
  obtain ⟨e1, e2, v, hb, ho, hown⟩ := h
  exact ⟨e1, e2, v, (hc.block b hl.1 h1).trans hb, ho, hc.own hown (fun k hk => h2 k (ho.symm.trans hk))⟩

theorem xnew_any (v : Value) (xs : List Nat) (w : World) (h : RdB w v xs) (hl : xs.length ≤ 100000) (hx : ∀ x ∈ xs, x < 256) :
    Calls Try.prog 18 #[v] w fun e w' => ∃ b o, e = .returned (.pointer (some ⟨b, 0, none⟩)) ∧ Xr w' b o (bitsB xs) 0 ∧ Above w.heap.size b o ∧ Chg (fun _ => False) w w' := by
  go_enter Try.func18, Try.ntmps18
  go_wp2_with fail
  refine (rbits_any v xs w h hx (by omega)).mono ?_
  rintro e w1 ⟨v1, rfl, ho, hc⟩
  have hlt := ho.lt
  obtain ⟨ao, cap, hv, -⟩ := own_src ho
  subst hv
  have HO := Lib.hid ho; have HC := Lib.hid hc; have HLT := Lib.hid hlt
  clear h hx ho hc hlt
  go_wp2
  go_ret
  have hsz := HC.out.size
  exact ⟨w1.heap.size, (Value.slice ao (bitsB xs).length cap).ownBlock, rfl, ⟨by rw [bitsB_length]; omega, Nat.zero_le _, _, heap_alloc_new w1 _, rfl, ownsRow_mono (HO.out.alloc _) (Nat.zero_le _)⟩, ⟨hsz, fun k hk => (HLT.out k hk).1⟩, HC.out.trans (Chg.alloc _ w1 _) (fun _ _ h => h)⟩

theorem xleft_q (b : Nat) (o : Option Nat) (bs : List Bool) (p : Nat) (w : World) (h : Xr w b o bs p) :
    Calls Try.prog 22 #[.pointer (some ⟨b, 0, none⟩)] w fun e w' => e = .returned (.int .i64 ((bs.length - p : Nat) : Int)) ∧ ∃ m, w' = w.drewN m := by
  obtain ⟨hl, hp, v, hb, -, hown⟩ := h
  obtain ⟨ao, cap, rfl, -⟩ := own_src hown
  obtain ⟨c0, c1, f0, f1⟩ := cells2 hb
  clear hb hown
  go_enter Try.func22, Try.ntmps22
  go_wp2
  go_quiet (fail)
  go_wp2
  go_ret
  exact ⟨congrArg (fun z => Ending.returned (Value.int .i64 z)) (by omega), _, rfl⟩

theorem xleft_any (b : Nat) (o : Option Nat) (bs : List Bool) (p : Nat) (w : World) (h : Xr w b o bs p) :
    Calls Try.prog 22 #[.pointer (some ⟨b, 0, none⟩)] w fun e w' => e = .returned (.int .i64 ((bs.length - p : Nat) : Int)) ∧ Chg (fun _ => False) w w' :=
  (xleft_q b o bs p w h).mono fun e w' ⟨h1, m, h2⟩ => ⟨h1, by rw [h2]; exact (Chg.refl _ _).drewN m⟩

theorem xtake_no (b : Nat) (o : Option Nat) (bs : List Bool) (p : Nat) (n : Int) (w : World) (h : Xr w b o bs p) (hn : n < 0 ∨ 24 < n ∨ ((bs.length - p : Nat) : Int) < n) :
    Calls Try.prog 31 #[.pointer (some ⟨b, 0, none⟩), .int .i64 n] w fun e w' => e = .returned (.tuple #[.int .u32 0, .bool false]) ∧ Chg (fun _ => False) w w' := by
  by_cases h0 : n < 0
  · have h0' : decide (n < 0) = true := by simpa using h0
    clear h
    go_enter Try.func31, Try.ntmps31
    go_wp2
    go_ret2
    exact ⟨rfl, Chg.refl _ _⟩
  · have h0' : decide (n < 0) = false := by simpa using h0
    by_cases h1 : 24 < n
    · have h1' : decide (24 < n) = true := by simpa using h1
      clear h
      go_enter Try.func31, Try.ntmps31
      go_wp2
      go_ret2
      exact ⟨rfl, Chg.refl _ _⟩
    · have h1' : decide (24 < n) = false := by simpa using h1
      have h2' : ((bs.length - p : Nat) : Int) < n := by omega
      have H := Lib.hid h
      clear h hn
      obtain ⟨L, hL⟩ : ∃ L, bs.length - p = L := ⟨_, rfl⟩
      rw [hL] at h2'
      have HL := Lib.hid hL
      clear hL
      go_enter Try.func31, Try.ntmps31
      go_wp2_with fail
      refine (xleft_any b o bs p w H.out).mono ?_
      rintro e w1 ⟨rfl, hc⟩
      rw [HL.out]
      go_wp2
      go_ret2
      exact ⟨rfl, hc⟩

set_option maxHeartbeats 1000000 in
theorem xtake_yes (b : Nat) (o : Option Nat) (bs : List Bool) (p n : Nat) (w : World) (h : Xr w b o bs p) (hn : n ≤ 24) (hnl : p + n ≤ bs.length) :
    Calls Try.prog 31 #[.pointer (some ⟨b, 0, none⟩), .int .i64 (n : Int)] w fun e w' => e = .returned (.tuple #[.int .u32 ((val ((bs.drop p).take n) : Nat) : Int), .bool true]) ∧ Xr w' b o bs (p + n) ∧ Chg (fun k => k = b) w w' := by
  have h0' : decide ((n : Int) < 0) = false := by simp
  have h1' : decide (24 < (n : Int)) = false := by simp; omega
  have H := Lib.hid h
  obtain ⟨hl, -, -⟩ := h
  obtain ⟨L, hL⟩ : ∃ L, bs.length - p = L := ⟨_, rfl⟩
  have h2' : ¬ (L : Int) < (n : Int) := by omega
  have hp6 : p < 1000000 := by omega
  have HL := Lib.hid hL; have HNL := Lib.hid hnl; have HLL := Lib.hid hl
  clear hL hnl hl
  go_enter Try.func31, Try.ntmps31
  go_wp2_with fail
  refine (xleft_any b o bs p w H.out).mono ?_
  rintro e w1 ⟨rfl, hc⟩
  rw [HL.out]
  have h1 := H.out.kept hc (by simp) (by simp)
  have hne := h1.lt.2
  obtain ⟨-, -, v, hb, ho, hown⟩ := h1
  obtain ⟨ao2, c2, hsl, -, hq⟩ := slice_bits hown p (p + n) (by omega) HNL.out
  rw [Nat.add_sub_cancel_left] at hq
  have hsl' : ∀ W : World, (Instr.slice 26 v (some (.int .i64 (p : Int))) (some (.int .i64 ((p : Int) + (n : Int)))) none).run Try.prog W = .ok (.slice ao2 n c2) W := by
    intro W
    have := hsl W
    rw [Nat.add_sub_cancel_left, show ((p + n : Nat) : Int) = (p : Int) + (n : Int) from by omega] at this
    exact this
  clear hsl
  have HNUM : Hid (∀ m : Nat, Calls Try.prog 35 #[.slice ao2 n c2] (w1.drewN m) fun e w' => e = .returned (.int .u32 ((val ((bs.drop p).take n) : Nat) : Int)) ∧ w' = w1.drewN m) := by
    refine Lib.hid fun m => rnumber_q _ _ _ ?_ (by rw [List.length_take]; omega)
    exact hq
  obtain ⟨ao, cap, hv, -⟩ := own_src hown
  subst hv
  obtain ⟨d0, d1, e0, e1⟩ := cells2 hb
  have hb1 := set2_1 (u := .int .i64 ((p : Int) + (n : Int))) hb
  have hc1 := Chg.setCell w1 ⟨b, 1, none⟩ (.int .i64 ((p : Int) + (n : Int)))
  have ho1 := hc1.own hown (fun q hq hx => (hne q (ho.symm.trans hq)).2 hx)
  have hw1 : IntKind.i64.wrap ((p : Int) + (n : Int)) = (p : Int) + (n : Int) := by rw [IntKind.wrap_i64]; omega
  have HB1 := Lib.hid hb1; have HC1 := Lib.hid hc1; have HO1 := Lib.hid ho1; have HO := Lib.hid ho; have HC := Lib.hid hc
  clear hb1 hc1 ho1 hb hown hne ho hc H HL hq
  go_wp2
  go_quiet (first | (go_at_call 35; exact Calls.quiet_of_same (HNUM.out _)))
  go_wp2
  go_ret2
  exact ⟨rfl, ⟨HLL.out, HNL.out, _, HB1.out, HO.out, HO1.out⟩, ((HC.out.drewN nq).mono (fun _ _ h => h.elim)).trans (Chg.setCell (w1.drewN nq) ⟨b, 1, none⟩ _) (fun _ _ h => h)⟩

theorem xtake_f (b : Nat) (o : Option Nat) (xs : List Nat) (p : Nat) (n : Int) (w : World) (h : Xr w b o (bitsB xs) p) :
    Calls Try.prog 31 #[.pointer (some ⟨b, 0, none⟩), .int .i64 n] w fun e w' => e = .returned (.tuple #[.int .u32 (((ftk xs p n).1 : Nat) : Int), .bool (ftk xs p n).2.1]) ∧ Xr w' b o (bitsB xs) (ftk xs p n).2.2 ∧ Chg (fun k => k = b) w w' := by
  have hp := h.2.1
  have hl := bitsB_length xs
  by_cases hn : n < 0 ∨ 24 < n ∨ (((bitsB xs).length - p : Nat) : Int) < n
  · have e1 : ftk xs p n = (0, false, p) := by unfold ftk; rw [if_neg (by omega)]
    refine (xtake_no b o _ p n w h hn).mono ?_
    rintro e w' ⟨rfl, hc⟩
    rw [e1]; exact ⟨rfl, h.kept hc (by simp) (by simp), hc.mono (fun _ _ h => h.elim)⟩
  · obtain ⟨m, rfl⟩ := Int.eq_ofNat_of_zero_le (show 0 ≤ n by omega)
    have e1 : ftk xs p (m : Int) = (fv xs p m, true, p + m) := by unfold ftk; rw [if_pos (by omega)]; rfl
    refine (xtake_yes b o _ p m w h (by omega) (by omega)).mono ?_
    rintro e w' ⟨rfl, hr, hc⟩
    rw [e1]; exact ⟨rfl, hr, hc⟩

theorem bits_bt (xs : List Nat) (j : Nat) (h : j < (bitsB xs).length) : (bitsB xs)[j] = decide (bt xs j = 1) := by
  have e := bitsB_get xs j (by rw [← bitsB_length]; exact h)
  rw [List.getElem?_eq_getElem h] at e
  exact Option.some.inj e

theorem drop_bits (xs : List Nat) (E : Nat) : (bitsB xs).drop (8 * E) = bitsB (xs.drop E) := by
  by_cases h : E ≤ xs.length
  · conv => lhs; rw [← List.take_append_drop E xs, bitsB_append]
    have el : 8 * E = (bitsB (xs.take E)).length := by rw [bitsB_length, List.length_take, Nat.min_eq_left h]
    rw [el, List.drop_left]
  · rw [List.drop_eq_nil_of_le (by rw [bitsB_length]; omega), List.drop_eq_nil_of_le (by omega)]; rfl

end Go.Proofs.Ythenjooffkbkpaa
