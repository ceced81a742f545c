/- What the document's own Put, Bytes and Close (puncheonref01) tell. -/
import Derived.Test.YthenjooffkbkpaaBwFoot
import Derived.Test.YthenjooffkbkpaaBwMark
import Derived.Test.YthenjooffkbkpaaBoolRow
namespace Go.Proofs.Ythenjooffkbkpaa
open Go.RowKit


/-- The value is a slice of the bits bs, in a row of the call's own (or nil). -/
def Bools (w : World) (v : Value) (bs : List Bool) : Prop := ∃ base, w.ownsRow base 4 1 v bs.length (bl bs)


set_option maxHeartbeats 1000000 in
theorem rput_any (v : Value) (bs : List Bool) (u n : Nat) (w : World) (h : Bools w v bs) (hlen : bs.length < 1000000) (hn : n ≤ 24) (hu : u < 4294967296) :
    Calls Try.prog 25 #[v, .int .u32 (u : Int), .int .i64 (n : Int)] w fun e w' => ∃ v', e = .returned v' ∧ w'.ownsRow w.heap.size 4 1 v' (bs ++ bitsOf u n).length (bl (bs ++ bitsOf u n)) ∧ Chg (fun _ => False) w w' := by
  obtain ⟨base, hown⟩ := h
  obtain ⟨i, hi, hz0, hz1, hz2⟩ := info_parts Try.infoBool
  rcases hown.2 with ⟨rfl, h0⟩ | ⟨g, cap, cur, rfl, hb, hg, hrest⟩
  · have hbs : bs = [] := List.eq_nil_of_length_eq_zero h0
    have HOWN : Hid ((w.alloc (.cells #[] 4)).ownsRow w.heap.size 4 1 (.slice (some ⟨w.heap.size, 0, none⟩) 0 0) bs.length (bl bs)) := by
      rw [hbs]; exact World.ownsRow_made w #[] 0 (Nat.le_refl _) (by unfold maxLen; omega) rfl
    clear hbs h0 hown
    have HCHG : Hid (Chg (fun _ => False) w (w.alloc (.cells #[] 4))) := Chg.alloc _ w _
    go_enter Try.func25, Try.ntmps25
    go_wp2
    go_loopw [7, 8, 1] (fun o7 o8 o1 wr => ∃ k : Nat, k ≤ n ∧ o8 = .int .i64 (k : Int) ∧ o1 = .int .u32 ((u / 2 ^ k : Nat) : Int) ∧ wr.ownsRow w.heap.size 4 1 o7 (bs.length + k) (bl (bs ++ bitsOf u k)) ∧ Chg (fun _ => False) w wr) (fun _ o8 _ _ => n - (intOf o8).toNat)
    case atStart => exact ⟨0, Nat.zero_le _, rfl, by simp, by simpa [bitsOf] using HOWN.out, HCHG.out⟩
    case round =>
      obtain ⟨k, hk, rfl, rfl, ho, hc⟩ := hrel
      by_cases hlt : k < n
      · have hd := Nat.div_le_self u (2 ^ k)
        have hsz := hc.size
        have hb2 : u / 2 ^ k / 2 = u / 2 ^ (k + 1) := by rw [Nat.div_div_eq_div_mul, Nat.pow_succ]
        have hbit : ((((u / 2 ^ k : Nat) : Int) % 2 == 1)) = decide (u / 2 ^ k % 2 = 1) := by
          rw [Bool.eq_iff_iff]; generalize u / 2 ^ k = y; simp; omega
        have hsn : bl (bs ++ bitsOf u k) ++ [.bool (decide (u / 2 ^ k % 2 = 1))] = bl (bs ++ bitsOf u (k + 1)) := by simp [bl, bitsOf]
        have HS := Lib.hid hsn; have HB2 := Lib.hid hb2; have HBit := Lib.hid hbit
        clear hsn hb2 hbit
        generalize hy : u / 2 ^ k = y at *
        have HY := Lib.hid hy
        clear hy
        go_wp2_with (at_builtin; refine wpList_append_own _ rfl (.tmp 17) (.tmp 21) 26 rfl w.heap.size 4 i (.bool false) 1 1 Try.underlying26 hi hz0 hz1 hz2 rfl (by decide) _ (bs.length + k) _ rfl (ho.alloc _) ⟨wr.heap.size, 0, none⟩ 1 1 _ rfl rfl (cell_one_new _ _ _) ?_ (by unfold maxLen; omega) (by omega) (by simp; omega) ?_)
        · intro x hx; simp at hx; subst hx; rfl
        intro v' w1 ho1 hg1 _
        have hc1 : Chg (fun _ => False) w w1 := (hc.trans (Chg.alloc (fun _ => False) wr _) (fun _ _ h => h)).trans (Chg.of_grown hg1) (fun j hj hx => by have := (ho.lt j hx.symm).1; omega)
        rw [HBit.out, HS.out] at ho1
        clear hg1 ho hc
        go_wp2
        go_roundw
        case rel => exact ⟨k + 1, by omega, by go_num, by rw [← HB2.out]; go_num, ho1, hc1⟩
        case measure => simp [intOf]; omega
      · obtain rfl : k = n := by omega
        go_wp2
        go_ret
        exact ⟨_, rfl, by simpa [bitsOf_length] using ho, hc⟩
  · have HG := Lib.hid hg; have HR := Lib.hid hrest
    have hgl := lt_of_block hg
    have hcells := (hown.alloc (.cells #[] 4)).cells (g := g) rfl
    have HCE := Lib.hid hcells
    clear hg hrest hcells
    go_enter Try.func25, Try.ntmps25
    go_wp2_with (at_builtin; refine wpList_append_own _ rfl (.tmp 9) (.tmp 10) 26 rfl w.heap.size 4 i (.bool false) 1 1 Try.underlying26 hi hz0 hz1 hz2 rfl (by decide) _ 0 _ rfl (World.ownsRow_made w #[] 0 (Nat.le_refl _) (by unfold maxLen; omega) rfl) ⟨g, 0, none⟩ bs.length cap (bl bs) rfl (by rw [bl_length, Nat.mul_one]) HCE.out (bl_one bs) (by unfold maxLen; omega) (by omega) (by simp) ?_)
    intro v7 w7 ho7 hg7 _
    have hc7 : Chg (fun _ => False) w w7 := (Chg.alloc (fun _ => False) w _).trans (Chg.of_grown hg7) (fun j hj hx => by simp [Value.ownBlock] at hx; omega)
    have HOWN := Lib.hid ho7
    have HCHG := Lib.hid hc7
    clear ho7 hc7 hg7
    go_wp2
    go_loopw [7, 8, 1] (fun o7 o8 o1 wr => ∃ k : Nat, k ≤ n ∧ o8 = .int .i64 (k : Int) ∧ o1 = .int .u32 ((u / 2 ^ k : Nat) : Int) ∧ wr.ownsRow w.heap.size 4 1 o7 (bs.length + k) (bl (bs ++ bitsOf u k)) ∧ Chg (fun _ => False) w wr) (fun _ o8 _ _ => n - (intOf o8).toNat)
    case atStart => exact ⟨0, Nat.zero_le _, rfl, by simp, by simpa [bitsOf] using HOWN.out, HCHG.out⟩
    case round =>
      obtain ⟨k, hk, rfl, rfl, ho, hc⟩ := hrel
      by_cases hlt : k < n
      · have hd := Nat.div_le_self u (2 ^ k)
        have hsz := hc.size
        have hb2 : u / 2 ^ k / 2 = u / 2 ^ (k + 1) := by rw [Nat.div_div_eq_div_mul, Nat.pow_succ]
        have hbit : ((((u / 2 ^ k : Nat) : Int) % 2 == 1)) = decide (u / 2 ^ k % 2 = 1) := by
          rw [Bool.eq_iff_iff]; generalize u / 2 ^ k = y; simp; omega
        have hsn : bl (bs ++ bitsOf u k) ++ [.bool (decide (u / 2 ^ k % 2 = 1))] = bl (bs ++ bitsOf u (k + 1)) := by simp [bl, bitsOf]
        have HS := Lib.hid hsn; have HB2 := Lib.hid hb2; have HBit := Lib.hid hbit
        clear hsn hb2 hbit
        generalize hy : u / 2 ^ k = y at *
        have HY := Lib.hid hy
        clear hy
        go_wp2_with (at_builtin; refine wpList_append_own _ rfl (.tmp 17) (.tmp 21) 26 rfl w.heap.size 4 i (.bool false) 1 1 Try.underlying26 hi hz0 hz1 hz2 rfl (by decide) _ (bs.length + k) _ rfl (ho.alloc _) ⟨wr.heap.size, 0, none⟩ 1 1 _ rfl rfl (cell_one_new _ _ _) ?_ (by unfold maxLen; omega) (by omega) (by simp; omega) ?_)
        · intro x hx; simp at hx; subst hx; rfl
        intro v' w1 ho1 hg1 _
        have hc1 : Chg (fun _ => False) w w1 := (hc.trans (Chg.alloc (fun _ => False) wr _) (fun _ _ h => h)).trans (Chg.of_grown hg1) (fun j hj hx => by have := (ho.lt j hx.symm).1; omega)
        rw [HBit.out, HS.out] at ho1
        clear hg1 ho hc
        go_wp2
        go_roundw
        case rel => exact ⟨k + 1, by omega, by go_num, by rw [← HB2.out]; go_num, ho1, hc1⟩
        case measure => simp [intOf]; omega
      · obtain rfl : k = n := by omega
        go_wp2
        go_ret
        exact ⟨_, rfl, by simpa [bitsOf_length] using ho, hc⟩

/-- bytes of the first i bits, in as many bytes as all bits need -/
def packTo (bs : List Bool) (i : Nat) : List Nat := (List.range ((bs.length + 7) / 8)).map (byteAt (bs.take i))
theorem packTo_length (bs : List Bool) (i : Nat) : (packTo bs i).length = (bs.length + 7) / 8 := by simp [packTo]
theorem packTo_all (bs : List Bool) : packTo bs bs.length = pack bs := by simp [packTo, pack]
theorem packTo_zero (bs : List Bool) : packTo bs 0 = List.replicate ((bs.length + 7) / 8) 0 := by
  apply List.ext_getElem (by simp [packTo])
  intro j h1 h2
  simp [packTo, byteAt, val]
theorem packTo_get (bs : List Bool) (i j : Nat) (h : j < (bs.length + 7) / 8) : (packTo bs i).getD j 0 = byteAt (bs.take i) j := by
  simp [packTo, h]
theorem take_len_le (bs : List Bool) (i : Nat) (h : i ≤ bs.length) : (bs.take i).length = i := by simp; omega
theorem packTo_lt (bs : List Bool) (i : Nat) (h : i < bs.length) : (packTo bs i).getD (i / 8) 0 < 2 ^ (i % 8) := by
  rw [packTo_get _ _ _ (by omega)]
  have := byteAt_last_lt (bs.take i)
  rwa [take_len_le bs i (by omega)] at this
theorem packTo_succ (bs : List Bool) (i : Nat) (h : i < bs.length) : packTo bs (i + 1) = (packTo bs i).set (i / 8) ((packTo bs i).getD (i / 8) 0 + (bs[i]).toNat * 2 ^ (i % 8)) := by
  have ht := take_len_le bs i (by omega)
  have hsn := byteAt_snoc (bs.take i) bs[i]
  rw [ht] at hsn
  have e : bs.take (i + 1) = bs.take i ++ [bs[i]] := List.take_succ_eq_append_getElem h
  apply List.ext_getElem (by simp [packTo])
  intro j h1 h2
  have hj : j < (bs.length + 7) / 8 := by rw [packTo_length] at h1; exact h1
  by_cases hji : j = i / 8
  · subst hji
    rw [List.getElem_set_self, packTo_get _ _ _ hj]
    simp only [packTo, List.getElem_map, List.getElem_range]
    rw [e, hsn]
  · rw [List.getElem_set_ne (by omega)]
    simp only [packTo, List.getElem_map, List.getElem_range]
    rw [e]
    by_cases hlt : j < i / 8
    · rw [byteAt_append_left _ _ _ (by rw [ht]; omega)]
    · unfold byteAt
      rw [List.drop_eq_nil_of_le (by rw [List.length_append, ht]; simp; omega), List.drop_eq_nil_of_le (by rw [ht]; omega)]

theorem add_u8 (x k : Nat) (hk : k < 8) (hx : x < 2 ^ k) : ((x : Int) + 2 ^ k) % 256 = ((x + 2 ^ k : Nat) : Int) := by
  have h2 : 2 ^ k ≤ 2 ^ 7 := Nat.pow_le_pow_right (by omega) (by omega)
  have e : ((2 : Int) ^ k) = ((2 ^ k : Nat) : Int) := by simp
  rw [e]
  generalize 2 ^ k = y at *
  omega


set_option maxHeartbeats 1000000 in
theorem rbytes_any (v : Value) (bs : List Bool) (w : World) (h : Bools w v bs) (hlen : bs.length < 1000000) :
    Calls Try.prog 16 #[v] w fun e w' => Fresh w (pack bs) e w' := by
  obtain ⟨base, hown⟩ := h
  obtain ⟨i, hi, hz0, hz1, hz2⟩ := info_parts Try.infoU8
  obtain ⟨ao, cap, rfl, hsrc⟩ := own_src hown
  have hby : i.bytes * ((bs.length + 7) / 8) ≤ 281474976710656 := by rw [hz2]; omega
  have HS := Lib.hid hsrc
  clear hsrc
  go_enter Try.func16, Try.ntmps16
  go_wp2_with (at_make; refine wpList_make_full _ rfl (.tmp 8) (.tmp 8) 32 rfl w.heap.size 5 i (.int .u8 0) 1 Try.underlying32 hi hz0 hz1 .i64 .i64 _ _ ((bs.length + 7) / 8) rfl rfl (by omega) (by omega) hby (by unfold maxLen; omega) (Nat.le_refl _) ?_)
  intro w1 hown1 hgrow1
  rw [zeros_bv, ← packTo_zero] at hown1
  have hc1 : Chg (fun _ => False) w w1 := (Chg.of_grown hgrow1).mono fun k _ hk => by simp at hk
  clear hgrow1
  go_wp2
  go_loopw [4] (fun o4 wr => ∃ k : Nat, k ≤ bs.length ∧ o4 = .int .i64 (k : Int) ∧ wr.ownsRow w.heap.size 5 1 (.slice (some ⟨w.heap.size, 0, none⟩) ((bs.length + 7) / 8) ((bs.length + 7) / 8)) ((bs.length + 7) / 8) (bv (packTo bs k)) ∧ Chg (fun _ => False) w wr) (fun o4 _ => bs.length - (intOf o4).toNat)
  case atStart => exact ⟨0, Nat.zero_le _, rfl, hown1, hc1⟩
  case round =>
    obtain ⟨k, hk, rfl, ho, hc⟩ := hrel
    clear hown1 hc1
    by_cases hlt : k < bs.length
    · have hownr := hc.own hown (fun _ _ => by simp)
      obtain ⟨_, _, hv1, hsr⟩ := own_src hownr
      simp only [Value.slice.injEq, true_and] at hv1
      obtain ⟨rfl, rfl⟩ := hv1
      obtain ⟨g, cap', hg, _⟩ := slice_of_own hownr (by omega)
      simp only [Value.slice.injEq, true_and] at hg
      obtain ⟨rfl, rfl⟩ := hg
      have hcell := hownr.cellAt k (by omega)
      rw [bl_get bs k hlt] at hcell
      have hs1 := packTo_succ bs k hlt
      have hlt2 := packTo_lt bs k hlt
      have hb := ho.cellAt (k / 8) (by omega)
      rw [bv_get _ _ (by rw [packTo_length]; omega)] at hb
      have hfr := ho.frozenAt (k / 8)
      have hadd := add_u8 _ (k % 8) (by omega) hlt2
      have hst := ho.stored (k / 8) (.int .u8 (((packTo bs k).getD (k / 8) 0 + 2 ^ (k % 8) : Nat) : Int))
      rw [bv_set] at hst
      cases hbk : bs[k]
      · rw [hbk] at hs1 hcell
        simp only [Bool.toNat_false, Nat.zero_mul, Nat.add_zero] at hs1
        have hs2 : packTo bs (k + 1) = packTo bs k := by
          rw [hs1]
          have hl : k / 8 < (packTo bs k).length := by rw [packTo_length]; omega
          rw [List.getD_eq_getElem?_getD, List.getElem?_eq_getElem hl]; simp
        have HS2 := Lib.hid hs2
        clear hs1 hs2 hst hadd hbk hlt2 hownr hsr
        go_wp2
        go_roundw
        case rel => exact ⟨k + 1, by omega, by go_num, by rw [HS2.out]; exact ho, hc⟩
        case measure => simp [intOf]; omega
      · rw [hbk] at hs1 hcell
        simp only [Bool.toNat_true, Nat.one_mul] at hs1
        rw [← hs1] at hst
        generalize hx : (packTo bs k).getD (k / 8) 0 = x at *
        have hst1 := hst.1
        have hc2 : Chg (fun _ => False) w (wr.setCell ⟨w.heap.size, k / 8, none⟩ (.int .u8 ((x + 2 ^ (k % 8) : Nat) : Int))) := hc.trans (Chg.setCell wr ⟨w.heap.size, k / 8, none⟩ _) (fun j hj h => by simp at h; omega)
        have hx2 : 2 ^ (k % 8) ≤ 2 ^ 7 := Nat.pow_le_pow_right (by omega) (by omega)
        have hx256 : x < 256 := by omega
        have HA := Lib.hid hadd; have HST := Lib.hid hst1; have HC2 := Lib.hid hc2
        clear hs1 hst hst1 hc2 hbk hlt2 hownr hsr hx hadd hx2
        go_wp2
        go_region
        go_wp2
        go_roundw
        case rel =>
          refine ⟨k + 1, by omega, by go_num, ?_, ?_⟩
          · rw [HA.out]; exact HST.out.drew
          · rw [HA.out]; exact HC2.out.drew
        case measure => simp [intOf]; omega
    · obtain rfl : k = bs.length := by omega
      rw [packTo_all] at ho
      go_wp2
      go_ret
      exact ⟨w.heap.size, (bs.length + 7) / 8, by rw [pack_length]; rfl, by rw [pack_length]; exact ho, hc⟩

end Go.Proofs.Ythenjooffkbkpaa
