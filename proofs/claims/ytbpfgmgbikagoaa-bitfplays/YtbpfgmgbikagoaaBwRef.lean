/- What the document's own Put, Bytes and Close (puncheonref01) tell. -/
import Derived.Test.YtbpfgmgbikagoaaBwFoot
import Derived.Test.YtbpfgmgbikagoaaBwMark
import Derived.Test.YtbpfgmgbikagoaaBoolRow
namespace Go.Proofs.Ytbpfgmgbikagoaa
open Go.RowKit


/-- The value is a slice of the bits bs, in a row of the call's own (or nil). -/
def Bools (w : World) (v : Value) (bs : List Bool) : Prop := ∃ base, w.ownsRow base 4 1 v bs.length (bl bs)


/-- bytes of the first i bits, in as many bytes as all bits need -/
def packTo (bs : List Bool) (i : Nat) : List Nat := (List.range ((bs.length + 7) / 8)).map (byteAt (bs.take i))
theorem packTo_length (bs : List Bool) (i : Nat) : (packTo bs i).length = (bs.length + 7) / 8 := by simp [packTo]
theorem packTo_all (bs : List Bool) : packTo bs bs.length = pack bs := by simp [packTo, pack]
theorem packTo_zero (bs : List Bool) : packTo bs 0 = List.replicate ((bs.length + 7) / 8) 0 := by
  apply List.ext_getElem (by simp [packTo])
  intro j h1 h2
  simp [packTo, byteAt, val]
theorem packTo_get (bs : List Bool) (i j : Nat) (h : j < (bs.length + 7) / 8) : (packTo bs i).getD j 0 = byteAt (bs.take i) j := by
  simp [packTo, h]
theorem take_len_le (bs : List Bool) (i : Nat) (h : i ≤ bs.length) : (bs.take i).length = i := by simp; omega
theorem packTo_lt (bs : List Bool) (i : Nat) (h : i < bs.length) : (packTo bs i).getD (i / 8) 0 < 2 ^ (i % 8) := by
  rw [packTo_get _ _ _ (by omega)]
  have := byteAt_last_lt (bs.take i)
  rwa [take_len_le bs i (by omega)] at this
theorem packTo_succ (bs : List Bool) (i : Nat) (h : i < bs.length) : packTo bs (i + 1) = (packTo bs i).set (i / 8) ((packTo bs i).getD (i / 8) 0 + (bs[i]).toNat * 2 ^ (i % 8)) := by
  have ht := take_len_le bs i (by omega)
  have hsn := byteAt_snoc (bs.take i) bs[i]
  rw [ht] at hsn
  have e : bs.take (i + 1) = bs.take i ++ [bs[i]] := List.take_succ_eq_append_getElem h
  apply List.ext_getElem (by simp [packTo])
  intro j h1 h2
  have hj : j < (bs.length + 7) / 8 := by rw [packTo_length] at h1; exact h1
  by_cases hji : j = i / 8
  · subst hji
    rw [List.getElem_set_self, packTo_get _ _ _ hj]
    simp only [packTo, List.getElem_map, List.getElem_range]
    rw [e, hsn]
  · rw [List.getElem_set_ne (by omega)]
    simp only [packTo, List.getElem_map, List.getElem_range]
    rw [e]
    by_cases hlt : j < i / 8
    · rw [byteAt_append_left _ _ _ (by rw [ht]; omega)]
    · unfold byteAt
      rw [List.drop_eq_nil_of_le (by rw [List.length_append, ht]; simp; omega), List.drop_eq_nil_of_le (by rw [ht]; omega)]

theorem add_u8 (x k : Nat) (hk : k < 8) (hx : x < 2 ^ k) : ((x : Int) + 2 ^ k) % 256 = ((x + 2 ^ k : Nat) : Int) := by
  have h2 : 2 ^ k ≤ 2 ^ 7 := Nat.pow_le_pow_right (by omega) (by omega)
  have e : ((2 : Int) ^ k) = ((2 ^ k : Nat) : Int) := by simp
  rw [e]
  generalize 2 ^ k = y at *
  omega


set_option maxHeartbeats 1000000 in
theorem rbytes_any (v : Value) (bs : List Bool) (w : World) (h : Bools w v bs) (hlen : bs.length < 1000000) :
    Calls Try.prog 27 #[v] w fun e w' => Fresh w (pack bs) e w' := by
  obtain ⟨base, hown⟩ := h
  obtain ⟨i, hi, hz0, hz1, hz2⟩ := info_parts Try.infoU8
  obtain ⟨ao, cap, rfl, hsrc⟩ := own_src hown
  have hby : i.bytes * ((bs.length + 7) / 8) ≤ 281474976710656 := by rw [hz2]; omega
  have HS := Lib.hid hsrc
  clear hsrc
  go_enter Try.func27, Try.ntmps27
  go_wp2_with (at_make; refine wpList_make_full _ rfl (.tmp 8) (.tmp 8) 22 rfl w.heap.size 5 i (.int .u8 0) 1 Try.underlying22 hi hz0 hz1 .i64 .i64 _ _ ((bs.length + 7) / 8) rfl rfl (by omega) (by omega) hby (by unfold maxLen; omega) (Nat.le_refl _) ?_)
  intro w1 hown1 hgrow1
  rw [zeros_bv, ← packTo_zero] at hown1
  have hc1 : Chg (fun _ => False) w w1 := (Chg.of_grown hgrow1).mono fun k _ hk => by simp at hk
  clear hgrow1
  go_wp2
  go_loopw [4] (fun o4 wr => ∃ k : Nat, k ≤ bs.length ∧ o4 = .int .i64 (k : Int) ∧ wr.ownsRow w.heap.size 5 1 (.slice (some ⟨w.heap.size, 0, none⟩) ((bs.length + 7) / 8) ((bs.length + 7) / 8)) ((bs.length + 7) / 8) (bv (packTo bs k)) ∧ Chg (fun _ => False) w wr) (fun o4 _ => bs.length - (intOf o4).toNat)
  case atStart => exact ⟨0, Nat.zero_le _, rfl, hown1, hc1⟩
  case round =>
    obtain ⟨k, hk, rfl, ho, hc⟩ := hrel
    clear hown1 hc1
    by_cases hlt : k < bs.length
    · have hownr := hc.own hown (fun _ _ => by simp)
      obtain ⟨_, _, hv1, hsr⟩ := own_src hownr
      simp only [Value.slice.injEq, true_and] at hv1
      obtain ⟨rfl, rfl⟩ := hv1
      obtain ⟨g, cap', hg, _⟩ := slice_of_own hownr (by omega)
      simp only [Value.slice.injEq, true_and] at hg
      obtain ⟨rfl, rfl⟩ := hg
      have hcell := hownr.cellAt k (by omega)
      rw [bl_get bs k hlt] at hcell
      have hs1 := packTo_succ bs k hlt
      have hlt2 := packTo_lt bs k hlt
      have hb := ho.cellAt (k / 8) (by omega)
      rw [bv_get _ _ (by rw [packTo_length]; omega)] at hb
      have hfr := ho.frozenAt (k / 8)
      have hadd := add_u8 _ (k % 8) (by omega) hlt2
      have hst := ho.stored (k / 8) (.int .u8 (((packTo bs k).getD (k / 8) 0 + 2 ^ (k % 8) : Nat) : Int))
      rw [bv_set] at hst
      cases hbk : bs[k]
      · rw [hbk] at hs1 hcell
        simp only [Bool.toNat_false, Nat.zero_mul, Nat.add_zero] at hs1
        have hs2 : packTo bs (k + 1) = packTo bs k := by
          rw [hs1]
          have hl : k / 8 < (packTo bs k).length := by rw [packTo_length]; omega
          rw [List.getD_eq_getElem?_getD, List.getElem?_eq_getElem hl]; simp
        have HS2 := Lib.hid hs2
        clear hs1 hs2 hst hadd hbk hlt2 hownr hsr
        go_wp2
        go_roundw
        case rel => exact ⟨k + 1, by omega, by go_num, by rw [HS2.out]; exact ho, hc⟩
        case measure => simp [intOf]; omega
      · rw [hbk] at hs1 hcell
        simp only [Bool.toNat_true, Nat.one_mul] at hs1
        rw [← hs1] at hst
        generalize hx : (packTo bs k).getD (k / 8) 0 = x at *
        have hst1 := hst.1
        have hc2 : Chg (fun _ => False) w (wr.setCell ⟨w.heap.size, k / 8, none⟩ (.int .u8 ((x + 2 ^ (k % 8) : Nat) : Int))) := hc.trans (Chg.setCell wr ⟨w.heap.size, k / 8, none⟩ _) (fun j hj h => by simp at h; omega)
        have hx2 : 2 ^ (k % 8) ≤ 2 ^ 7 := Nat.pow_le_pow_right (by omega) (by omega)
        have hx256 : x < 256 := by omega
        have HA := Lib.hid hadd; have HST := Lib.hid hst1; have HC2 := Lib.hid hc2
        clear hs1 hst hst1 hc2 hbk hlt2 hownr hsr hx hadd hx2
        go_wp2
        go_region
        go_wp2
        go_roundw
        case rel =>
          refine ⟨k + 1, by omega, by go_num, ?_, ?_⟩
          · rw [HA.out]; exact HST.out.drew
          · rw [HA.out]; exact HC2.out.drew
        case measure => simp [intOf]; omega
    · obtain rfl : k = bs.length := by omega
      rw [packTo_all] at ho
      go_wp2
      go_ret
      exact ⟨w.heap.size, (bs.length + 7) / 8, by rw [pack_length]; rfl, by rw [pack_length]; exact ho, hc⟩

end Go.Proofs.Ytbpfgmgbikagoaa
