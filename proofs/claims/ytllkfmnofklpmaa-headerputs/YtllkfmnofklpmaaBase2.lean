/- Texts that other texts of this claim rest on, one behind the other (BwRef BrRef BfSplits BfRef LgRef BgRef RnRef OpGen HsBase HdRef HsRef NmMath NmMathB RowBo NmRefA NmRefB NmRefD SpRef HdRefB OneBox HdProgA LgLen LgProg). -/
import Derived.Test.YtllkfmnofklpmaaBase1
import Derived.WalkKit
import Derived.ProofKit
import Derived.OpenShut
import Derived.ShutString
import Derived.ChangeOld
import Derived.Below
import Derived.Deep.SlicePairs
import Derived.BigQuiet
import Derived.Recover
import Derived.Defers
import Derived.Laws.MathBits
/- What the document's own Put, Bytes and Close (puncheonref01) tell. -/
namespace Go.Proofs.Ytllkfmnofklpmaa
open Go.RowKit


/-- The value is a slice of the bits bs, in a row of the call's own (or nil). -/
def Bools (w : World) (v : Value) (bs : List Bool) : Prop := ∃ base, w.ownsRow base 4 1 v bs.length (bl bs)


set_option maxHeartbeats 1000000 in
theorem rput_any (v : Value) (bs : List Bool) (u n : Nat) (w : World) (h : Bools w v bs) (hlen : bs.length < 1000000) (hn : n ≤ 24) (hu : u < 4294967296) :
    Calls Try.prog 62 #[v, .int .u32 (u : Int), .int .i64 (n : Int)] w fun e w' => ∃ v', e = .returned v' ∧ w'.ownsRow w.heap.size 4 1 v' (bs ++ bitsOf u n).length (bl (bs ++ bitsOf u n)) ∧ Chg (fun _ => False) w w' := by
  obtain ⟨base, hown⟩ := h
  obtain ⟨i, hi, hz0, hz1, hz2⟩ := info_parts Try.infoBool
  rcases hown.2 with ⟨rfl, h0⟩ | ⟨g, cap, cur, rfl, hb, hg, hrest⟩
  · have hbs : bs = [] := List.eq_nil_of_length_eq_zero h0
    have HOWN : Hid ((w.alloc (.cells #[] 4)).ownsRow w.heap.size 4 1 (.slice (some ⟨w.heap.size, 0, none⟩) 0 0) bs.length (bl bs)) := by
      rw [hbs]; exact World.ownsRow_made w #[] 0 (Nat.le_refl _) (by unfold maxLen; omega) rfl
    clear hbs h0 hown
    have HCHG : Hid (Chg (fun _ => False) w (w.alloc (.cells #[] 4))) := Chg.alloc _ w _
    go_enter Try.func62, Try.ntmps62
    go_wp2
    go_loopw [7, 8, 1] (fun o7 o8 o1 wr => ∃ k : Nat, k ≤ n ∧ o8 = .int .i64 (k : Int) ∧ o1 = .int .u32 ((u / 2 ^ k : Nat) : Int) ∧ wr.ownsRow w.heap.size 4 1 o7 (bs.length + k) (bl (bs ++ bitsOf u k)) ∧ Chg (fun _ => False) w wr) (fun _ o8 _ _ => n - (intOf o8).toNat)
    case atStart => exact ⟨0, Nat.zero_le _, rfl, by simp, by simpa [bitsOf] using HOWN.out, HCHG.out⟩
    case round =>
      obtain ⟨k, hk, rfl, rfl, ho, hc⟩ := hrel
      by_cases hlt : k < n
      · have hd := Nat.div_le_self u (2 ^ k)
        have hsz := hc.size
        have hb2 : u / 2 ^ k / 2 = u / 2 ^ (k + 1) := by rw [Nat.div_div_eq_div_mul, Nat.pow_succ]
        have hbit : ((((u / 2 ^ k : Nat) : Int) % 2 == 1)) = decide (u / 2 ^ k % 2 = 1) := by
          rw [Bool.eq_iff_iff]; generalize u / 2 ^ k = y; simp; omega
        have hsn : bl (bs ++ bitsOf u k) ++ [.bool (decide (u / 2 ^ k % 2 = 1))] = bl (bs ++ bitsOf u (k + 1)) := by simp [bl, bitsOf]
        have HS := Lib.hid hsn; have HB2 := Lib.hid hb2; have HBit := Lib.hid hbit
        clear hsn hb2 hbit
        generalize hy : u / 2 ^ k = y at *
        have HY := Lib.hid hy
        clear hy
        go_wp2_with (at_builtin; refine wpList_append_own _ rfl (.tmp 17) (.tmp 21) 27 rfl w.heap.size 4 i (.bool false) 1 1 Try.underlying27 hi hz0 hz1 hz2 rfl (by decide) _ (bs.length + k) _ rfl (ho.alloc _) ⟨wr.heap.size, 0, none⟩ 1 1 _ rfl rfl (cell_one_new _ _ _) ?_ (by unfold maxLen; omega) (by omega) (by simp; omega) ?_)
        · intro x hx; simp at hx; subst hx; rfl
        intro v' w1 ho1 hg1 _
        have hc1 : Chg (fun _ => False) w w1 := (hc.trans (Chg.alloc (fun _ => False) wr _) (fun _ _ h => h)).trans (Chg.of_grown hg1) (fun j hj hx => by have := (ho.lt j hx.symm).1; omega)
        rw [HBit.out, HS.out] at ho1
        clear hg1 ho hc
        go_wp2
        go_roundw
        case rel => exact ⟨k + 1, by omega, by go_num, by rw [← HB2.out]; go_num, ho1, hc1⟩
        case measure => simp [intOf]; omega
      · obtain rfl : k = n := by omega
        go_wp2
        go_ret
        exact ⟨_, rfl, by simpa [bitsOf_length] using ho, hc⟩
  · have HG := Lib.hid hg; have HR := Lib.hid hrest
    have hgl := lt_of_block hg
    have hcells := (hown.alloc (.cells #[] 4)).cells (g := g) rfl
    have HCE := Lib.hid hcells
    clear hg hrest hcells
    go_enter Try.func62, Try.ntmps62
    go_wp2_with (at_builtin; refine wpList_append_own _ rfl (.tmp 9) (.tmp 10) 27 rfl w.heap.size 4 i (.bool false) 1 1 Try.underlying27 hi hz0 hz1 hz2 rfl (by decide) _ 0 _ rfl (World.ownsRow_made w #[] 0 (Nat.le_refl _) (by unfold maxLen; omega) rfl) ⟨g, 0, none⟩ bs.length cap (bl bs) rfl (by rw [bl_length, Nat.mul_one]) HCE.out (bl_one bs) (by unfold maxLen; omega) (by omega) (by simp) ?_)
    intro v7 w7 ho7 hg7 _
    have hc7 : Chg (fun _ => False) w w7 := (Chg.alloc (fun _ => False) w _).trans (Chg.of_grown hg7) (fun j hj hx => by simp [Value.ownBlock] at hx; omega)
    have HOWN := Lib.hid ho7
    have HCHG := Lib.hid hc7
    clear ho7 hc7 hg7
    go_wp2
    go_loopw [7, 8, 1] (fun o7 o8 o1 wr => ∃ k : Nat, k ≤ n ∧ o8 = .int .i64 (k : Int) ∧ o1 = .int .u32 ((u / 2 ^ k : Nat) : Int) ∧ wr.ownsRow w.heap.size 4 1 o7 (bs.length + k) (bl (bs ++ bitsOf u k)) ∧ Chg (fun _ => False) w wr) (fun _ o8 _ _ => n - (intOf o8).toNat)
    case atStart => exact ⟨0, Nat.zero_le _, rfl, by simp, by simpa [bitsOf] using HOWN.out, HCHG.out⟩
    case round =>
      obtain ⟨k, hk, rfl, rfl, ho, hc⟩ := hrel
      by_cases hlt : k < n
      · have hd := Nat.div_le_self u (2 ^ k)
        have hsz := hc.size
        have hb2 : u / 2 ^ k / 2 = u / 2 ^ (k + 1) := by rw [Nat.div_div_eq_div_mul, Nat.pow_succ]
        have hbit : ((((u / 2 ^ k : Nat) : Int) % 2 == 1)) = decide (u / 2 ^ k % 2 = 1) := by
          rw [Bool.eq_iff_iff]; generalize u / 2 ^ k = y; simp; omega
        have hsn : bl (bs ++ bitsOf u k) ++ [.bool (decide (u / 2 ^ k % 2 = 1))] = bl (bs ++ bitsOf u (k + 1)) := by simp [bl, bitsOf]
        have HS := Lib.hid hsn; have HB2 := Lib.hid hb2; have HBit := Lib.hid hbit
        clear hsn hb2 hbit
        generalize hy : u / 2 ^ k = y at *
        have HY := Lib.hid hy
        clear hy
        go_wp2_with (at_builtin; refine wpList_append_own _ rfl (.tmp 17) (.tmp 21) 27 rfl w.heap.size 4 i (.bool false) 1 1 Try.underlying27 hi hz0 hz1 hz2 rfl (by decide) _ (bs.length + k) _ rfl (ho.alloc _) ⟨wr.heap.size, 0, none⟩ 1 1 _ rfl rfl (cell_one_new _ _ _) ?_ (by unfold maxLen; omega) (by omega) (by simp; omega) ?_)
        · intro x hx; simp at hx; subst hx; rfl
        intro v' w1 ho1 hg1 _
        have hc1 : Chg (fun _ => False) w w1 := (hc.trans (Chg.alloc (fun _ => False) wr _) (fun _ _ h => h)).trans (Chg.of_grown hg1) (fun j hj hx => by have := (ho.lt j hx.symm).1; omega)
        rw [HBit.out, HS.out] at ho1
        clear hg1 ho hc
        go_wp2
        go_roundw
        case rel => exact ⟨k + 1, by omega, by go_num, by rw [← HB2.out]; go_num, ho1, hc1⟩
        case measure => simp [intOf]; omega
      · obtain rfl : k = n := by omega
        go_wp2
        go_ret
        exact ⟨_, rfl, by simpa [bitsOf_length] using ho, hc⟩

/-- bytes of the first i bits, in as many bytes as all bits need -/
def packTo (bs : List Bool) (i : Nat) : List Nat := (List.range ((bs.length + 7) / 8)).map (byteAt (bs.take i))
theorem packTo_length (bs : List Bool) (i : Nat) : (packTo bs i).length = (bs.length + 7) / 8 := by simp [packTo]
theorem packTo_all (bs : List Bool) : packTo bs bs.length = pack bs := by simp [packTo, pack]
theorem packTo_zero (bs : List Bool) : packTo bs 0 = List.replicate ((bs.length + 7) / 8) 0 := by
  apply List.ext_getElem (by simp [packTo])
  intro j h1 h2
  simp [packTo, byteAt, val]
theorem packTo_get (bs : List Bool) (i j : Nat) (h : j < (bs.length + 7) / 8) : (packTo bs i).getD j 0 = byteAt (bs.take i) j := by
  simp [packTo, h]
theorem take_len_le (bs : List Bool) (i : Nat) (h : i ≤ bs.length) : (bs.take i).length = i := by simp; omega
theorem packTo_lt (bs : List Bool) (i : Nat) (h : i < bs.length) : (packTo bs i).getD (i / 8) 0 < 2 ^ (i % 8) := by
  rw [packTo_get _ _ _ (by omega)]
  have := byteAt_last_lt (bs.take i)
  rwa [take_len_le bs i (by omega)] at this
theorem packTo_succ (bs : List Bool) (i : Nat) (h : i < bs.length) : packTo bs (i + 1) = (packTo bs i).set (i / 8) ((packTo bs i).getD (i / 8) 0 + (bs[i]).toNat * 2 ^ (i % 8)) := by
  have ht := take_len_le bs i (by omega)
  have hsn := byteAt_snoc (bs.take i) bs[i]
  rw [ht] at hsn
  have e : bs.take (i + 1) = bs.take i ++ [bs[i]] := List.take_succ_eq_append_getElem h
  apply List.ext_getElem (by simp [packTo])
  intro j h1 h2
  have hj : j < (bs.length + 7) / 8 := by rw [packTo_length] at h1; exact h1
  by_cases hji : j = i / 8
  · subst hji
    rw [List.getElem_set_self, packTo_get _ _ _ hj]
    simp only [packTo, List.getElem_map, List.getElem_range]
    rw [e, hsn]
  · rw [List.getElem_set_ne (by omega)]
    simp only [packTo, List.getElem_map, List.getElem_range]
    rw [e]
    by_cases hlt : j < i / 8
    · rw [byteAt_append_left _ _ _ (by rw [ht]; omega)]
    · unfold byteAt
      rw [List.drop_eq_nil_of_le (by rw [List.length_append, ht]; simp; omega), List.drop_eq_nil_of_le (by rw [ht]; omega)]

theorem add_u8 (x k : Nat) (hk : k < 8) (hx : x < 2 ^ k) : ((x : Int) + 2 ^ k) % 256 = ((x + 2 ^ k : Nat) : Int) := by
  have h2 : 2 ^ k ≤ 2 ^ 7 := Nat.pow_le_pow_right (by omega) (by omega)
  have e : ((2 : Int) ^ k) = ((2 ^ k : Nat) : Int) := by simp
  rw [e]
  generalize 2 ^ k = y at *
  omega


set_option maxHeartbeats 1000000 in
theorem rbytes_any (v : Value) (bs : List Bool) (w : World) (h : Bools w v bs) (hlen : bs.length < 1000000) :
    Calls Try.prog 15 #[v] w fun e w' => Fresh w (pack bs) e w' := by
  obtain ⟨base, hown⟩ := h
  obtain ⟨i, hi, hz0, hz1, hz2⟩ := info_parts Try.infoU8
  obtain ⟨ao, cap, rfl, hsrc⟩ := own_src hown
  have hby : i.bytes * ((bs.length + 7) / 8) ≤ 281474976710656 := by rw [hz2]; omega
  have HS := Lib.hid hsrc
  clear hsrc
  go_enter Try.func15, Try.ntmps15
  go_wp2_with (at_make; refine wpList_make_full _ rfl (.tmp 8) (.tmp 8) 31 rfl w.heap.size 5 i (.int .u8 0) 1 Try.underlying31 hi hz0 hz1 .i64 .i64 _ _ ((bs.length + 7) / 8) rfl rfl (by omega) (by omega) hby (by unfold maxLen; omega) (Nat.le_refl _) ?_)
  intro w1 hown1 hgrow1
  rw [zeros_bv, ← packTo_zero] at hown1
  have hc1 : Chg (fun _ => False) w w1 := (Chg.of_grown hgrow1).mono fun k _ hk => by simp at hk
  clear hgrow1
  go_wp2
  go_loopw [4] (fun o4 wr => ∃ k : Nat, k ≤ bs.length ∧ o4 = .int .i64 (k : Int) ∧ wr.ownsRow w.heap.size 5 1 (.slice (some ⟨w.heap.size, 0, none⟩) ((bs.length + 7) / 8) ((bs.length + 7) / 8)) ((bs.length + 7) / 8) (bv (packTo bs k)) ∧ Chg (fun _ => False) w wr) (fun o4 _ => bs.length - (intOf o4).toNat)
  case atStart => exact ⟨0, Nat.zero_le _, rfl, hown1, hc1⟩
  case round =>
    obtain ⟨k, hk, rfl, ho, hc⟩ := hrel
    clear hown1 hc1
    by_cases hlt : k < bs.length
    · have hownr := hc.own hown (fun _ _ => by simp)
      obtain ⟨_, _, hv1, hsr⟩ := own_src hownr
      simp only [Value.slice.injEq, true_and] at hv1
      obtain ⟨rfl, rfl⟩ := hv1
      obtain ⟨g, cap', hg, _⟩ := slice_of_own hownr (by omega)
      simp only [Value.slice.injEq, true_and] at hg
      obtain ⟨rfl, rfl⟩ := hg
      have hcell := hownr.cellAt k (by omega)
      rw [bl_get bs k hlt] at hcell
      have hs1 := packTo_succ bs k hlt
      have hlt2 := packTo_lt bs k hlt
      have hb := ho.cellAt (k / 8) (by omega)
      rw [bv_get _ _ (by rw [packTo_length]; omega)] at hb
      have hfr := ho.frozenAt (k / 8)
      have hadd := add_u8 _ (k % 8) (by omega) hlt2
      have hst := ho.stored (k / 8) (.int .u8 (((packTo bs k).getD (k / 8) 0 + 2 ^ (k % 8) : Nat) : Int))
      rw [bv_set] at hst
      cases hbk : bs[k]
      · rw [hbk] at hs1 hcell
        simp only [Bool.toNat_false, Nat.zero_mul, Nat.add_zero] at hs1
        have hs2 : packTo bs (k + 1) = packTo bs k := by
          rw [hs1]
          have hl : k / 8 < (packTo bs k).length := by rw [packTo_length]; omega
          rw [List.getD_eq_getElem?_getD, List.getElem?_eq_getElem hl]; simp
        have HS2 := Lib.hid hs2
        clear hs1 hs2 hst hadd hbk hlt2 hownr hsr
        go_wp2
        go_roundw
        case rel => exact ⟨k + 1, by omega, by go_num, by rw [HS2.out]; exact ho, hc⟩
        case measure => simp [intOf]; omega
      · rw [hbk] at hs1 hcell
        simp only [Bool.toNat_true, Nat.one_mul] at hs1
        rw [← hs1] at hst
        generalize hx : (packTo bs k).getD (k / 8) 0 = x at *
        have hst1 := hst.1
        have hc2 : Chg (fun _ => False) w (wr.setCell ⟨w.heap.size, k / 8, none⟩ (.int .u8 ((x + 2 ^ (k % 8) : Nat) : Int))) := hc.trans (Chg.setCell wr ⟨w.heap.size, k / 8, none⟩ _) (fun j hj h => by simp at h; omega)
        have hx2 : 2 ^ (k % 8) ≤ 2 ^ 7 := Nat.pow_le_pow_right (by omega) (by omega)
        have hx256 : x < 256 := by omega
        have HA := Lib.hid hadd; have HST := Lib.hid hst1; have HC2 := Lib.hid hc2
        clear hs1 hst hst1 hc2 hbk hlt2 hownr hsr hx hadd hx2
        go_wp2
        go_region
        go_wp2
        go_roundw
        case rel =>
          refine ⟨k + 1, by omega, by go_num, ?_, ?_⟩
          · rw [HA.out]; exact HST.out.drew
          · rw [HA.out]; exact HC2.out.drew
        case measure => simp [intOf]; omega
    · obtain rfl : k = bs.length := by omega
      rw [packTo_all] at ho
      go_wp2
      go_ret
      exact ⟨w.heap.size, (bs.length + 7) / 8, by rw [pack_length]; rfl, by rw [pack_length]; exact ho, hc⟩

end Go.Proofs.Ytllkfmnofklpmaa

/- What the document's own Bits, Number, Open and Take (puncheonref01, puncheonref02) tell. -/
namespace Go.Proofs.Ytllkfmnofklpmaa
open Go.RowKit


/-- The value v is a slice of the bits bs; it is not nil. -/
def RdL (w : World) (v : Value) (g off : Nat) (bs : List Bool) : Prop :=
  ∃ cap, v = .slice (some ⟨g, off, none⟩) bs.length cap ∧ bs.length ≤ cap ∧ cap ≤ maxLen ∧ ∀ j (h : j < bs.length), w.cell? ⟨g, off + j, none⟩ = some (.bool bs[j])

theorem val_drop_succ (bs : List Bool) (j : Nat) (h : j < bs.length) : val (bs.drop j) = (bs[j]).toNat + 2 * val (bs.drop (j + 1)) := by
  rw [List.drop_eq_getElem_cons h]; rfl

set_option maxHeartbeats 1000000 in
theorem rnumber_any (v : Value) (g off : Nat) (bs : List Bool) (w : World) (h : RdL w v g off bs) (hl : bs.length ≤ 24) :
    Calls Try.prog 80 #[v] w fun e w' => e = .returned (.int .u32 ((val bs : Nat) : Int)) ∧ w' = w := by
  obtain ⟨cap, rfl, hcap, hcap2, hcell⟩ := h
  have HCELL := Lib.hid hcell
  clear hcell
  go_enter Try.func80, Try.ntmps80
  go_wp2
  go_loopw [3, 4] (fun o3 o4 wr => ∃ j : Nat, j ≤ bs.length ∧ o4 = .int .i64 ((j : Int) - 1) ∧ o3 = .int .u32 ((val (bs.drop j) : Nat) : Int) ∧ wr = w) (fun _ o4 _ => (intOf o4 + 1).toNat)
  case atStart => exact ⟨bs.length, Nat.le_refl _, rfl, by simp [val], rfl⟩
  case round =>
    obtain ⟨j, hj, rfl, rfl, rfl⟩ := hrel
    rcases j with _ | j
    · go_wp2
      go_ret
      exact ⟨rfl, rfl⟩
    · have hij : (((j + 1 : Nat) : Int) - 1) = (j : Int) := by omega
      rw [hij]
      have hc := HCELL.out j (by omega)
      have hv := val_drop_succ bs j (by omega)
      have hb := val_lt (bs.drop (j + 1))
      have hb2 : 2 ^ (bs.drop (j + 1)).length ≤ 2 ^ 23 := Nat.pow_le_pow_right (by omega) (by rw [List.length_drop]; omega)
      obtain ⟨y, hy⟩ : ∃ y, val (bs.drop (j + 1)) = y := ⟨_, rfl⟩
      have hy2 : y < 8388608 := by rw [← hy]; omega
      rw [hy] at hv ⊢
      have HV := Lib.hid hv
      clear hv hb hb2 hy hij
      cases hbj : bs[j]
      · rw [hbj] at hc HV
        clear hbj
        go_wp2
        go_roundw
        case rel => exact ⟨j, by omega, rfl, by rw [HV.out]; simp <;> omega, trivial⟩
        case measure => simp [intOf]
      · rw [hbj] at hc HV
        clear hbj
        go_wp2
        go_roundw
        case rel => exact ⟨j, by omega, rfl, by rw [HV.out]; simp <;> omega, trivial⟩
        case measure => simp [intOf]

theorem bitsB_take_succ (xs : List Nat) (k : Nat) (h : k < xs.length) : bitsB (xs.take (k + 1)) = bitsB (xs.take k) ++ bitsOf (xs.getD k 0) 8 := by
  rw [List.take_succ_eq_append_getElem h, bitsB_append, List.getD_eq_getElem?_getD, List.getElem?_eq_getElem h]
  simp [bitsB]

theorem and_one_u8 : ∀ x : Nat, x < 256 → ∀ k : Nat, k < 8 → (bits BinOp.and IntKind.u8 ((x : Int) / 2 ^ k) 1 == 1) = decide (x / 2 ^ k % 2 = 1) := by decide +kernel

set_option maxRecDepth 20000 in
set_option maxHeartbeats 2000000 in
theorem rbits_any (v : Value) (xs : List Nat) (w : World) (h : RdB w v xs) (hx : ∀ x ∈ xs, x < 256) (hl : xs.length ≤ 1000000) :
    Calls Try.prog 28 #[v] w fun e w' => ∃ v', e = .returned v' ∧ w'.ownsRow w.heap.size 4 1 v' (bitsB xs).length (bl (bitsB xs)) ∧ Chg (fun _ => False) w w' := by
  obtain ⟨ao, cap, hv⟩ := h.form
  subst hv
  obtain ⟨i, hi, hz0, hz1, hz2⟩ := info_parts Try.infoBool
  have H := Lib.hid h; have HX := Lib.hid hx
  clear h hx
  go_enter Try.func28, Try.ntmps28
  go_wp2
  go_loopw [3, 4] (fun o3 o4 wr => ∃ k : Nat, k ≤ xs.length ∧ o4 = .int .i64 (k : Int) ∧ wr.ownsRow w.heap.size 4 1 o3 (8 * k) (bl (bitsB (xs.take k))) ∧ Chg (fun _ => False) w wr) (fun _ o4 _ => xs.length - (intOf o4).toNat)
  case atStart => exact ⟨0, Nat.zero_le _, rfl, by simpa [bitsB, bl] using World.ownsRow_nil w w.heap.size 4 1, Chg.refl _ _⟩
  case round =>
    obtain ⟨k, hk, rfl, ho, hc⟩ := hrel
    by_cases hlt : k < xs.length
    · obtain ⟨wa, hwa⟩ : ∃ wa, wa = wr := ⟨_, rfl⟩
      subst hwa
      obtain ⟨g, off, cap', hvv, hcc⟩ : ∃ g off cap', Value.slice ao xs.length cap = .slice (some ⟨g, off, none⟩) xs.length cap' ∧ ∀ j, j < xs.length → w.cell? ⟨g, off + j, none⟩ = some (.int .u8 ((xs.getD j 0 : Nat) : Int)) := by
        rcases H.out with ⟨h0, _⟩ | h
        · rw [h0] at hlt; simp at hlt
        · exact h
      simp only [Value.slice.injEq, true_and] at hvv
      obtain ⟨rfl, rfl⟩ := hvv
      have hcell := hcc k hlt
      obtain ⟨x, hxk⟩ : ∃ x, xs.getD k 0 = x := ⟨_, rfl⟩
      have hxl : x < 256 := by rw [← hxk]; exact getD_lt xs HX.out k
      have hsu := bitsB_take_succ xs k hlt
      rw [hxk] at hcell hsu
      have hlen : (bitsB (xs.take k)).length = 8 * k := by rw [bitsB_length, List.length_take, Nat.min_eq_left (by omega)]
      obtain ⟨A, hA⟩ : ∃ A, bitsB (xs.take k) = A := ⟨_, rfl⟩
      rw [hA] at hsu ho hlen
      have HSU := Lib.hid hsu; have HLEN := Lib.hid hlen
      clear hsu hxk hA hcc hlen
      go_wp2
      go_loopw [3, 5] (fun o3 o5 wr => ∃ m : Nat, m ≤ 8 ∧ o5 = .int .i64 (m : Int) ∧ wr.ownsRow w.heap.size 4 1 o3 (8 * k + m) (bl (A ++ bitsOf x m)) ∧ Chg (fun _ => False) w wr) (fun _ o5 _ => 8 - (intOf o5).toNat)
      case atStart => exact ⟨0, Nat.zero_le _, rfl, by simpa [bitsOf] using ho, hc⟩
      case round =>
        obtain ⟨m, hm, rfl, ho2, hc2⟩ := hrel
        clear ho hc
        by_cases hm8 : m < 8
        · have hc3 : wr.cell? ⟨g, off + k, none⟩ = some (.int .u8 (x : Int)) := by
            rw [World.cell?_of_block (w := w) (a := ⟨g, off + k, none⟩) (hc2.block g (block_lt_of_cell hcell) (by simp))]; exact hcell
          have hbit := and_one_u8 x hxl m hm8
          have hsn : bl (A ++ bitsOf x m) ++ [.bool (decide (x / 2 ^ m % 2 = 1))] = bl (A ++ bitsOf x (m + 1)) := by simp [bl, bitsOf]
          have HBit := Lib.hid hbit; have HSN := Lib.hid hsn
          have hsz := hc2.size
          clear hbit hsn
          go_wp2_with (at_builtin; refine wpList_append_own _ rfl (.tmp 16) (.tmp 25) 27 rfl w.heap.size 4 i (.bool false) 1 1 Try.underlying27 hi hz0 hz1 hz2 rfl (by decide) _ (8 * k + m) _ rfl (ho2.alloc _) ⟨wr.heap.size, 0, none⟩ 1 1 _ rfl rfl (cell_one_new _ _ _) ?_ (by unfold maxLen; omega) (by omega) (by simp; omega) ?_)
          · intro x hx; simp at hx; subst hx; rfl
          intro v' w1 ho1 hg1 _
          have hc1 : Chg (fun _ => False) w w1 := (hc2.trans (Chg.alloc (fun _ => False) wr _) (fun _ _ h => h)).trans (Chg.of_grown hg1) (fun j hj hx => by have := (ho2.lt j hx.symm).1; omega)
          rw [HBit.out, HSN.out] at ho1
          clear hg1 ho2 hc2 hc3
          go_wp2
          go_roundw
          case rel => exact ⟨m + 1, by omega, by go_num, ho1, hc1⟩
          case measure => simp [intOf]; omega
        · obtain rfl : m = 8 := by omega
          rw [← HSU.out] at ho2
          go_wp2
          go_roundw
          case rel => exact ⟨k + 1, by omega, by go_num, by rw [show 8 * (k + 1) = 8 * k + 8 from by omega]; exact ho2, hc2⟩
          case measure => simp [intOf]; omega
    · obtain rfl : k = xs.length := by omega
      rw [List.take_length] at ho
      go_wp2
      go_ret
      exact ⟨_, rfl, by rw [bitsB_length]; exact ho, hc⟩

theorem RdL.kept {S : Nat → Prop} {w w' : World} {v : Value} {g off : Nat} {bs : List Bool} (h : RdL w v g off bs) (hc : Chg S w w') (hS : ¬ S g) : RdL w' v g off bs := by
  obtain ⟨cap, hv, h1, h2, hcell⟩ := h
  refine ⟨cap, hv, h1, h2, fun j hj => ?_⟩
  have := hcell j hj
  have hlt : g < w.heap.size := block_lt_of_cell this
  rw [World.cell?_of_block (w := w) (a := ⟨g, off + j, none⟩) (hc.block g hlt hS)]; exact this

theorem takeR_get (bs : List Bool) (n j : Nat) (h : j < (takeR bs n).length) : (takeR bs n)[j] = bs[j]'(by rw [takeR_length] at h; omega) := by
  unfold takeR at h ⊢
  exact List.getElem_take

end Go.Proofs.Ytllkfmnofklpmaa

/- The walk of BitfSplits. -/
namespace Go.Proofs.Ytllkfmnofklpmaa
open Go.RowKit

/-- what Take tells, whether it does, and how many bits are taken then -/
def ftk (xs : List Nat) (p : Nat) (n : Int) : Nat × Bool × Nat := if 0 ≤ n ∧ n ≤ 24 ∧ (p : Int) + n ≤ 8 * xs.length then (fv xs p n.toNat, true, p + n.toNat) else (0, false, p)

theorem ftake_f (b : Nat) (o : Option Nat) (xs : List Nat) (p : Nat) (n : Int) (w : World) (h : Rf w b o xs p) :
    Calls Try.prog 84 #[.pointer (some ⟨b, 0, none⟩), .int .i64 n] w fun e w' => e = .returned (.tuple #[.int .u32 (((ftk xs p n).1 : Nat) : Int), .bool (ftk xs p n).2.1]) ∧ Rf w' b o xs (ftk xs p n).2.2 ∧ Chg (fun k => k = b) w w' := by
  have hp := h.2.2.1
  refine (ftake_any b o xs p n w h).mono ?_
  rintro e w' (⟨m, rfl, h1, h2, rfl, hr, hc⟩ | ⟨hn, rfl, hr, hc⟩)
  · have e1 : ftk xs p (m : Int) = (fv xs p m, true, p + m) := by unfold ftk; rw [if_pos (by omega)]; rfl
    rw [e1]; exact ⟨rfl, hr, hc⟩
  · have e1 : ftk xs p n = (0, false, p) := by unfold ftk; rw [if_neg (by omega)]
    rw [e1]; exact ⟨rfl, hr, hc.mono (fun _ _ h => h.elim)⟩

theorem fv_split (xs : List Nat) (p k c : Nat) (hc : c ≤ k) (hl : p + k ≤ 8 * xs.length) : fv xs p k = fv xs p c + 2 ^ c * fv xs (p + c) (k - c) := by
  unfold fv
  have e : ((bitsB xs).drop p).take k = ((bitsB xs).drop p).take c ++ ((bitsB xs).drop (p + c)).take (k - c) := by
    rw [← List.drop_drop, ← List.take_add]; congr 1; omega
  have el : (((bitsB xs).drop p).take c).length = c := by rw [List.length_take, List.length_drop, bitsB_length]; omega
  rw [e, val_append, el]

theorem ftk_le (xs : List Nat) (p : Nat) (n : Int) (h : p ≤ 8 * xs.length) : (ftk xs p n).2.2 ≤ 8 * xs.length := by
  unfold ftk; split
  · show p + n.toNat ≤ _; omega
  · exact h

end Go.Proofs.Ytllkfmnofklpmaa

/- What the document's own Reader (puncheonref03) tells: New, Left, Take, Pad, Rest. -/
namespace Go.Proofs.Ytllkfmnofklpmaa
open Go.RowKit

/-- The value v is a slice of the bits bs. -/
def RdQ (w : World) (v : Value) (bs : List Bool) : Prop :=
  (bs = [] ∧ ∃ ao c, v = .slice ao 0 c) ∨ ∃ g off cap, v = .slice (some ⟨g, off, none⟩) bs.length cap ∧ ∀ j (h : j < bs.length), w.cell? ⟨g, off + j, none⟩ = some (.bool bs[j])

theorem RdQ.form {w : World} {v : Value} {bs : List Bool} (h : RdQ w v bs) : ∃ ao cap, v = .slice ao bs.length cap := by
  rcases h with ⟨rfl, ao, c, rfl⟩ | ⟨g, off, cap, rfl, _⟩
  · exact ⟨ao, c, rfl⟩
  · exact ⟨_, cap, rfl⟩

theorem RdQ.kept {S : Nat → Prop} {w w' : World} {v : Value} {bs : List Bool} (h : RdQ w v bs) (hc : Chg S w w') (hS : ∀ k, v.ownBlock = some k → ¬ S k) : RdQ w' v bs := by
  rcases h with h | ⟨g, off, cap, rfl, hcell⟩
  · exact .inl h
  · refine .inr ⟨g, off, cap, rfl, fun j hj => ?_⟩
    have := hcell j hj
    have hlt : g < w.heap.size := block_lt_of_cell this
    rw [World.cell?_of_block (w := w) (hc.block g hlt (hS g rfl))]; exact this

theorem RdQ.cells {w : World} {ao : Option Addr} {n cap : Nat} {bs : List Bool} (h : RdQ w (.slice ao n cap) bs) (hp : 0 < bs.length) : ∃ g off, ao = some ⟨g, off, none⟩ ∧ ∀ j (h : j < bs.length), w.cell? ⟨g, off + j, none⟩ = some (.bool bs[j]) := by
  rcases h with ⟨h0, _⟩ | ⟨g, off, cap', he, hc⟩
  · rw [h0] at hp; simp at hp
  · simp only [Value.slice.injEq] at he
    exact ⟨g, off, he.1, hc⟩

/-- a slice of a row of bits: v[l:h] and v[l:] -/
theorem slice_bits {w : World} {v : Value} {bs : List Bool} (ho : w.ownsRow 0 4 1 v bs.length (bl bs)) (l h : Nat) (hl : l ≤ h) (hh : h ≤ bs.length) :
    ∃ ao2 c2, (∀ W : World, (Instr.slice 27 v (some (.int .i64 (l : Int))) (some (.int .i64 (h : Int))) none).run Try.prog W = .ok (.slice ao2 (h - l) c2) W) ∧
      (h = bs.length → ∀ W : World, (Instr.slice 27 v (some (.int .i64 (l : Int))) none none).run Try.prog W = .ok (.slice ao2 (h - l) c2) W) ∧ RdQ w (.slice ao2 (h - l) c2) ((bs.drop l).take (h - l)) := by
  have hcapo : ∃ ao cap, v = .slice ao bs.length cap ∧ bs.length ≤ cap ∧ cap ≤ maxLen ∧ (0 < bs.length → ∃ g, ao = some ⟨g, 0, none⟩) := by
    rcases ho.2 with ⟨rfl, h0⟩ | ⟨g, cap, cur, rfl, _, _, h1, h2, _⟩
    · exact ⟨none, 0, by rw [h0], by omega, by unfold maxLen; omega, fun h => by omega⟩
    · exact ⟨_, cap, rfl, h1, h2, fun _ => ⟨g, rfl⟩⟩
  obtain ⟨ao, cap, rfl, hcap, hmax, hao⟩ := hcapo
  have hs : ∀ W, (sizeOf (Try.prog.elem 27)).run Try.prog W = .ok 1 W := fun W => by kernel_rfl
  refine ⟨if cap = l then ao else ao.map (·.add l), cap - l, fun W => ?_, fun he W => ?_, ?_⟩
  · rw [run_slice_lh W 27 ao bs.length cap (by kernel_rfl) .i64 .i64 (l : Int) (h : Int) (by omega) (by omega) (by omega), hs]
    simp [Result.andThen, sliced]
  · rw [run_slice_l W 27 ao bs.length cap (by kernel_rfl) .i64 (l : Int) (by omega) (by omega), hs]
    simp [Result.andThen, sliced, he]
  · by_cases hz : h = l
    · exact .inl ⟨by rw [hz, Nat.sub_self]; rfl, _, _, by rw [hz, Nat.sub_self]⟩
    · rw [if_neg (by omega)]
      obtain ⟨g, hg⟩ := hao (by omega)
      subst hg
      rw [show Option.map (fun x : Addr => x.add l) (some ⟨g, 0, none⟩) = some ⟨g, l, none⟩ from by simp [Addr.add]; omega]
      have elen : ((bs.drop l).take (h - l)).length = h - l := by rw [List.length_take, List.length_drop]; omega
      refine .inr ⟨g, l, _, by rw [elen], fun j hj => ?_⟩
      rw [elen] at hj
      rw [ho.cellAt (l + j) (by omega), bl_get bs (l + j) (by omega)]
      simp

set_option maxHeartbeats 1000000 in
theorem rnumber_q (v : Value) (bs : List Bool) (w : World) (h : RdQ w v bs) (hl : bs.length ≤ 24) :
    Calls Try.prog 80 #[v] w fun e w' => e = .returned (.int .u32 ((val bs : Nat) : Int)) ∧ w' = w := by
  obtain ⟨ao, cap, rfl⟩ := h.form
  have H := Lib.hid h
  clear h
  go_enter Try.func80, Try.ntmps80
  go_wp2
  go_loopw [3, 4] (fun o3 o4 wr => ∃ j : Nat, j ≤ bs.length ∧ o4 = .int .i64 ((j : Int) - 1) ∧ o3 = .int .u32 ((val (bs.drop j) : Nat) : Int) ∧ wr = w) (fun _ o4 _ => (intOf o4 + 1).toNat)
  case atStart => exact ⟨bs.length, Nat.le_refl _, rfl, by simp [val], rfl⟩
  case round =>
    obtain ⟨j, hj, rfl, rfl, rfl⟩ := hrel
    rcases j with _ | j
    · go_wp2
      go_ret
      exact ⟨rfl, rfl⟩
    · have hij : (((j + 1 : Nat) : Int) - 1) = (j : Int) := by omega
      rw [hij]
      obtain ⟨g, off, hao, hcell⟩ := H.out.cells (by omega)
      subst hao
      have hc := hcell j (by omega)
      have hv := val_drop_succ bs j (by omega)
      have hb := val_lt (bs.drop (j + 1))
      have hb2 : 2 ^ (bs.drop (j + 1)).length ≤ 2 ^ 23 := Nat.pow_le_pow_right (by omega) (by rw [List.length_drop]; omega)
      obtain ⟨y, hy⟩ : ∃ y, val (bs.drop (j + 1)) = y := ⟨_, rfl⟩
      have hy2 : y < 8388608 := by rw [← hy]; omega
      rw [hy] at hv ⊢
      have HV := Lib.hid hv
      clear hv hb hb2 hy hij hcell
      cases hbj : bs[j]
      · rw [hbj] at hc HV
        clear hbj
        go_wp2
        go_roundw
        case rel => exact ⟨j, by omega, rfl, by rw [HV.out]; simp <;> omega, trivial⟩
        case measure => simp [intOf]
      · rw [hbj] at hc HV
        clear hbj
        go_wp2
        go_roundw
        case rel => exact ⟨j, by omega, rfl, by rw [HV.out]; simp <;> omega, trivial⟩
        case measure => simp [intOf]

set_option maxHeartbeats 1000000 in
theorem rbytes_q (v : Value) (bs : List Bool) (w : World) (h : RdQ w v bs) (hlen : bs.length < 1000000) :
    Calls Try.prog 15 #[v] w fun e w' => Fresh w (pack bs) e w' := by
  obtain ⟨i, hi, hz0, hz1, hz2⟩ := info_parts Try.infoU8
  obtain ⟨ao, cap, rfl⟩ := h.form
  have H := Lib.hid h
  clear h
  have hby : i.bytes * ((bs.length + 7) / 8) ≤ 281474976710656 := by rw [hz2]; omega
  go_enter Try.func15, Try.ntmps15
  go_wp2_with (at_make; refine wpList_make_full _ rfl (.tmp 8) (.tmp 8) 31 rfl w.heap.size 5 i (.int .u8 0) 1 Try.underlying31 hi hz0 hz1 .i64 .i64 _ _ ((bs.length + 7) / 8) rfl rfl (by omega) (by omega) hby (by unfold maxLen; omega) (Nat.le_refl _) ?_)
  intro w1 hown1 hgrow1
  rw [zeros_bv, ← packTo_zero] at hown1
  have hc1 : Chg (fun _ => False) w w1 := (Chg.of_grown hgrow1).mono fun k _ hk => by simp at hk
  clear hgrow1
  go_wp2
  go_loopw [4] (fun o4 wr => ∃ k : Nat, k ≤ bs.length ∧ o4 = .int .i64 (k : Int) ∧ wr.ownsRow w.heap.size 5 1 (.slice (some ⟨w.heap.size, 0, none⟩) ((bs.length + 7) / 8) ((bs.length + 7) / 8)) ((bs.length + 7) / 8) (bv (packTo bs k)) ∧ Chg (fun _ => False) w wr) (fun o4 _ => bs.length - (intOf o4).toNat)
  case atStart => exact ⟨0, Nat.zero_le _, rfl, hown1, hc1⟩
  case round =>
    obtain ⟨k, hk, rfl, ho, hc⟩ := hrel
    clear hown1 hc1
    by_cases hlt : k < bs.length
    · obtain ⟨g, off, hao, hcells⟩ := (H.out.kept hc (by simp)).cells (by omega)
      subst hao
      have hcell := hcells k hlt
      clear hcells
      have hs1 := packTo_succ bs k hlt
      have hlt2 := packTo_lt bs k hlt
      have hb := ho.cellAt (k / 8) (by omega)
      rw [bv_get _ _ (by rw [packTo_length]; omega)] at hb
      have hfr := ho.frozenAt (k / 8)
      have hadd := add_u8 _ (k % 8) (by omega) hlt2
      have hst := ho.stored (k / 8) (.int .u8 (((packTo bs k).getD (k / 8) 0 + 2 ^ (k % 8) : Nat) : Int))
      rw [bv_set] at hst
      cases hbk : bs[k]
      · rw [hbk] at hs1 hcell
        simp only [Bool.toNat_false, Nat.zero_mul, Nat.add_zero] at hs1
        have hs2 : packTo bs (k + 1) = packTo bs k := by
          rw [hs1]
          have hl : k / 8 < (packTo bs k).length := by rw [packTo_length]; omega
          rw [List.getD_eq_getElem?_getD, List.getElem?_eq_getElem hl]; simp
        have HS2 := Lib.hid hs2
        clear hs1 hs2 hst hadd hbk hlt2
        go_wp2
        go_roundw
        case rel => exact ⟨k + 1, by omega, by go_num, by rw [HS2.out]; exact ho, hc⟩
        case measure => simp [intOf]; omega
      · rw [hbk] at hs1 hcell
        simp only [Bool.toNat_true, Nat.one_mul] at hs1
        rw [← hs1] at hst
        generalize hx : (packTo bs k).getD (k / 8) 0 = x at *
        have hst1 := hst.1
        have hc2 : Chg (fun _ => False) w (wr.setCell ⟨w.heap.size, k / 8, none⟩ (.int .u8 ((x + 2 ^ (k % 8) : Nat) : Int))) := hc.trans (Chg.setCell wr ⟨w.heap.size, k / 8, none⟩ _) (fun j hj h => by simp at h; omega)
        have hx2 : 2 ^ (k % 8) ≤ 2 ^ 7 := Nat.pow_le_pow_right (by omega) (by omega)
        have hx256 : x < 256 := by omega
        have HA := Lib.hid hadd; have HST := Lib.hid hst1; have HC2 := Lib.hid hc2
        clear hs1 hst hst1 hc2 hbk hlt2 hx hadd hx2
        go_wp2
        go_region
        go_wp2
        go_roundw
        case rel =>
          refine ⟨k + 1, by omega, by go_num, ?_, ?_⟩
          · rw [HA.out]; exact HST.out.drew
          · rw [HA.out]; exact HC2.out.drew
        case measure => simp [intOf]; omega
    · obtain rfl : k = bs.length := by omega
      rw [packTo_all] at ho
      go_wp2
      go_ret
      exact ⟨w.heap.size, (bs.length + 7) / 8, by rw [pack_length]; rfl, by rw [pack_length]; exact ho, hc⟩

/-- The document's Reader at block b, its bits bs in the block o (none: there are none), of which p were taken. -/
def Xr (w : World) (b : Nat) (o : Option Nat) (bs : List Bool) (p : Nat) : Prop :=
  bs.length < 1000000 ∧ p ≤ bs.length ∧ ∃ v, w.heap[b]? = some (.cells #[v, .int .i64 (p : Int)] 72 (0, 0)) ∧ v.ownBlock = o ∧ w.ownsRow 0 4 1 v bs.length (bl bs)

theorem Xr.lt {w : World} {b : Nat} {o : Option Nat} {bs : List Bool} {p : Nat} (h : Xr w b o bs p) : b < w.heap.size ∧ ∀ k, o = some k → k < w.heap.size ∧ k ≠ b := by
  obtain ⟨_, _, v, hb, ho, hown⟩ := h
  refine ⟨lt_of_block hb, fun k hk => ?_⟩
  have hk' := ho.trans hk
  refine ⟨(hown.lt k hk').2, ?_⟩
  rcases hown.2 with ⟨rfl, _⟩ | ⟨q, cap, cur, rfl, _, hq, _⟩
  · simp [Value.ownBlock] at hk'
  · simp only [Value.ownBlock, Option.some.injEq] at hk'
    subst hk'
    rintro rfl
    rw [hb] at hq
    simp at hq

theorem Xr.kept {S : Nat → Prop} {w w' : World} {b : Nat} {o : Option Nat} {bs : List Bool} {p : Nat} (h : Xr w b o bs p) (hc : Chg S w w') (h1 : ¬ S b) (h2 : ∀ k, o = some k → ¬ S k) : Xr w' b o bs p := by
  have hl := h.lt
  obtain ⟨e1, e2, v, hb, ho, hown⟩ := h
  exact ⟨e1, e2, v, (hc.block b hl.1 h1).trans hb, ho, hc.own hown (fun k hk => h2 k (ho.symm.trans hk))⟩

theorem xnew_any (v : Value) (xs : List Nat) (w : World) (h : RdB w v xs) (hl : xs.length ≤ 100000) (hx : ∀ x ∈ xs, x < 256) :
    Calls Try.prog 18 #[v] w fun e w' => ∃ b o, e = .returned (.pointer (some ⟨b, 0, none⟩)) ∧ Xr w' b o (bitsB xs) 0 ∧ Above w.heap.size b o ∧ Chg (fun _ => False) w w' := by
  go_enter Try.func18, Try.ntmps18
  go_wp2_with fail
  refine (rbits_any v xs w h hx (by omega)).mono ?_
  rintro e w1 ⟨v1, rfl, ho, hc⟩
  have hlt := ho.lt
  obtain ⟨ao, cap, hv, -⟩ := own_src ho
  subst hv
  have HO := Lib.hid ho; have HC := Lib.hid hc; have HLT := Lib.hid hlt
  clear h hx ho hc hlt
  go_wp2
  go_ret
  have hsz := HC.out.size
  exact ⟨w1.heap.size, (Value.slice ao (bitsB xs).length cap).ownBlock, rfl, ⟨by rw [bitsB_length]; omega, Nat.zero_le _, _, heap_alloc_new w1 _, rfl, ownsRow_mono (HO.out.alloc _) (Nat.zero_le _)⟩, ⟨hsz, fun k hk => (HLT.out k hk).1⟩, HC.out.trans (Chg.alloc _ w1 _) (fun _ _ h => h)⟩

theorem xleft_q (b : Nat) (o : Option Nat) (bs : List Bool) (p : Nat) (w : World) (h : Xr w b o bs p) :
    Calls Try.prog 23 #[.pointer (some ⟨b, 0, none⟩)] w fun e w' => e = .returned (.int .i64 ((bs.length - p : Nat) : Int)) ∧ ∃ m, w' = w.drewN m := by
  obtain ⟨hl, hp, v, hb, -, hown⟩ := h
  obtain ⟨ao, cap, rfl, -⟩ := own_src hown
  obtain ⟨c0, c1, f0, f1⟩ := cells2 hb
  clear hb hown
  go_enter Try.func23, Try.ntmps23
  go_wp2
  go_quiet (fail)
  go_wp2
  go_ret
  exact ⟨congrArg (fun z => Ending.returned (Value.int .i64 z)) (by omega), _, rfl⟩

theorem xleft_any (b : Nat) (o : Option Nat) (bs : List Bool) (p : Nat) (w : World) (h : Xr w b o bs p) :
    Calls Try.prog 23 #[.pointer (some ⟨b, 0, none⟩)] w fun e w' => e = .returned (.int .i64 ((bs.length - p : Nat) : Int)) ∧ Chg (fun _ => False) w w' :=
  (xleft_q b o bs p w h).mono fun e w' ⟨h1, m, h2⟩ => ⟨h1, by rw [h2]; exact (Chg.refl _ _).drewN m⟩

theorem xtake_no (b : Nat) (o : Option Nat) (bs : List Bool) (p : Nat) (n : Int) (w : World) (h : Xr w b o bs p) (hn : n < 0 ∨ 24 < n ∨ ((bs.length - p : Nat) : Int) < n) :
    Calls Try.prog 66 #[.pointer (some ⟨b, 0, none⟩), .int .i64 n] w fun e w' => e = .returned (.tuple #[.int .u32 0, .bool false]) ∧ Chg (fun _ => False) w w' := by
  by_cases h0 : n < 0
  · have h0' : decide (n < 0) = true := by simpa using h0
    clear h
    go_enter Try.func66, Try.ntmps66
    go_wp2
    go_ret2
    exact ⟨rfl, Chg.refl _ _⟩
  · have h0' : decide (n < 0) = false := by simpa using h0
    by_cases h1 : 24 < n
    · have h1' : decide (24 < n) = true := by simpa using h1
      clear h
      go_enter Try.func66, Try.ntmps66
      go_wp2
      go_ret2
      exact ⟨rfl, Chg.refl _ _⟩
    · have h1' : decide (24 < n) = false := by simpa using h1
      have h2' : ((bs.length - p : Nat) : Int) < n := by omega
      have H := Lib.hid h
      clear h hn
      obtain ⟨L, hL⟩ : ∃ L, bs.length - p = L := ⟨_, rfl⟩
      rw [hL] at h2'
      have HL := Lib.hid hL
      clear hL
      go_enter Try.func66, Try.ntmps66
      go_wp2_with fail
      refine (xleft_any b o bs p w H.out).mono ?_
      rintro e w1 ⟨rfl, hc⟩
      rw [HL.out]
      go_wp2
      go_ret2
      exact ⟨rfl, hc⟩

set_option maxHeartbeats 1000000 in
theorem xtake_yes (b : Nat) (o : Option Nat) (bs : List Bool) (p n : Nat) (w : World) (h : Xr w b o bs p) (hn : n ≤ 24) (hnl : p + n ≤ bs.length) :
    Calls Try.prog 66 #[.pointer (some ⟨b, 0, none⟩), .int .i64 (n : Int)] w fun e w' => e = .returned (.tuple #[.int .u32 ((val ((bs.drop p).take n) : Nat) : Int), .bool true]) ∧ Xr w' b o bs (p + n) ∧ Chg (fun k => k = b) w w' := by
  have h0' : decide ((n : Int) < 0) = false := by simp
  have h1' : decide (24 < (n : Int)) = false := by simp; omega
  have H := Lib.hid h
  obtain ⟨hl, -, -⟩ := h
  obtain ⟨L, hL⟩ : ∃ L, bs.length - p = L := ⟨_, rfl⟩
  have h2' : ¬ (L : Int) < (n : Int) := by omega
  have hp6 : p < 1000000 := by omega
  have HL := Lib.hid hL; have HNL := Lib.hid hnl; have HLL := Lib.hid hl
  clear hL hnl hl
  go_enter Try.func66, Try.ntmps66
  go_wp2_with fail
  refine (xleft_any b o bs p w H.out).mono ?_
  rintro e w1 ⟨rfl, hc⟩
  rw [HL.out]
  have h1 := H.out.kept hc (by simp) (by simp)
  have hne := h1.lt.2
  obtain ⟨-, -, v, hb, ho, hown⟩ := h1
  obtain ⟨ao2, c2, hsl, -, hq⟩ := slice_bits hown p (p + n) (by omega) HNL.out
  rw [Nat.add_sub_cancel_left] at hq
  have hsl' : ∀ W : World, (Instr.slice 27 v (some (.int .i64 (p : Int))) (some (.int .i64 ((p : Int) + (n : Int)))) none).run Try.prog W = .ok (.slice ao2 n c2) W := by
    intro W
    have := hsl W
    rw [Nat.add_sub_cancel_left, show ((p + n : Nat) : Int) = (p : Int) + (n : Int) from by omega] at this
    exact this
  clear hsl
  have HNUM : Hid (∀ m : Nat, Calls Try.prog 80 #[.slice ao2 n c2] (w1.drewN m) fun e w' => e = .returned (.int .u32 ((val ((bs.drop p).take n) : Nat) : Int)) ∧ w' = w1.drewN m) := by
    refine Lib.hid fun m => rnumber_q _ _ _ ?_ (by rw [List.length_take]; omega)
    exact hq
  obtain ⟨ao, cap, hv, -⟩ := own_src hown
  subst hv
  obtain ⟨d0, d1, e0, e1⟩ := cells2 hb
  have hb1 := set2_1 (u := .int .i64 ((p : Int) + (n : Int))) hb
  have hc1 := Chg.setCell w1 ⟨b, 1, none⟩ (.int .i64 ((p : Int) + (n : Int)))
  have ho1 := hc1.own hown (fun q hq hx => (hne q (ho.symm.trans hq)).2 hx)
  have hw1 : IntKind.i64.wrap ((p : Int) + (n : Int)) = (p : Int) + (n : Int) := by rw [IntKind.wrap_i64]; omega
  have HB1 := Lib.hid hb1; have HC1 := Lib.hid hc1; have HO1 := Lib.hid ho1; have HO := Lib.hid ho; have HC := Lib.hid hc
  clear hb1 hc1 ho1 hb hown hne ho hc H HL hq
  go_wp2
  go_quiet (first | (go_at_call 80; exact Calls.quiet_of_same (HNUM.out _)))
  go_wp2
  go_ret2
  exact ⟨rfl, ⟨HLL.out, HNL.out, _, HB1.out, HO.out, HO1.out⟩, ((HC.out.drewN nq).mono (fun _ _ h => h.elim)).trans (Chg.setCell (w1.drewN nq) ⟨b, 1, none⟩ _) (fun _ _ h => h)⟩

theorem xtake_f (b : Nat) (o : Option Nat) (xs : List Nat) (p : Nat) (n : Int) (w : World) (h : Xr w b o (bitsB xs) p) :
    Calls Try.prog 66 #[.pointer (some ⟨b, 0, none⟩), .int .i64 n] w fun e w' => e = .returned (.tuple #[.int .u32 (((ftk xs p n).1 : Nat) : Int), .bool (ftk xs p n).2.1]) ∧ Xr w' b o (bitsB xs) (ftk xs p n).2.2 ∧ Chg (fun k => k = b) w w' := by
  have hp := h.2.1
  have hl := bitsB_length xs
  by_cases hn : n < 0 ∨ 24 < n ∨ (((bitsB xs).length - p : Nat) : Int) < n
  · have e1 : ftk xs p n = (0, false, p) := by unfold ftk; rw [if_neg (by omega)]
    refine (xtake_no b o _ p n w h hn).mono ?_
    rintro e w' ⟨rfl, hc⟩
    rw [e1]; exact ⟨rfl, h.kept hc (by simp) (by simp), hc.mono (fun _ _ h => h.elim)⟩
  · obtain ⟨m, rfl⟩ := Int.eq_ofNat_of_zero_le (show 0 ≤ n by omega)
    have e1 : ftk xs p (m : Int) = (fv xs p m, true, p + m) := by unfold ftk; rw [if_pos (by omega)]; rfl
    refine (xtake_yes b o _ p m w h (by omega) (by omega)).mono ?_
    rintro e w' ⟨rfl, hr, hc⟩
    rw [e1]; exact ⟨rfl, hr, hc⟩

theorem bits_bt (xs : List Nat) (j : Nat) (h : j < (bitsB xs).length) : (bitsB xs)[j] = decide (bt xs j = 1) := by
  have e := bitsB_get xs j (by rw [← bitsB_length]; exact h)
  rw [List.getElem?_eq_getElem h] at e
  exact Option.some.inj e

theorem drop_bits (xs : List Nat) (E : Nat) : (bitsB xs).drop (8 * E) = bitsB (xs.drop E) := by
  by_cases h : E ≤ xs.length
  · conv => lhs; rw [← List.take_append_drop E xs, bitsB_append]
    have el : 8 * E = (bitsB (xs.take E)).length := by rw [bitsB_length, List.length_take, Nat.min_eq_left h]
    rw [el, List.drop_left]
  · rw [List.drop_eq_nil_of_le (by rw [bitsB_length]; omega), List.drop_eq_nil_of_le (by omega)]; rfl

end Go.Proofs.Ytllkfmnofklpmaa

/- What the document's own logs (puncheonref07) tell. -/
namespace Go.Proofs.Ytllkfmnofklpmaa
open Go.RowKit

set_option maxHeartbeats 1000000 in
theorem r7width_any (n : Int) (w : World) (hn : n ≤ 1099511627776) (hlo : -9223372036854775808 ≤ n) :
    Calls Try.prog 63 #[.int .i64 n] w fun e w' => e = .returned (.int .i64 ((widthI n : Nat) : Int)) ∧ w' = w := by
  have hwl := width_le41 hn
  obtain ⟨W, hW⟩ : ∃ W, widthI n = W := ⟨_, rfl⟩
  rw [hW] at hwl ⊢
  have HW := Lib.hid hW; have HWL := Lib.hid hwl; have HN := Lib.hid (And.intro hn hlo)
  clear hW hwl hn hlo
  go_enter Try.func63, Try.ntmps63
  go_wp2
  go_loopw [0, 3] (fun o0 o3 wr => ∃ (x : Int) (k : Nat), o0 = .int .i64 x ∧ o3 = .int .i64 (k : Int) ∧ -9223372036854775808 ≤ x ∧ x ≤ 1099511627776 ∧ widthI x + k = W ∧ wr = w) (fun o0 _ _ => (intOf o0).toNat)
  case atStart => exact ⟨n, 0, rfl, rfl, HN.out.2, HN.out.1, HW.out, rfl⟩
  case round =>
    obtain ⟨x, k, rfl, rfl, hx0, hx1, hs, rfl⟩ := hrel
    by_cases hlt : 0 < x
    · have hh := width_half (n := x) (by omega)
      have hs2 : widthI (x / 2) + (k + 1) = W := by omega
      have hk : (k : Int) ≤ 41 := by have := HWL.out; omega
      have hd : x.tdiv 2 = x / 2 := Int.tdiv_eq_ediv_of_nonneg (by omega)
      have HS := Lib.hid hs2
      clear hs hh hs2
      go_wp2
      go_roundw
      case rel => exact ⟨x / 2, k + 1, by go_num, by go_num, by omega, by omega, HS.out, trivial⟩
      case measure => simp [intOf]; omega
    · rw [width_small (by omega)] at hs
      have hk : k = W := by omega
      subst hk
      clear hs
      go_wp2
      go_ret
      exact ⟨rfl, rfl⟩

end Go.Proofs.Ytllkfmnofklpmaa

/- What the document's own numbers (puncheonref13) tell: Can, Put, Take. -/
namespace Go.Proofs.Ytllkfmnofklpmaa
open Go.RowKit

theorem r13can_any (v l : Int) (w : World) : Calls Try.prog 61 #[.int .i64 v, .int .i64 l] w fun e w' => e = .returned (.bool (decide (bCan v l))) ∧ w' = w := by
  by_cases h1 : 1 ≤ l
  · have d1 : decide (1 ≤ l) = true := decide_eq_true h1
    by_cases h2 : l ≤ 4096
    · have d2 : decide (l ≤ 4096) = true := decide_eq_true h2
      by_cases h3 : 0 ≤ v
      · have d3 : decide (0 ≤ v) = true := decide_eq_true h3
        have hd : decide (bCan v l) = decide (v ≤ l) := decide_eq_decide.2 ⟨fun h => h.2.2.2, fun h => ⟨h1, h2, h3, h⟩⟩
        rw [hd]
        clear hd
        go_enter Try.func61, Try.ntmps61
        go_wp2
        go_ret
        exact ⟨rfl, rfl⟩
      · have d3 : decide (0 ≤ v) = false := decide_eq_false h3
        have hd : decide (bCan v l) = false := decide_eq_false fun h => h3 h.2.2.1
        rw [hd]
        clear hd
        go_enter Try.func61, Try.ntmps61
        go_wp2
        go_ret
        exact ⟨rfl, rfl⟩
    · have d2 : decide (l ≤ 4096) = false := decide_eq_false h2
      have hd : decide (bCan v l) = false := decide_eq_false fun h => h2 h.2.1
      rw [hd]
      clear hd
      go_enter Try.func61, Try.ntmps61
      go_wp2
      go_ret
      exact ⟨rfl, rfl⟩
  · have d1 : decide (1 ≤ l) = false := decide_eq_false h1
    have hd : decide (bCan v l) = false := decide_eq_false fun h => h1 h.1
    rw [hd]
    clear hd
    go_enter Try.func61, Try.ntmps61
    go_wp2
    go_ret
    exact ⟨rfl, rfl⟩

theorem r13put_any (u : Value) (bs : List Bool) (v l : Int) (B : Nat) (w : World) (h : w.ownsRow B 4 1 u bs.length (bl bs)) (hB : B ≤ w.heap.size) (hlen : bs.length < 990000) :
    Calls Try.prog 36 #[u, .int .i64 v, .int .i64 l] w fun e w' => ∃ v', e = .returned v' ∧ w'.ownsRow B 4 1 v' (bgPutB bs v l).length (bl (bgPutB bs v l)) ∧ Chg (fun _ => False) w w' := by
  have HC := Lib.hid (r13can_any v l w)
  by_cases hc : bCan v l
  · obtain ⟨h1, h2, h3, h4⟩ := hc
    have hw := width_13 h1 h2
    have HW := Lib.hid (r7width_any l w (by omega) (by omega))
    have hbs : bgPutB bs v l = bs ++ bitsOf v.toNat (widthI l) := by unfold bgPutB; rw [if_pos ⟨h1, h2, h3, h4⟩]
    rw [decide_eq_true (show bCan v l from ⟨h1, h2, h3, h4⟩)] at HC
    obtain ⟨x, rfl⟩ := Int.eq_ofNat_of_zero_le h3
    rw [Int.toNat_natCast] at hbs
    have HP := Lib.hid (rput_any u bs x (widthI l) w ⟨B, h⟩ (by omega) (by omega) (by omega))
    have hx : (x : Int) % 4294967296 = (x : Int) := by omega
    obtain ⟨n, hn⟩ : ∃ n, widthI l = n := ⟨_, rfl⟩
    rw [hn] at HW HP hbs
    have HBS := Lib.hid hbs; have HB := Lib.hid hB
    clear hbs hn h hw hlen hB
    go_enter Try.func36, Try.ntmps36
    go_wp2_with fail
    refine (HC.out).mono ?_
    rintro e w1 ⟨rfl, rfl⟩
    go_wp2_with fail
    refine (HW.out).mono ?_
    rintro e w1 ⟨rfl, rfl⟩
    go_wp2_with fail
    refine (HP.out).mono ?_
    rintro e w2 ⟨v2, rfl, ho2, hc2⟩
    have HO2 := Lib.hid ho2; have HC2 := Lib.hid hc2
    clear ho2 hc2
    go_wp2
    go_ret
    exact ⟨_, rfl, by rw [HBS.out]; exact ownsRow_mono HO2.out HB.out, HC2.out⟩
  · have hbs : bgPutB bs v l = bs := by unfold bgPutB; rw [if_neg hc]
    rw [decide_eq_false hc] at HC
    have HBS := Lib.hid hbs; have HO := Lib.hid h
    clear hbs h hc
    go_enter Try.func36, Try.ntmps36
    go_wp2_with fail
    refine (HC.out).mono ?_
    rintro e w1 ⟨rfl, rfl⟩
    go_wp2
    go_ret
    exact ⟨_, rfl, by rw [HBS.out]; exact HO.out, Chg.refl _ _⟩

theorem r13take_any (b : Nat) (o : Option Nat) (xs : List Nat) (p : Nat) (l : Int) (w : World) (h : Xr w b o (bitsB xs) p) (hl : -9223372036854775808 ≤ l) :
    Calls Try.prog 44 #[.pointer (some ⟨b, 0, none⟩), .int .i64 l] w fun e w' => e = .returned (.tuple #[.int .i64 (bgTk xs p l).1, .int .i64 (bgTk xs p l).2.1]) ∧ Xr w' b o (bitsB xs) (bgTk xs p l).2.2 ∧ Chg (fun k => k = b) w w' := by
  have H := Lib.hid h
  clear h
  by_cases h1 : 1 ≤ l
  · by_cases h2 : l ≤ 4096
    · have d1 : decide (l < 1) = false := decide_eq_false (by omega)
      have d2 : decide (4096 < l) = false := decide_eq_false (by omega)
      have hw := width_13 h1 h2
      have HW := Lib.hid (r7width_any l w (by omega) (by omega))
      obtain ⟨n, hn⟩ : ∃ n, widthI l = n := ⟨_, rfl⟩
      have hb : bgTk xs p l = if p + n ≤ 8 * xs.length then (if ((fv xs p n : Nat) : Int) ≤ l then (((fv xs p n : Nat) : Int), 0, p + n) else (0, 13, p + n)) else (0, 3, p) := by unfold bgTk; rw [if_pos ⟨h1, h2⟩, hn]
      rw [hn] at HW hw
      have HT := Lib.hid (xtake_f b o xs p (n : Int) w H.out)
      have hftk : ftk xs p (n : Int) = if p + n ≤ 8 * xs.length then (fv xs p n, true, p + n) else (0, false, p) := by
        unfold ftk
        by_cases hh : p + n ≤ 8 * xs.length
        · rw [if_pos (by omega), if_pos hh, Int.toNat_natCast]
        · rw [if_neg (by omega), if_neg hh]
      have hfv := fv_lt xs p n
      by_cases hh : p + n ≤ 8 * xs.length
      · rw [if_pos hh] at hb hftk
        rw [hftk] at HT
        obtain ⟨f, hf⟩ : ∃ f, fv xs p n = f := ⟨_, rfl⟩
        rw [hf] at hb HT hfv
        have hf13 : f < 8192 := Nat.lt_of_lt_of_le hfv (by have := pow_le hw.2.1; have : (2 : Nat) ^ 13 = 8192 := by decide
                                                           omega)
        by_cases hle : (f : Int) ≤ l
        · rw [if_pos hle] at hb
          rw [hb]
          have d3 : decide (l < (f : Int)) = false := decide_eq_false (by omega)
          clear hb hftk hf hfv hw hn
          go_enter Try.func44, Try.ntmps44
          go_wp2_with fail
          refine (HW.out).mono ?_
          rintro e w1 ⟨rfl, rfl⟩
          go_wp2_with fail
          refine (HT.out).mono ?_
          rintro e w2 ⟨rfl, hx2, hc2⟩
          have HX2 := Lib.hid hx2; have HC2 := Lib.hid hc2
          clear hx2 hc2
          go_wp2
          go_ret2
          exact ⟨rfl, HX2.out, HC2.out⟩
        · rw [if_neg hle] at hb
          rw [hb]
          have d3 : decide (l < (f : Int)) = true := decide_eq_true (by omega)
          clear hb hftk hf hfv hw hn
          go_enter Try.func44, Try.ntmps44
          go_wp2_with fail
          refine (HW.out).mono ?_
          rintro e w1 ⟨rfl, rfl⟩
          go_wp2_with fail
          refine (HT.out).mono ?_
          rintro e w2 ⟨rfl, hx2, hc2⟩
          have HX2 := Lib.hid hx2; have HC2 := Lib.hid hc2
          clear hx2 hc2
          go_wp2
          go_ret2
          exact ⟨rfl, HX2.out, HC2.out⟩
      · rw [if_neg hh] at hb hftk
        rw [hftk] at HT
        rw [hb]
        clear hb hftk hfv hw hn
        go_enter Try.func44, Try.ntmps44
        go_wp2_with fail
        refine (HW.out).mono ?_
        rintro e w1 ⟨rfl, rfl⟩
        go_wp2_with fail
        refine (HT.out).mono ?_
        rintro e w2 ⟨rfl, hx2, hc2⟩
        have HX2 := Lib.hid hx2; have HC2 := Lib.hid hc2
        clear hx2 hc2
        go_wp2
        go_ret2
        exact ⟨rfl, HX2.out, HC2.out⟩
    · have d1 : decide (l < 1) = false := decide_eq_false (by omega)
      have d2 : decide (4096 < l) = true := decide_eq_true (by omega)
      have hb : bgTk xs p l = (0, 1, p) := by unfold bgTk; rw [if_neg (by omega)]
      rw [hb]
      clear hb
      go_enter Try.func44, Try.ntmps44
      go_wp2
      go_ret2
      exact ⟨rfl, H.out, Chg.refl _ _⟩
  · have d1 : decide (l < 1) = true := decide_eq_true (by omega)
    have hb : bgTk xs p l = (0, 1, p) := by unfold bgTk; rw [if_neg (by omega)]
    rw [hb]
    clear hb
    go_enter Try.func44, Try.ntmps44
    go_wp2
    go_ret2
    exact ⟨rfl, H.out, Chg.refl _ _⟩

end Go.Proofs.Ytllkfmnofklpmaa

/- What the document's own runs (puncheonref14) tell: Put, Take. -/
namespace Go.Proofs.Ytllkfmnofklpmaa
open Go.RowKit

theorem r14put_nat : ∀ (n : Nat), n ≤ 255 → ∀ (u : Value) (bs : List Bool) (B : Nat) (w : World), w.ownsRow B 4 1 u bs.length (bl bs) → B ≤ w.heap.size → bs.length + 2 * n < 989000 →
    Calls Try.prog 37 #[u, .int .i64 (n : Int)] w fun e w' => ∃ v', e = .returned v' ∧ w'.ownsRow B 4 1 v' (bs ++ rnB n).length (bl (bs ++ rnB n)) ∧ Chg (fun _ => False) w w' := by
  intro n
  induction n using Nat.strongRecOn with
  | ind n ih =>
    intro hn u bs B w h hB hlen
    have d1 : decide ((n : Int) < 0) = false := decide_eq_false (by omega)
    have d2 : decide (255 < (n : Int)) = false := decide_eq_false (by omega)
    by_cases h3 : n < 3
    · have d3 : decide (3 ≤ (n : Int)) = false := decide_eq_false (by omega)
      have HP := Lib.hid (rput_any u bs n 2 w ⟨B, h⟩ (by omega) (by omega) (by omega))
      rw [rnB_small h3]
      have hx : (n : Int) % 4294967296 = (n : Int) := by omega
      have HB := Lib.hid hB
      clear h hlen ih h3 hB
      go_enter Try.func37, Try.ntmps37
      go_wp2_with fail
      refine (HP.out).mono ?_
      rintro e w2 ⟨v2, rfl, ho2, hc2⟩
      have HO2 := Lib.hid ho2; have HC2 := Lib.hid hc2
      clear ho2 hc2
      go_wp2
      go_ret
      exact ⟨_, rfl, ownsRow_mono HO2.out HB.out, HC2.out⟩
    · have d3 : decide (3 ≤ (n : Int)) = true := decide_eq_true (by omega)
      obtain ⟨k, rfl⟩ : ∃ k, n = k + 3 := ⟨n - 3, by omega⟩
      have HP := Lib.hid (rput_any u bs 3 2 w ⟨B, h⟩ (by omega) (by omega) (by omega))
      have IH := Lib.hid fun (v : Value) (W : World) (hv : W.ownsRow w.heap.size 4 1 v (bs ++ bitsOf 3 2).length (bl (bs ++ bitsOf 3 2))) (hW : w.heap.size ≤ W.heap.size) => ih k (by omega) (by omega) v (bs ++ bitsOf 3 2) B W (ownsRow_mono hv hB) (by omega) (by rw [List.length_append, bitsOf_length]; omega)
      have hk : ((k + 3 : Nat) : Int) - 3 = (k : Int) := by omega
      obtain ⟨n, hne⟩ : ∃ n : Int, ((k + 3 : Nat) : Int) = n := ⟨_, rfl⟩
      rw [hne] at d1 d2 d3 hk ⊢
      have hnb : 3 ≤ n ∧ n ≤ 255 := by omega
      have hrn : bs ++ rnB (k + 3) = bs ++ bitsOf 3 2 ++ rnB k := by rw [List.append_assoc]; rfl
      rw [hrn]
      clear h hlen ih h3 hne hB hrn hn
      go_enter Try.func37, Try.ntmps37
      go_wp2_with fail
      refine (HP.out).mono ?_
      rintro e w2 ⟨v2, rfl, ho2, hc2⟩
      have IH2 := Lib.hid (IH.out v2 w2 ho2 hc2.size); have HC2 := Lib.hid hc2
      clear ho2 hc2 IH
      go_wp2_with fail
      refine (IH2.out).mono ?_
      rintro e w3 ⟨v3, rfl, ho3, hc3⟩
      have HO3 := Lib.hid ho3; have HC3 := Lib.hid (HC2.out.trans hc3 fun _ _ h => h)
      clear ho3 hc3
      go_wp2
      go_ret
      exact ⟨_, rfl, HO3.out, HC3.out⟩

theorem r14put_any (u : Value) (bs : List Bool) (n : Int) (B : Nat) (w : World) (h : w.ownsRow B 4 1 u bs.length (bl bs)) (hB : B ≤ w.heap.size) (hlen : bs.length < 988000) :
    Calls Try.prog 37 #[u, .int .i64 n] w fun e w' => ∃ v', e = .returned v' ∧ w'.ownsRow B 4 1 v' (rnPutB bs n).length (bl (rnPutB bs n)) ∧ Chg (fun _ => False) w w' := by
  by_cases hok : rnOk n
  · obtain ⟨k, rfl⟩ := Int.eq_ofNat_of_zero_le hok.1
    have h2 := hok.2
    have := r14put_nat k (by omega) u bs B w h hB (by omega)
    unfold rnPutB
    rw [if_pos hok, Int.toNat_natCast]
    exact this
  · unfold rnPutB
    rw [if_neg hok]
    have HO := Lib.hid h
    by_cases h1 : n < 0
    · have d1 : decide (n < 0) = true := decide_eq_true h1
      clear h hok
      go_enter Try.func37, Try.ntmps37
      go_wp2
      go_ret
      exact ⟨_, rfl, HO.out, Chg.refl _ _⟩
    · have d1 : decide (n < 0) = false := decide_eq_false h1
      have d2 : decide (255 < n) = true := decide_eq_true (by unfold rnOk at hok; omega)
      clear h hok
      go_enter Try.func37, Try.ntmps37
      go_wp2
      go_ret
      exact ⟨_, rfl, HO.out, Chg.refl _ _⟩

set_option maxHeartbeats 1000000 in
theorem r14take_any (b : Nat) (o : Option Nat) (xs : List Nat) (p : Nat) (l : Int) (w : World) (h : Xr w b o (bitsB xs) p) :
    Calls Try.prog 45 #[.pointer (some ⟨b, 0, none⟩), .int .i64 l] w fun e w' => e = .returned (.tuple #[.int .i64 (rnTk xs p l).1, .int .i64 (rnTk xs p l).2.1]) ∧ Xr w' b o (bitsB xs) (rnTk xs p l).2.2 ∧ Chg (fun k => k = b) w w' := by
  have H := Lib.hid h
  by_cases h1 : l < 0
  · have d1 : decide (l < 0) = true := decide_eq_true h1
    have hb : rnTk xs p l = (0, 1, p) := by unfold rnTk; rw [if_neg (fun hh => by have := hh.1; omega)]
    rw [hb]
    clear hb h
    go_enter Try.func45, Try.ntmps45
    go_wp2
    go_ret2
    exact ⟨rfl, H.out, Chg.refl _ _⟩
  · have d1 : decide (l < 0) = false := decide_eq_false h1
    by_cases h2 : 255 < l
    · have d2 : decide (255 < l) = true := decide_eq_true h2
      have hb : rnTk xs p l = (0, 1, p) := by unfold rnTk; rw [if_neg (fun hh => by have := hh.2; omega)]
      rw [hb]
      clear hb h
      go_enter Try.func45, Try.ntmps45
      go_wp2
      go_ret2
      exact ⟨rfl, H.out, Chg.refl _ _⟩
    · have d2 : decide (255 < l) = false := decide_eq_false h2
      obtain ⟨k, rfl⟩ := Int.eq_ofNat_of_zero_le (show 0 ≤ l by omega)
      have hb : rnTk xs p (k : Int) = rnGo xs k (4 * xs.length + 1) p 0 := by unfold rnTk; rw [if_pos ⟨by omega, by omega⟩, Int.toNat_natCast]
      rw [hb]
      obtain ⟨G, hG⟩ : ∃ G, rnGo xs k (4 * xs.length + 1) p 0 = G := ⟨_, rfl⟩
      rw [hG]
      have HG := Lib.hid hG
      have hp0 := h.2.1
      rw [bitsB_length] at hp0
      have HP0 := Lib.hid hp0
      have hk255 : (k : Int) ≤ 255 := by omega
      clear hb hG h hp0
      go_enter Try.func45, Try.ntmps45
      go_wp2
      go_loopw [6, 7, 8] (fun o6 _ _ wr => ∃ (f q acc : Nat), o6 = .int .i64 (acc : Int) ∧ acc ≤ k ∧ rnGo xs k f q acc = G ∧ q ≤ 8 * xs.length ∧ 8 * xs.length < q + 2 * f ∧ Xr wr b o (bitsB xs) q ∧ Chg (fun k => k = b) w wr) (fun o6 _ _ _ => 256 - (intOf o6).toNat)
      case atStart => exact ⟨4 * xs.length + 1, p, 0, rfl, Nat.zero_le _, HG.out, HP0.out, by omega, H.out, Chg.refl _ _⟩
      case round =>
        obtain ⟨f, q, acc, rfl, hak, hg, hq8, hfuel, hx, hc⟩ := hrel
        obtain ⟨f, rfl⟩ : ∃ f', f = f' + 1 := ⟨f - 1, by omega⟩
        have hT := xtake_f b o xs q 2 wr hx
        have hftk : ftk xs q 2 = if q + 2 ≤ 8 * xs.length then (fv xs q 2, true, q + 2) else (0, false, q) := by
          unfold ftk
          by_cases hh : q + 2 ≤ 8 * xs.length
          · rw [if_pos (by omega), if_pos hh]; rfl
          · rw [if_neg (by omega), if_neg hh]
        have hv4 := fv_lt xs q 2
        simp only [rnGo] at hg
        have C := Lib.hid hc
        have haI : (acc : Int) ≤ 255 := by omega
        clear hc hx
        by_cases hh : q + 2 ≤ 8 * xs.length
        · rw [if_pos hh] at hg hftk
          rw [hftk] at hT
          obtain ⟨y, hy⟩ : ∃ y, fv xs q 2 = y := ⟨_, rfl⟩
          rw [hy] at hg hT hv4
          have hy4 : (y : Int) < 4 := by omega
          have T := Lib.hid hT
          obtain ⟨s, hs⟩ : ∃ s, acc + y = s := ⟨_, rfl⟩
          have hsI : (acc : Int) + (y : Int) = (s : Int) := by omega
          rw [hs] at hg
          have HS := Lib.hid hs; have HFU := Lib.hid hfuel; have HH := Lib.hid hh; have HY4 := Lib.hid hv4
          clear hT hftk hy hs hfuel hv4
          by_cases h3 : k < s
          · rw [if_pos h3] at hg
            have HGG := Lib.hid hg
            have d4 : k < s := h3
            clear hg hh h3
            go_wp2_with fail
            refine (T.out).mono ?_
            rintro e w3 ⟨rfl, hx3, hc3⟩
            have X3 := Lib.hid hx3; have C3 := Lib.hid (C.out.trans hc3 fun _ _ h => h)
            clear hx3 hc3
            go_wp2
            go_ret2
            rw [← HGG.out]
            exact ⟨rfl, X3.out, C3.out⟩
          · rw [if_neg h3] at hg
            by_cases h4 : y < 3
            · rw [if_pos h4] at hg
              have HGG := Lib.hid hg
              have d5 : decide ((y : Int) < 3) = true := decide_eq_true (by omega)
              clear hg hh
              go_wp2_with fail
              refine (T.out).mono ?_
              rintro e w3 ⟨rfl, hx3, hc3⟩
              have X3 := Lib.hid hx3; have C3 := Lib.hid (C.out.trans hc3 fun _ _ h => h)
              clear hx3 hc3
              go_wp2
              go_ret2
              rw [← HGG.out]
              exact ⟨rfl, X3.out, C3.out⟩
            · rw [if_neg h4] at hg
              have HGG := Lib.hid hg
              have d5 : decide ((y : Int) < 3) = false := decide_eq_false (by omega)
              have H3 := Lib.hid h3; have H4 := Lib.hid h4
              clear hg hh
              go_wp2_with fail
              refine (T.out).mono ?_
              rintro e w3 ⟨rfl, hx3, hc3⟩
              have X3 := Lib.hid hx3; have C3 := Lib.hid (C.out.trans hc3 fun _ _ h => h)
              clear hx3 hc3
              go_wp2
              go_roundw
              case rel => exact ⟨f, q + 2, s, rfl, by have := H3.out; omega, HGG.out, HH.out, by have := HFU.out; omega, X3.out, C3.out⟩
              case measure => simp [intOf]; have := HS.out; have := H3.out; have := H4.out; omega
        · rw [if_neg hh] at hg hftk
          rw [hftk] at hT
          have T := Lib.hid hT; have HGG := Lib.hid hg
          clear hT hftk hg hv4
          go_wp2_with fail
          refine (T.out).mono ?_
          rintro e w3 ⟨rfl, hx3, hc3⟩
          have X3 := Lib.hid hx3; have C3 := Lib.hid (C.out.trans hc3 fun _ _ h => h)
          clear hx3 hc3
          go_wp2
          go_ret2
          rw [← HGG.out]
          exact ⟨rfl, X3.out, C3.out⟩

end Go.Proofs.Ytllkfmnofklpmaa

/- Opening arguments: what every row's last step wants; []byte and []int. -/
namespace Go.Proofs.Ytllkfmnofklpmaa
open Go.ChangeShapes Go.WideShapes Go.ChangeAt Go.RowKit Go.Deep

theorem own : ownKnob Try.prog.godebug = none := by kernel_rfl
theorem laidOut : laidOutB Try.prog = true := by kernel_rfl

theorem spot_none {w : World} {a : Addr} {v : Value} (h : w.cell? (a.add 0) = some v) : ∃ g off, a = ⟨g, off, none⟩ := by
  obtain ⟨b, off, spot⟩ := a
  have hs : spot = none := by simpa [Addr.add] using World.cell?_spot h
  exact ⟨b, off, by rw [hs]⟩

theorem add_lit (g off j : Nat) : (⟨g, off, none⟩ : Addr).add j = ⟨g, off + j, none⟩ := by unfold Addr.add; split <;> simp_all

theorem wf_u32 {x : Int} (h : (Lit.int .u32 x).wf = true) : 0 ≤ x ∧ x < 4294967296 := by
  have := bounds_u32 h; omega

theorem Chg.bel {w w' : World} (h : Chg (fun _ => False) w w') : Below w.heap.size w w' := h.below (Nat.le_refl _) (fun _ _ => by simp)

theorem cellsU8 : Try.prog.cellsOf 5 = 1 := by kernel_rfl

theorem open_bytes {H : Type} {enc : TypeId × Value → H} {W : World} {base : Nat} {spare : Nat → Bool} {held : Bool} {a : Option Addr} {len cap : Nat} {d : DataW H} {p : List MemPlace}
    (h : DataW.Trod enc Try.prog W base spare held 31 (.slice a len cap) d p) : ∃ xs, RdB W (.slice a len cap) xs ∧ ∀ x ∈ xs, x < 256 := by
  obtain ⟨fuel, hf⟩ := h
  rcases open_ints Try.underlying31 Try.underlying5 cellsU8 hf with ⟨hcs, _⟩ | ⟨x, l, c, zs, hcs, _, hl, _, hz, _, hcell, hwz⟩
  · simp [Value.cells] at hcs
    obtain ⟨rfl, rfl, rfl⟩ := hcs
    exact ⟨[], .inl ⟨rfl, none, 0, rfl⟩, by simp⟩
  · simp [Value.cells] at hcs
    obtain ⟨rfl, rfl, rfl⟩ := hcs
    have hlen : len ≤ zs.length := by rw [hz]; split <;> omega
    have hb : ∀ j, j < zs.length → 0 ≤ zs.getD j 0 ∧ zs.getD j 0 < 256 := by
      intro j hj
      have hmem : zs.getD j 0 ∈ zs := by
        rw [List.getD_eq_getElem?_getD, List.getElem?_eq_getElem hj]; exact List.getElem_mem hj
      have := bounds_u8 (hwz _ hmem)
      omega
    refine ⟨(List.range len).map fun j => (zs.getD j 0).toNat, ?_, ?_⟩
    · by_cases h0 : len = 0
      · subst h0
        exact .inl ⟨rfl, some x, cap, rfl⟩
      · obtain ⟨g, off, rfl⟩ := spot_none (hcell 0 (by omega))
        refine .inr ⟨g, off, cap, by simp, fun j hj => ?_⟩
        have hj' : j < len := by simpa using hj
        have hc := hcell j (by omega)
        rw [add_lit] at hc
        rw [hc]
        have := (hb j (by omega)).1
        simp only [List.getD_eq_getElem?_getD, List.getElem?_map, List.getElem?_range hj', Option.map_some, Option.getD_some] at this ⊢
        rw [Int.toNat_of_nonneg this]
    · intro y hy
      simp only [List.mem_map, List.mem_range] at hy
      obtain ⟨j, hj, rfl⟩ := hy
      have := hb j (by omega)
      omega

/-- The value v is a slice of the numbers zs. -/
def RdI (w : World) (v : Value) (zs : List Int) : Prop :=
  (zs = [] ∧ ∃ ao c, v = .slice ao 0 c) ∨ ∃ g off cap, v = .slice (some ⟨g, off, none⟩) zs.length cap ∧ ∀ j, j < zs.length → w.cell? ⟨g, off + j, none⟩ = some (.int .i64 (zs.getD j 0))

theorem RdI.kept {S : Nat → Prop} {w w' : World} {v : Value} {zs : List Int} (h : RdI w v zs) (hc : Chg S w w') (hS : ∀ k, v.ownBlock = some k → ¬ S k) : RdI w' v zs := by
  rcases h with h | ⟨g, off, cap, rfl, hcell⟩
  · exact .inl h
  · refine .inr ⟨g, off, cap, rfl, fun j hj => ?_⟩
    have := hcell j hj
    have hlt : g < w.heap.size := block_lt_of_cell this
    rw [World.cell?_of_block (w := w) (hc.block g hlt (hS g rfl))]; exact this

theorem cellsInt : Try.prog.cellsOf 3 = 1 := by kernel_rfl

end Go.Proofs.Ytllkfmnofklpmaa

/- Rows of numbers (int) in memory: read, or of one's own; what puncheonref01.Ints tells. -/
namespace Go.Proofs.Ytllkfmnofklpmaa
open Go.RowKit

/-- numbers as values -/
def iw (zs : List Int) : List Value := zs.map fun z => .int .i64 z
theorem iw_length (zs : List Int) : (iw zs).length = zs.length := by simp [iw]
theorem iw_set (zs : List Int) (i : Nat) (z : Int) : (iw zs).set i (.int .i64 z) = iw (zs.set i z) := by simp [iw, List.map_set]
theorem iw_snoc (zs : List Int) (z : Int) : iw zs ++ [.int .i64 z] = iw (zs ++ [z]) := by simp [iw]
theorem iw_get (zs : List Int) (i : Nat) (h : i < zs.length) : (iw zs)[i]? = some (.int .i64 (zs.getD i 0)) := by
  simp [iw, List.getElem?_eq_getElem h]

theorem RdI.form {w : World} {v : Value} {zs : List Int} (h : RdI w v zs) : ∃ ao cap, v = .slice ao zs.length cap := by
  rcases h with ⟨rfl, ao, c, rfl⟩ | ⟨g, off, cap, rfl, _⟩
  · exact ⟨ao, c, rfl⟩
  · exact ⟨_, cap, rfl⟩

theorem RdI.at {w : World} {ao : Option Addr} {n cap : Nat} {zs : List Int} (h : RdI w (.slice ao n cap) zs) (k : Nat) (hk : k < zs.length) : ∃ g off, ao = some ⟨g, off, none⟩ ∧ w.cell? ⟨g, off + k, none⟩ = some (.int .i64 (zs.getD k 0)) := by
  rcases h with ⟨h0, _⟩ | ⟨g, off, cap', he, hc⟩
  · rw [h0] at hk; simp at hk
  · simp only [Value.slice.injEq] at he
    exact ⟨g, off, he.1, hc _ hk⟩

theorem RdB.at {w : World} {ao : Option Addr} {n cap : Nat} {xs : List Nat} (h : RdB w (.slice ao n cap) xs) (k : Nat) (hk : k < xs.length) : ∃ g off, ao = some ⟨g, off, none⟩ ∧ w.cell? ⟨g, off + k, none⟩ = some (.int .u8 ((xs.getD k 0 : Nat) : Int)) := by
  rcases h with ⟨h0, _⟩ | ⟨g, off, cap', he, hc⟩
  · rw [h0] at hk; simp at hk
  · simp only [Value.slice.injEq] at he
    exact ⟨g, off, he.1, hc _ hk⟩

/-- A block that is a row of numbers, of any kind (a slice's, or an array's). -/
def RowI (w : World) (g : Nat) (t : TypeId) (zs : List Int) : Prop := w.heap[g]? = some (.cells (iw zs).toArray t (0, 0))

theorem RowI.cell {w : World} {g : Nat} {t : TypeId} {zs : List Int} (h : RowI w g t zs) (k : Nat) (hk : k < zs.length) : w.cell? ⟨g, k, none⟩ = some (.int .i64 (zs.getD k 0)) := by
  rw [cell_of_row w g k _ _ _ h, List.getElem?_toArray, iw_get zs k hk]
theorem RowI.free {w : World} {g : Nat} {t : TypeId} {zs : List Int} (h : RowI w g t zs) (k : Nat) : w.frozen? ⟨g, k, none⟩ = false := frozen_of_row w g k _ _ h
theorem RowI.kept {S : Nat → Prop} {w w' : World} {g : Nat} {t : TypeId} {zs : List Int} (h : RowI w g t zs) (hc : Chg S w w') (hS : ¬ S g) : RowI w' g t zs := (hc.block g (lt_of_block h) hS).trans h
theorem RowI.lt {w : World} {g : Nat} {t : TypeId} {zs : List Int} (h : RowI w g t zs) : g < w.heap.size := lt_of_block h
theorem RowI.set {w : World} {g : Nat} {t : TypeId} {zs : List Int} (h : RowI w g t zs) (i : Nat) (z : Int) : RowI (w.setCell ⟨g, i, none⟩ (.int .i64 z)) g t (zs.set i z) := by
  have := heap_setCell_same w g i _ _ (.int .i64 z) h
  unfold RowI
  rw [this, List.setIfInBounds_toArray, iw_set]
theorem RowI.rd {w : World} {g : Nat} {t : TypeId} {zs : List Int} (h : RowI w g t zs) (cap : Nat) : RdI w (.slice (some ⟨g, 0, none⟩) zs.length cap) zs :=
  .inr ⟨g, 0, cap, rfl, fun j hj => by rw [Nat.zero_add]; exact h.cell j hj⟩

/-- The value v is a slice of the numbers zs, in memory from block base on, that may be written. -/
def OwnI (w : World) (base : Nat) (v : Value) (zs : List Int) : Prop :=
  ∃ g off cap, v = .slice (some ⟨g, off, none⟩) zs.length cap ∧ base ≤ g ∧ g < w.heap.size ∧ (∀ j, j < zs.length → w.cell? ⟨g, off + j, none⟩ = some (.int .i64 (zs.getD j 0))) ∧ ∀ j, w.frozen? ⟨g, off + j, none⟩ = false

theorem OwnI.rd {w : World} {base : Nat} {v : Value} {zs : List Int} (h : OwnI w base v zs) : RdI w v zs := by
  obtain ⟨g, off, cap, rfl, _, _, hc, _⟩ := h
  exact .inr ⟨g, off, cap, rfl, hc⟩
theorem OwnI.kept {S : Nat → Prop} {w w' : World} {base : Nat} {v : Value} {zs : List Int} (h : OwnI w base v zs) (hc : Chg S w w') (hS : ∀ k, v.ownBlock = some k → ¬ S k) : OwnI w' base v zs := by
  obtain ⟨g, off, cap, rfl, hb, hl, hcell, hf⟩ := h
  have hblk := hc.block g hl (hS g rfl)
  refine ⟨g, off, cap, rfl, hb, Nat.lt_of_lt_of_le hl hc.size, fun j hj => ?_, fun j => ?_⟩
  · rw [World.cell?_of_block (w := w) hblk]; exact hcell j hj
  · have := hf j
    unfold World.frozen? at this ⊢
    simp only [hblk]; exact this
theorem OwnI.mono {w : World} {base base' : Nat} {v : Value} {zs : List Int} (h : OwnI w base v zs) (hb : base' ≤ base) : OwnI w base' v zs := by
  obtain ⟨g, off, cap, rfl, h1, h2, h3⟩ := h
  exact ⟨g, off, cap, rfl, Nat.le_trans hb h1, h2, h3⟩
theorem OwnI.drew {w : World} {base : Nat} {v : Value} {zs : List Int} (h : OwnI w base v zs) : OwnI w.drew base v zs := h.kept ((Chg.refl (fun _ => False) w).drew) (by simp)
theorem RowI.own {w : World} {g : Nat} {t : TypeId} {zs : List Int} (h : RowI w g t zs) (cap base : Nat) (hb : base ≤ g) : OwnI w base (.slice (some ⟨g, 0, none⟩) zs.length cap) zs :=
  ⟨g, 0, cap, rfl, hb, h.lt, fun j hj => by rw [Nat.zero_add]; exact h.cell j hj, fun j => h.free _⟩

theorem OwnI.store {w : World} {base g off n cap : Nat} {zs : List Int} (h : OwnI w base (.slice (some ⟨g, off, none⟩) n cap) zs) (i : Nat) (hi : i < zs.length) (z : Int) :
    OwnI (w.setCell ⟨g, off + i, none⟩ (.int .i64 z)) base (.slice (some ⟨g, off, none⟩) n cap) (zs.set i z) := by
  obtain ⟨g', off', cap', he, hb, hl, hcell, hf⟩ := h
  simp only [Value.slice.injEq, Option.some.injEq, Addr.mk.injEq] at he
  obtain ⟨⟨rfl, rfl, -⟩, rfl, rfl⟩ := he
  refine ⟨g, off, cap, by simp, hb, by simpa [World.setCell] using hl, fun j hj => ?_, fun j => ?_⟩
  · rw [List.length_set] at hj
    by_cases hij : i = j
    · subst hij
      rw [World.cell?_setCell_same _ _ _ (hcell i hi), List.getD_eq_getElem?_getD, List.getElem?_set_self hi]; rfl
    · rw [World.cell?_setCell_other _ _ _ _ (by simp), hcell j hj, List.getD_eq_getElem?_getD, List.getD_eq_getElem?_getD, List.getElem?_set_ne hij]
  · rw [World.frozen?_setCell]; exact hf j

theorem drewN2 (w : World) (m n : Nat) : (w.drewN m).drewN n = w.drewN (m + n) := by
  simp [World.drewN, Nat.add_assoc]

theorem iw_zeros (n : Nat) : iw (List.replicate n 0) = List.replicate n (.int .i64 0) := by simp [iw]

theorem Try.infoInt : (Try.prog.info? 3).map (fun i => (i.zero, i.size, i.bytes)) = some (some (.int .i64 0), 1, 8) := by kernel_rfl

theorem zeros_iw (n : Nat) : (madeCells (Value.int .i64 0).cells (n * 1)).toList = iw (List.replicate n 0) := by
  rw [iw_zeros, Nat.mul_one]
  apply List.ext_getElem (by simp [madeCells])
  intro i h1 h2
  simp [madeCells, Value.cells, Nat.mod_one]

theorem RowI.of_own {w : World} {base g n : Nat} {zs : List Int} (h : w.ownsRow base 3 1 (.slice (some ⟨g, 0, none⟩) n n) n (iw zs)) : RowI w g 3 zs := by
  rcases h.2 with ⟨h0, _⟩ | ⟨g', cap, cur, he, _, hg, _, _, hs, ht⟩
  · simp at h0
  · simp only [Value.slice.injEq, Option.some.injEq, Addr.mk.injEq, and_true, true_and] at he
    obtain ⟨rfl, rfl⟩ := he
    have : cur = (iw zs).toArray := by
      apply Array.ext'
      rw [← ht, List.take_of_length_le (by rw [Array.length_toList, hs]; exact Nat.le_refl _)]
    rw [this] at hg
    exact hg

theorem wpList_make_ints {ops : Array Oper} {rest : List Oper} {o : Oper} {a : Act} {w : World} {Q : Exit → Act → World → Prop} (hg : o.guard = none) (l c : Operand) (hop : o.op = Op.makeSlice 22 l c)
    (L C : Int) (n : Nat) (hl : a.eval l = .int .i64 L) (hc : a.eval c = .int .i64 C) (hL : L = (n : Int)) (hC : C = (n : Int)) (hn : n < 100000000000) (Z : List Int) (hZ : Z = List.replicate n 0)
    (hK : ∀ w', RowI w' w.heap.size 3 Z → Chg (fun _ => False) w w' → wpList Try.prog ops Q rest (a.put o.dst (.slice (some ⟨w.heap.size, 0, none⟩) n n)) w') : wpList Try.prog ops Q (o :: rest) a w := by
  obtain ⟨i, hi, hz0, hz1, hz2⟩ := info_parts Try.infoInt
  refine wpList_make_full w hg l c 22 hop w.heap.size 3 i (.int .i64 0) 1 Try.underlying22 hi hz0 hz1 .i64 .i64 L C n hl hc hL hC (by rw [hz2]; omega) (by unfold maxLen; omega) (Nat.le_refl _) ?_
  intro w1 h1 h2
  rw [zeros_iw, ← hZ] at h1
  exact hK w1 (RowI.of_own h1) ((Chg.of_grown h2).mono fun k _ hk => by simp at hk)

/-- bytes that the call has laid -/
theorem rdb_new (w : World) (xs : List Nat) (cs : Array Value) (n : Nat) (fr : Nat × Nat) (h : cs.toList = bv xs) (hn : n = xs.length) : RdB (w.alloc (.cells cs 5 fr)) (.slice (some ⟨w.heap.size, 0, none⟩) n n) xs := by
  subst hn
  refine .inr ⟨w.heap.size, 0, xs.length, rfl, fun j hj => ?_⟩
  rw [cell_of_row _ _ _ _ _ _ (heap_alloc_new w _), Nat.zero_add, ← Array.getElem?_toList, h, bv_get xs j hj]

theorem eq_upTo {a b : List Int} (hl : a.length = b.length) (h : ∀ j, j < a.length → a.getD j 0 = b.getD j 0) : a = b := ext_getD hl h

set_option maxHeartbeats 1000000 in
theorem ints_any (v u : Value) (ps bs : List Int) (w : World) (h : RdI w v ps) (h2 : RdI w u bs) (hl : ps.length < 100000000000) (_hl2 : bs.length < 100000000000) :
    Calls Try.prog 21 #[v, u] w fun e w' => e = .returned (.bool (decide (ps = bs))) ∧ ∃ m, w' = w.drewN m := by
  obtain ⟨ao, cap, rfl⟩ := h.form
  obtain ⟨au, capu, rfl⟩ := h2.form
  have H := Lib.hid h; have H2 := Lib.hid h2
  clear h h2
  by_cases hlen : ps.length = bs.length
  · have hq : ((ps.length : Int) != (bs.length : Int)) = false := by rw [hlen]; simp
    go_enter Try.func21, Try.ntmps21
    go_wp2
    go_loopw [5] (fun o5 wr => ∃ k : Nat, k ≤ ps.length ∧ o5 = .int .i64 (k : Int) ∧ (∀ j, j < k → ps.getD j 0 = bs.getD j 0) ∧ ∃ m, wr = w.drewN m) (fun o5 _ => ps.length - (intOf o5).toNat)
    case atStart => exact ⟨0, Nat.zero_le _, rfl, fun j hj => by omega, 0, rfl⟩
    case round =>
      obtain ⟨k, hk, rfl, heq, m, rfl⟩ := hrel
      have HEQ := Lib.hid heq
      clear heq
      by_cases hlt : k < ps.length
      · obtain ⟨g, off, rfl, c1⟩ := H.out.at k hlt
        obtain ⟨g2, off2, rfl, c2⟩ := H2.out.at k (by omega)
        have hlt2 : k < bs.length := by omega
        obtain ⟨x, hx⟩ : ∃ x, ps.getD k 0 = x := ⟨_, rfl⟩
        obtain ⟨y, hy⟩ : ∃ y, bs.getD k 0 = y := ⟨_, rfl⟩
        rw [hx] at c1
        rw [hy] at c2
        have HXX := Lib.hid hx; have HYY := Lib.hid hy
        clear hx hy
        by_cases hxy : x = y
        · subst hxy
          go_wp2
          go_quiet (fail)
          go_wp2
          go_roundw
          case rel =>
            refine ⟨k + 1, by omega, by go_num, fun j hj => ?_, m + nq, rfl⟩
            by_cases hjk : j = k
            · rw [hjk, HXX.out, HYY.out]
            · exact HEQ.out j (by omega)
          case measure => simp [intOf]; omega
        · have hne : (x != y) = true := by simp [hxy]
          go_wp2
          go_quiet (fail)
          go_wp2
          go_ret
          have hd : decide (ps = bs) = false := decide_eq_false fun he => hxy (by rw [← HXX.out, ← HYY.out, he])
          rw [hd]
          exact ⟨rfl, m + nq, drewN2 w m nq⟩
      · obtain rfl : k = ps.length := by omega
        go_wp2
        go_ret
        rw [decide_eq_true (eq_upTo hlen HEQ.out)]
        exact ⟨rfl, m, rfl⟩
  · have hq : ((ps.length : Int) != (bs.length : Int)) = true := by simp; omega
    go_enter Try.func21, Try.ntmps21
    go_wp2
    go_ret
    have hd : decide (ps = bs) = false := decide_eq_false fun he => hlen (by rw [he])
    rw [hd]
    exact ⟨rfl, 0, rfl⟩

theorem ints_c (v u : Value) (ps bs : List Int) (w : World) (h : RdI w v ps) (h2 : RdI w u bs) (hl : ps.length < 100000000000) (hl2 : bs.length < 100000000000) :
    Calls Try.prog 21 #[v, u] w fun e w' => e = .returned (.bool (decide (ps = bs))) ∧ Chg (fun _ => False) w w' :=
  (ints_any v u ps bs w h h2 hl hl2).mono fun e w' ⟨h1, m, h2⟩ => ⟨h1, by rw [h2]; exact (Chg.refl _ _).drewN m⟩

/-- no more than there is room for -/
def RoomOk (v : Value) : Prop := ∀ ao len cap, v = .slice ao len cap → len ≤ cap

theorem RoomOk.of {ao : Option Addr} {len cap : Nat} (h : len ≤ cap) : RoomOk (.slice ao len cap) := fun _ _ _ e => by cases e; exact h

end Go.Proofs.Ytllkfmnofklpmaa

/- What the document's own header (puncheonref15) tells: Take. -/
namespace Go.Proofs.Ytllkfmnofklpmaa
open Go.RowKit

/-- what Take tells -/
def hdRes (xs : List Nat) (p : Nat) (l : Int) : List Int × Int × Nat := if 1 ≤ l ∧ l ≤ 12 then hdTk xs 257 p (2 ^ l.toNat) 0 false (List.replicate 256 0) else ([], 1, p)

set_option maxRecDepth 20000 in
set_option maxHeartbeats 4000000 in
theorem r15take_any (b : Nat) (o : Option Nat) (xs : List Nat) (p : Nat) (l : Int) (w : World) (h : Xr w b o (bitsB xs) p) :
    Calls Try.prog 20 #[.pointer (some ⟨b, 0, none⟩), .int .i64 l] w fun e w' => ∃ v', e = .returned (.tuple #[v', .int .i64 (hdRes xs p l).2.1]) ∧ RdI w' v' (hdRes xs p l).1 ∧ Xr w' b o (bitsB xs) (hdRes xs p l).2.2 ∧ Chg (fun k => k = b) w w' := by
  have H := Lib.hid h
  have hlt := h.lt
  by_cases h1 : l < 1
  · have d1 : decide (l < 1) = true := decide_eq_true h1
    have hb : hdRes xs p l = ([], 1, p) := by unfold hdRes; rw [if_neg (by omega)]
    rw [hb]
    clear hb h
    go_enter Try.func20, Try.ntmps20
    go_wp2
    go_ret2
    exact ⟨_, rfl, .inl ⟨rfl, none, 0, rfl⟩, H.out, Chg.refl _ _⟩
  · have d1 : decide (l < 1) = false := decide_eq_false h1
    by_cases h2 : 12 < l
    · have d2 : decide (12 < l) = true := decide_eq_true h2
      have hb : hdRes xs p l = ([], 1, p) := by unfold hdRes; rw [if_neg (by omega)]
      rw [hb]
      clear hb h
      go_enter Try.func20, Try.ntmps20
      go_wp2
      go_ret2
      exact ⟨_, rfl, .inl ⟨rfl, none, 0, rfl⟩, H.out, Chg.refl _ _⟩
    · have d2 : decide (12 < l) = false := decide_eq_false h2
      obtain ⟨k, rfl⟩ := Int.eq_ofNat_of_zero_le (show 0 ≤ l by omega)
      have hb : hdRes xs p (k : Int) = hdTk xs 257 p (2 ^ k) 0 false (List.replicate 256 0) := by unfold hdRes; rw [if_pos (by omega), Int.toNat_natCast]
      rw [hb]
      obtain ⟨Z, hZ⟩ : ∃ Z : List Int, Z = List.replicate 256 0 := ⟨_, rfl⟩
      have hZl : Z.length = 256 := by rw [hZ]; exact List.length_replicate
      rw [← hZ]
      obtain ⟨P, hP⟩ : ∃ P, 2 ^ k = P := ⟨_, rfl⟩
      have hPI : (2 : Int) ^ k = (P : Int) := by rw [← hP]; simp
      have hP4 : P ≤ 4096 := by rw [← hP]; exact pow_le (show k ≤ 12 by omega)
      rw [hP]
      obtain ⟨R, hR⟩ : ∃ R, hdTk xs 257 p P 0 false Z = R := ⟨_, rfl⟩
      rw [hR]
      have HR := Lib.hid hR; have HZ := Lib.hid hZ; have HZL := Lib.hid hZl; have HP4 := Lib.hid hP4; have HLT := Lib.hid hlt
      have hk64 : (k : Int) < 64 := by omega
      have hP4I : (P : Int) ≤ 4096 := by omega
      clear hb h hR hZ hZl hP hP4 hlt
      go_enter Try.func20, Try.ntmps20
      go_wp2_with (at_make; refine wpList_make_ints rfl _ _ rfl 256 256 256 rfl rfl rfl rfl (by omega) Z HZ.out ?_)
      intro w1 r1 c1
      obtain ⟨g, hg⟩ : ∃ g, w.heap.size = g := ⟨_, rfl⟩
      rw [hg] at r1 ⊢
      have HG := Lib.hid (show b < g ∧ (∀ q, o = some q → q < g) from ⟨by have := HLT.out.1; omega, fun q hq => by have := (HLT.out.2 q hq).1; omega⟩)
      have HGW := Lib.hid hg
      have R1 := Lib.hid r1; have C1 := Lib.hid (show Chg (fun k => k = b) w w1 from c1.mono fun _ _ h => h.elim); have X1 := Lib.hid (H.out.kept c1 (by simp) (by simp))
      clear r1 c1 hg
      go_wp2
      go_loopw [7, 8, 9, 10, 11, 12, 13] (fun o7 o8 o9 _ _ _ _ wr => ∃ (fu q left s : Nat) (z : Bool) (cs : List Int), o7 = .int .i64 (left : Int) ∧ o8 = .int .i64 (s : Int) ∧ o9 = .bool z ∧ hdTk xs fu q left s z cs = R ∧ 256 < s + fu ∧ s ≤ 256 ∧ left ≤ 4096 ∧ cs.length = 256 ∧ RowI wr g 3 cs ∧ Xr wr b o (bitsB xs) q ∧ Chg (fun k => k = b) w wr) (fun _ o8 _ _ _ _ _ _ => 256 - (intOf o8).toNat)
      case atStart => exact ⟨257, p, P, 0, false, Z, rfl, rfl, rfl, HR.out, by omega, by omega, HP4.out, HZL.out, R1.out, X1.out, C1.out⟩
      case round =>
        obtain ⟨fu, q, left, s, z, cs, rfl, rfl, rfl, hg, hfu, hs, hl, hcs, hrow, hx, hc⟩ := hrel
        clear R1 C1 X1 HR
        obtain ⟨fu, rfl⟩ : ∃ f', fu = f' + 1 := ⟨fu - 1, by omega⟩
        simp only [hdTk] at hg
        have hsI : (s : Int) ≤ 256 := by omega
        have hlI : (left : Int) ≤ 4096 := by omega
        have ROW := Lib.hid hrow; have C := Lib.hid hc; have HCS := Lib.hid hcs; have HFU := Lib.hid hfu
        by_cases h0 : left = 0
        · subst h0
          rw [if_pos rfl] at hg
          have HGG := Lib.hid hg; have X := Lib.hid hx
          clear hg hx hrow hc hcs hfu
          go_wp2
          go_ret2
          rw [← HGG.out]
          exact ⟨_, rfl, by have := ROW.out.rd 256; rw [HCS.out] at this; exact this, X.out, C.out⟩
        · rw [if_neg h0] at hg
          have e0 : decide (0 < (left : Int)) = true := decide_eq_true (by omega)
          by_cases h5 : 255 < s
          · rw [if_pos h5] at hg
            have e5 : decide (255 < (s : Int)) = true := decide_eq_true (by omega)
            have HGG := Lib.hid hg; have X := Lib.hid hx
            clear hg hx hrow hc hcs hfu
            go_wp2
            go_ret2
            rw [← HGG.out]
            exact ⟨_, rfl, .inl ⟨rfl, none, 0, rfl⟩, X.out, C.out⟩
          · rw [if_neg h5] at hg
            have e5 : decide (255 < (s : Int)) = false := decide_eq_false (by omega)
            have T1 := Lib.hid (r13take_any b o xs q (left : Int) wr hx (by omega))
            have hnum := bgTk_num xs q (left : Int)
            have hvl : (bgTk xs q (left : Int)).2.1 = 0 → (bgTk xs q (left : Int)).1 ≤ (left : Int) := fun hh => by
              obtain ⟨-, b2, b3⟩ := bgTk_ok (by omega) hl hh
              rw [b3]; simp only []; omega
            obtain ⟨B, hB⟩ : ∃ B, bgTk xs q (left : Int) = B := ⟨_, rfl⟩
            rw [hB] at hg T1 hnum hvl
            obtain ⟨v, er, p1⟩ := B
            simp only [] at hg T1 hnum hvl
            clear hB hx hrow hc hcs hfu
            have KEEP := Lib.hid fun w3 (hc3 : Chg (fun k => k = b) wr w3) => (show RowI w3 g 3 cs ∧ Chg (fun k => k = b) w w3 from ⟨ROW.out.kept hc3 (fun (hh : g = b) => by have := HG.out.1; omega), C.out.trans hc3 fun _ _ h => h⟩)
            by_cases he : er ≠ 0
            · rw [if_pos he] at hg
              have he' : (er != 0) = true := by simpa using he
              have HGG := Lib.hid hg
              clear hg
              go_wp2_with fail
              refine (T1.out).mono ?_
              rintro e w3 ⟨rfl, hx3, hc3⟩
              have X3 := Lib.hid hx3; have C3 := Lib.hid (KEEP.out w3 hc3).2
              clear hx3 hc3
              go_wp2
              go_ret2
              rw [← HGG.out]
              exact ⟨_, rfl, .inl ⟨rfl, none, 0, rfl⟩, X3.out, C3.out⟩
            · rw [if_neg he] at hg
              obtain rfl : er = 0 := by omega
              have hv := hvl rfl
              obtain ⟨v, rfl⟩ := Int.eq_ofNat_of_zero_le hnum.1
              have hvI : (v : Int) ≤ 4096 := hnum.2.1
              clear he hvl hnum
              by_cases hv0 : v = 0
              · subst hv0
                rw [if_pos (show ((0 : Nat) : Int) = 0 from rfl)] at hg
                by_cases hz : z = true
                · rw [if_pos hz] at hg
                  subst hz
                  have HGG := Lib.hid hg
                  clear hg
                  go_wp2_with fail
                  refine (T1.out).mono ?_
                  rintro e w3 ⟨rfl, hx3, hc3⟩
                  have X3 := Lib.hid hx3; have C3 := Lib.hid (KEEP.out w3 hc3).2
                  clear hx3 hc3
                  go_wp2
                  go_ret2
                  rw [← HGG.out]
                  exact ⟨_, rfl, .inl ⟨rfl, none, 0, rfl⟩, X3.out, C3.out⟩
                · rw [if_neg hz] at hg
                  obtain rfl : z = false := by simpa using hz
                  obtain ⟨s1, hs1⟩ : ∃ s1, s + 1 = s1 := ⟨_, rfl⟩
                  have hs1I : (s : Int) + 1 = (s1 : Int) := by omega
                  rw [hs1] at hg
                  have HS1 := Lib.hid hs1
                  have hsc : s < cs.length := by rw [HCS.out]; omega
                  have HSC := Lib.hid hsc
                  have hs256 : (s : Int) < 256 := by omega
                  have STO := Lib.hid fun w3 (hc3 : Chg (fun k => k = b) wr w3) (hx3 : Xr w3 b o (bitsB xs) p1) => (show w3.cell? ⟨g, s, none⟩ = some (.int .i64 (cs.getD s 0)) ∧ w3.frozen? ⟨g, s, none⟩ = false ∧ RowI (w3.setCell ⟨g, s, none⟩ (.int .i64 0)) g 3 (cs.set s 0) ∧ Xr (w3.setCell ⟨g, s, none⟩ (.int .i64 0)) b o (bitsB xs) p1 ∧ Chg (fun k => k = b) w (w3.setCell ⟨g, s, none⟩ (.int .i64 0)) by
                    obtain ⟨k1, k2⟩ := KEEP.out w3 hc3
                    have sc := Chg.setCell w3 ⟨g, s, none⟩ (.int .i64 0)
                    exact ⟨k1.cell s HSC.out, k1.free s, k1.set s 0, hx3.kept sc (fun (hh : b = g) => by have := HG.out.1; omega) (fun q hq (hh : q = g) => by have := HG.out.2 q hq; omega), k2.trans sc (fun q hq (hh : q = g) => by have := HGW.out; omega)⟩)
                  clear hs1 hsc hz
                  by_cases h51 : 255 < s1
                  · rw [if_pos h51] at hg
                    have e51 : decide (255 < (s1 : Int)) = true := decide_eq_true (by omega)
                    have HGG := Lib.hid hg
                    clear hg
                    go_wp2_with fail
                    refine (T1.out).mono ?_
                    rintro e w3 ⟨rfl, hx3, hc3⟩
                    obtain ⟨k1, k2, k3, k4, k5⟩ := STO.out w3 hc3 hx3
                    have X3 := Lib.hid k4; have C3 := Lib.hid k5
                    clear hx3 hc3 k3 k4 k5
                    go_wp2
                    go_ret2
                    rw [← HGG.out]
                    exact ⟨_, rfl, .inl ⟨rfl, none, 0, rfl⟩, X3.out, C3.out⟩
                  · rw [if_neg h51] at hg
                    have e51 : decide (255 < (s1 : Int)) = false := decide_eq_false (by omega)
                    have T2 := Lib.hid fun W (hX : Xr W b o (bitsB xs) p1) => r14take_any b o xs p1 (255 - (s1 : Int)) W hX
                    have hrok := rnTk_ok (xs := xs) (p := p1) (most := 255 - (s1 : Int)) (by omega) (by omega)
                    obtain ⟨T, hT⟩ : ∃ T, rnTk xs p1 (255 - (s1 : Int)) = T := ⟨_, rfl⟩
                    rw [hT] at hg T2 hrok
                    obtain ⟨n, er2, p2⟩ := T
                    simp only [] at hg T2 hrok
                    clear hT
                    obtain ⟨y, hy⟩ : ∃ y : Int, 255 - (s1 : Int) = y := ⟨_, rfl⟩
                    rw [hy] at T2
                    have hyb : 0 ≤ y ∧ y ≤ 255 := by omega
                    by_cases he2 : er2 ≠ 0
                    · rw [if_pos he2] at hg
                      have he2' : (er2 != 0) = true := by simpa using he2
                      have HGG := Lib.hid hg
                      clear hg hrok
                      go_wp2_with fail
                      refine (T1.out).mono ?_
                      rintro e w3 ⟨rfl, hx3, hc3⟩
                      obtain ⟨k1, k2, k3, k4, k5⟩ := STO.out w3 hc3 hx3
                      have T3 := Lib.hid (T2.out _ k4); have C3 := Lib.hid k5
                      clear hx3 hc3 k3 k4 k5
                      go_wp2_with fail
                      refine (T3.out).mono ?_
                      rintro e w4 ⟨rfl, hx4, hc4⟩
                      have X4 := Lib.hid hx4; have C4 := Lib.hid (C3.out.trans hc4 fun _ _ h => h)
                      clear hx4 hc4
                      go_wp2
                      go_ret2
                      rw [← HGG.out]
                      exact ⟨_, rfl, .inl ⟨rfl, none, 0, rfl⟩, X4.out, C4.out⟩
                    · rw [if_neg he2] at hg
                      obtain rfl : er2 = 0 := by omega
                      obtain ⟨n', e1, e2, -, -⟩ := hrok rfl
                      subst e1
                      rw [Int.toNat_natCast] at hg
                      have HGG := Lib.hid hg; have HE2 := Lib.hid e2
                      have hn255 : (n' : Int) ≤ 255 := by omega
                      clear hg hrok e2 he2
                      go_wp2_with fail
                      refine (T1.out).mono ?_
                      rintro e w3 ⟨rfl, hx3, hc3⟩
                      obtain ⟨k1, k2, k3, k4, k5⟩ := STO.out w3 hc3 hx3
                      have T3 := Lib.hid (T2.out _ k4); have C3 := Lib.hid k5; have R3 := Lib.hid k3
                      clear hx3 hc3 k3 k4 k5
                      go_wp2_with fail
                      refine (T3.out).mono ?_
                      rintro e w4 ⟨rfl, hx4, hc4⟩
                      have X4 := Lib.hid hx4; have C4 := Lib.hid (C3.out.trans hc4 fun _ _ h => h); have R4 := Lib.hid (R3.out.kept hc4 (fun (hh : g = b) => by have := HG.out.1; omega))
                      clear hx4 hc4
                      go_wp2
                      go_roundw
                      case rel => exact ⟨fu, p2, left, s1 + n', true, cs.set s 0, by go_num, by go_num, rfl, HGG.out, by have := HFU.out; have := HS1.out; omega, by have := HE2.out; omega, hl, by rw [List.length_set]; exact HCS.out, R4.out, X4.out, C4.out⟩
                      case measure => simp [intOf]; have := HS1.out; omega
              · rw [if_neg (by omega)] at hg
                have hv0' : ((v : Int) == 0) = false := by simp; omega
                rw [Int.toNat_natCast] at hg
                obtain ⟨s1, hs1⟩ : ∃ s1, s + 1 = s1 := ⟨_, rfl⟩
                have hs1I : (s : Int) + 1 = (s1 : Int) := by omega
                obtain ⟨lf, hlf⟩ : ∃ lf, left - v = lf := ⟨_, rfl⟩
                have hlfI : (left : Int) - (v : Int) = (lf : Int) := by omega
                rw [hs1, hlf] at hg
                have HS1 := Lib.hid hs1; have HLF := Lib.hid hlf
                have hsc : s < cs.length := by rw [HCS.out]; omega
                have HSC := Lib.hid hsc
                have hs256 : (s : Int) < 256 := by omega
                have STO := Lib.hid fun w3 (hc3 : Chg (fun k => k = b) wr w3) (hx3 : Xr w3 b o (bitsB xs) p1) => (show w3.cell? ⟨g, s, none⟩ = some (.int .i64 (cs.getD s 0)) ∧ w3.frozen? ⟨g, s, none⟩ = false ∧ RowI (w3.setCell ⟨g, s, none⟩ (.int .i64 (v : Int))) g 3 (cs.set s (v : Int)) ∧ Xr (w3.setCell ⟨g, s, none⟩ (.int .i64 (v : Int))) b o (bitsB xs) p1 ∧ Chg (fun k => k = b) w (w3.setCell ⟨g, s, none⟩ (.int .i64 (v : Int))) by
                  obtain ⟨k1, k2⟩ := KEEP.out w3 hc3
                  have sc := Chg.setCell w3 ⟨g, s, none⟩ (.int .i64 (v : Int))
                  exact ⟨k1.cell s HSC.out, k1.free s, k1.set s _, hx3.kept sc (fun (hh : b = g) => by have := HG.out.1; omega) (fun q hq (hh : q = g) => by have := HG.out.2 q hq; omega), k2.trans sc (fun q hq (hh : q = g) => by have := HGW.out; omega)⟩)
                have HGG := Lib.hid hg
                clear hs1 hsc hlf hg
                go_wp2_with fail
                refine (T1.out).mono ?_
                rintro e w3 ⟨rfl, hx3, hc3⟩
                obtain ⟨k1, k2, k3, k4, k5⟩ := STO.out w3 hc3 hx3
                have X3 := Lib.hid k4; have C3 := Lib.hid k5; have R3 := Lib.hid k3
                clear hx3 hc3 k3 k4 k5
                go_wp2
                go_roundw
                case rel => exact ⟨fu, p1, lf, s1, false, cs.set s (v : Int), rfl, rfl, rfl, HGG.out, by have := HFU.out; have := HS1.out; omega, by have := HS1.out; omega, by have := HLF.out; omega, by rw [List.length_set]; exact HCS.out, R3.out, X3.out, C3.out⟩
                case measure => simp [intOf]; have := HS1.out; omega

end Go.Proofs.Ytllkfmnofklpmaa

/- What the document's own hist (puncheonref05) tells. -/
namespace Go.Proofs.Ytllkfmnofklpmaa
open Go.RowKit

set_option maxHeartbeats 1000000 in
set_option maxRecDepth 100000 in
theorem r5right_any (v : Value) (cs : List Int) (w : World) (h : RdI w v cs) (hb : ∀ z ∈ cs, -9223372036854775808 ≤ z ∧ z ≤ 9223372036854775807) (_hl : cs.length < 100000000000) :
    Calls Try.prog 67 #[v] w fun e w' => e = .returned (.bool (decide (isRight cs))) ∧ w' = w := by
  obtain ⟨ao, cap, rfl⟩ := h.form
  have H := Lib.hid h; have HB := Lib.hid hb
  clear h hb
  by_cases hlen : cs.length = 256
  · have hq : ((cs.length : Int) != 256) = false := by rw [hlen]; rfl
    have HLEN := Lib.hid hlen
    clear hlen
    go_enter Try.func67, Try.ntmps67
    go_wp2
    go_loopw [3, 4] (fun o3 o4 wr => ∃ k : Nat, k ≤ 256 ∧ o4 = .int .i64 (k : Int) ∧ o3 = .int .i64 (tot (cs.take k)) ∧ upTo cs k ∧ tot (cs.take k) ≤ 1073741824 * (k : Int) ∧ wr = w) (fun _ o4 _ => 256 - (intOf o4).toNat)
    case atStart => exact ⟨0, Nat.zero_le _, rfl, rfl, upTo_zero _, by simp [tot], rfl⟩
    case round =>
      obtain ⟨k, hk, rfl, rfl, hup, hle, rfl⟩ := hrel
      have h0 := upTo_take hup
      have HUP := Lib.hid hup
      clear hup
      by_cases hlt : k < 256
      · have hkl : k < cs.length := by rw [HLEN.out]; exact hlt
        obtain ⟨g, off, rfl, hc⟩ := H.out.at k hkl
        have hsu := tot_take_succ cs k hkl
        have hat : isRight cs → _ := fun h => h.one k hkl
        have hbk := HB.out _ (getD_mem hkl)
        obtain ⟨x, hx⟩ : ∃ x, cs.getD k 0 = x := ⟨_, rfl⟩
        obtain ⟨t, ht⟩ : ∃ t, tot (cs.take k) = t := ⟨_, rfl⟩
        rw [hx] at hc hsu hat hbk
        rw [ht] at hsu hle h0 ⊢
        have hle2 : t ≤ 274877906944 := by omega
        have HXX := Lib.hid hx; have HSU := Lib.hid hsu; have HAT := Lib.hid hat; have HLE := Lib.hid hle
        clear hx ht hsu hat hle
        by_cases hneg : x < 0
        · have d1 : decide (x < 0) = true := decide_eq_true hneg
          go_wp2
          go_ret
          have hd : decide (isRight cs) = false := decide_eq_false fun h => by have := HAT.out h; omega
          rw [hd]
          exact ⟨rfl, rfl⟩
        · have d1 : decide (x < 0) = false := decide_eq_false hneg
          by_cases hbig : 1073741824 < x
          · have d2 : decide (1073741824 < x) = true := decide_eq_true hbig
            go_wp2
            go_ret
            have hd : decide (isRight cs) = false := decide_eq_false fun h => by have := HAT.out h; omega
            rw [hd]
            exact ⟨rfl, rfl⟩
          · have d2 : decide (1073741824 < x) = false := decide_eq_false hbig
            go_wp2
            go_roundw
            case rel => exact ⟨k + 1, by omega, by go_num, by rw [HSU.out], upTo_succ HUP.out (by rw [HXX.out]; omega), by rw [HSU.out]; have := HLE.out; omega, trivial⟩
            case measure => simp [intOf]; omega
      · obtain rfl : k = 256 := by omega
        have hall : cs.take 256 = cs := by rw [← HLEN.out, List.take_length]
        rw [hall] at h0 hle ⊢
        have hd : decide (isRight cs) = decide (tot cs ≤ 1073741824) := by
          rw [Bool.eq_iff_iff, decide_eq_true_iff, decide_eq_true_iff]
          exact ⟨fun h => h.2.2, fun h => ⟨HLEN.out, upTo_all HLEN.out HUP.out, h⟩⟩
        have HD := Lib.hid hd
        clear hd hall
        go_wp2
        go_ret
        rw [HD.out]
        exact ⟨rfl, rfl⟩
  · have hq : ((cs.length : Int) != 256) = true := by simp; omega
    go_enter Try.func67, Try.ntmps67
    go_wp2
    go_ret
    have hd : decide (isRight cs) = false := decide_eq_false fun h => hlen h.1
    rw [hd]
    exact ⟨rfl, rfl⟩

set_option maxHeartbeats 1000000 in
theorem r5many_any (v : Value) (cs : List Int) (w : World) (h : RdI w v cs) (hb : ∀ z ∈ cs, -9223372036854775808 ≤ z ∧ z ≤ 9223372036854775807) (hl : cs.length < 100000000000) :
    Calls Try.prog 49 #[v] w fun e w' => e = .returned (.int .i64 ((manyI cs : Nat) : Int)) ∧ w' = w := by
  have HR := Lib.hid (r5right_any v cs w h hb hl)
  obtain ⟨ao, cap, rfl⟩ := h.form
  have H := Lib.hid h; have HB := Lib.hid hb
  clear h hb
  go_enter Try.func49, Try.ntmps49
  go_wp2_with fail
  refine HR.out.mono ?_
  rintro e w' ⟨rfl, rfl⟩
  clear HR
  by_cases hr : isRight cs
  · rw [decide_eq_true hr]
    have hlen : cs.length ≤ 256 := by rw [hr.1]; exact Nat.le_refl _
    have HRR := Lib.hid hr
    clear hr
    go_wp2
    go_loopw [3, 5] (fun o3 o5 wr => ∃ k : Nat, k ≤ cs.length ∧ o5 = .int .i64 (k : Int) ∧ o3 = .int .i64 ((pos (cs.take k) : Nat) : Int) ∧ wr = w') (fun _ o5 _ => cs.length - (intOf o5).toNat)
    case atStart => exact ⟨0, Nat.zero_le _, rfl, rfl, rfl⟩
    case round =>
      obtain ⟨k, hk, rfl, rfl, rfl⟩ := hrel
      have hp : pos (cs.take k) ≤ 256 := by have := pos_le (cs.take k); rw [List.length_take] at this; omega
      by_cases hlt : k < cs.length
      · obtain ⟨g, off, rfl, hc⟩ := H.out.at k hlt
        have hsu := pos_take_succ cs k hlt
        obtain ⟨x, hx⟩ : ∃ x, cs.getD k 0 = x := ⟨_, rfl⟩
        obtain ⟨t, ht⟩ : ∃ t, pos (cs.take k) = t := ⟨_, rfl⟩
        rw [hx] at hc hsu
        rw [ht] at hsu hp ⊢
        clear hx ht
        by_cases hx0 : 0 < x
        · have d1 : decide (0 < x) = true := decide_eq_true hx0
          rw [if_pos hx0] at hsu
          have HSU := Lib.hid hsu
          clear hsu
          go_wp2
          go_roundw
          case rel => exact ⟨k + 1, by omega, by go_num, by rw [HSU.out]; go_num, trivial⟩
          case measure => simp [intOf]; omega
        · have d1 : decide (0 < x) = false := decide_eq_false hx0
          rw [if_neg hx0] at hsu
          have HSU := Lib.hid hsu
          clear hsu
          go_wp2
          go_roundw
          case rel => exact ⟨k + 1, by omega, by go_num, by rw [HSU.out]; go_num, trivial⟩
          case measure => simp [intOf]; omega
      · obtain rfl : k = cs.length := by omega
        rw [List.take_length] at hp ⊢
        have hm : manyI cs = pos cs := by unfold manyI; rw [if_pos HRR.out]
        have HM := Lib.hid hm
        clear hm
        go_wp2
        go_ret
        rw [HM.out]
        exact ⟨rfl, rfl⟩
  · rw [decide_eq_false hr]
    have hm : manyI cs = 0 := by unfold manyI; rw [if_neg hr]
    have HM := Lib.hid hm
    clear hm hr
    go_wp2
    go_loopw [3, 5] (fun o3 o5 wr => o5 = .int .i64 0 ∧ o3 = .int .i64 0 ∧ wr = w') (fun _ _ _ => 0)
    case atStart => exact ⟨rfl, rfl, rfl⟩
    case round =>
      obtain ⟨rfl, rfl, rfl⟩ := hrel
      by_cases hlt : 0 < cs.length
      · go_wp2
        go_ret
        rw [HM.out]
        exact ⟨rfl, rfl⟩
      · have h0 : cs.length = 0 := by omega
        rw [h0]
        go_wp2
        go_ret
        rw [HM.out]
        exact ⟨rfl, rfl⟩

set_option maxHeartbeats 1000000 in
theorem r5total_any (v : Value) (cs : List Int) (w : World) (h : RdI w v cs) (hb : ∀ z ∈ cs, -9223372036854775808 ≤ z ∧ z ≤ 9223372036854775807) (hl : cs.length < 100000000000) :
    Calls Try.prog 47 #[v] w fun e w' => e = .returned (.int .i64 (totalI cs)) ∧ w' = w := by
  have HR := Lib.hid (r5right_any v cs w h hb hl)
  obtain ⟨ao, cap, rfl⟩ := h.form
  have H := Lib.hid h; have HB := Lib.hid hb
  clear h hb
  go_enter Try.func47, Try.ntmps47
  go_wp2_with fail
  refine HR.out.mono ?_
  rintro e w' ⟨rfl, rfl⟩
  clear HR
  by_cases hr : isRight cs
  · rw [decide_eq_true hr]
    have hlen : cs.length ≤ 256 := by rw [hr.1]; exact Nat.le_refl _
    have HRR := Lib.hid hr
    clear hr
    go_wp2
    go_loopw [3, 5] (fun o3 o5 wr => ∃ k : Nat, k ≤ cs.length ∧ o5 = .int .i64 (k : Int) ∧ o3 = .int .i64 (tot (cs.take k)) ∧ wr = w') (fun _ o5 _ => cs.length - (intOf o5).toNat)
    case atStart => exact ⟨0, Nat.zero_le _, rfl, rfl, rfl⟩
    case round =>
      obtain ⟨k, hk, rfl, rfl, rfl⟩ := hrel
      by_cases hlt : k < cs.length
      · obtain ⟨g, off, rfl, hc⟩ := H.out.at k hlt
        have hsu := tot_take_succ cs k hlt
        have hat := HRR.out.at k hlt
        have h0 : 0 ≤ tot (cs.take k) := tot_nonneg _ fun c hc => HRR.out.2.1 c (List.mem_of_mem_take hc)
        obtain ⟨x, hx⟩ : ∃ x, cs.getD k 0 = x := ⟨_, rfl⟩
        obtain ⟨t, ht⟩ : ∃ t, tot (cs.take k) = t := ⟨_, rfl⟩
        rw [hx] at hc hsu hat
        rw [ht] at hsu hat h0 ⊢
        have HSU := Lib.hid hsu
        clear hx ht hsu
        go_wp2
        go_roundw
        case rel => exact ⟨k + 1, by omega, by go_num, by rw [HSU.out], trivial⟩
        case measure => simp [intOf]; omega
      · obtain rfl : k = cs.length := by omega
        rw [List.take_length]
        have hm : totalI cs = tot cs := by unfold totalI; rw [if_pos HRR.out]
        have HM := Lib.hid hm
        clear hm
        go_wp2
        go_ret
        rw [HM.out]
        exact ⟨rfl, rfl⟩
  · rw [decide_eq_false hr]
    have hm : totalI cs = 0 := by unfold totalI; rw [if_neg hr]
    have HM := Lib.hid hm
    clear hm hr
    go_wp2
    go_loopw [3, 5] (fun o3 o5 wr => o5 = .int .i64 0 ∧ o3 = .int .i64 0 ∧ wr = w') (fun _ _ _ => 0)
    case atStart => exact ⟨rfl, rfl, rfl⟩
    case round =>
      obtain ⟨rfl, rfl, rfl⟩ := hrel
      by_cases hlt : 0 < cs.length
      · go_wp2
        go_ret
        rw [HM.out]
        exact ⟨rfl, rfl⟩
      · have h0 : cs.length = 0 := by omega
        rw [h0]
        go_wp2
        go_ret
        rw [HM.out]
        exact ⟨rfl, rfl⟩

/-- counts of values below v whole, of v itself by the first k bytes -/
def cntTo (xs : List Nat) (v k : Nat) : List Int := (List.range 256).map fun u => if u < v then ((xs.count u : Nat) : Int) else if u = v then (((xs.take k).count u : Nat) : Int) else 0
theorem cntTo_length (xs : List Nat) (v k : Nat) : (cntTo xs v k).length = 256 := by simp [cntTo]
theorem cntTo_getD (xs : List Nat) (v k u : Nat) (h : u < 256) : (cntTo xs v k).getD u 0 = if u < v then ((xs.count u : Nat) : Int) else if u = v then (((xs.take k).count u : Nat) : Int) else 0 := by
  simp [cntTo, List.getD_eq_getElem?_getD, h]
theorem cntTo_zero (xs : List Nat) : cntTo xs 0 0 = List.replicate 256 0 := by
  apply ext_getD (by rw [cntTo_length, List.length_replicate])
  intro k hk
  rw [cntTo_length] at hk
  rw [cntTo_getD _ _ _ _ hk, List.getD_eq_getElem?_getD, List.getElem?_replicate, if_pos hk]
  simp
theorem cntTo_eq (xs : List Nat) (v k : Nat) (hv : v < 256) (hk : k < xs.length) (h : xs.getD k 0 = v) : (cntTo xs v k).set v ((cntTo xs v k).getD v 0 + 1) = cntTo xs v (k + 1) := by
  apply ext_getD (by rw [List.length_set, cntTo_length, cntTo_length])
  intro u hu
  rw [List.length_set, cntTo_length] at hu
  rw [cntTo_getD _ _ _ _ hu]
  have ht : xs.take (k + 1) = xs.take k ++ [v] := by
    rw [List.take_succ_eq_append_getElem hk, ← h, List.getD_eq_getElem?_getD, List.getElem?_eq_getElem hk]; rfl
  by_cases huv : v = u
  · subst huv
    rw [List.getD_eq_getElem?_getD, List.getElem?_set_self (by rw [cntTo_length]; exact hv), cntTo_getD _ _ _ _ hv, ht, List.count_append]
    simp
  · rw [List.getD_eq_getElem?_getD, List.getElem?_set_ne huv, ← List.getD_eq_getElem?_getD, cntTo_getD _ _ _ _ hu]
    rw [if_neg (show ¬ u = v by omega), if_neg (show ¬ u = v by omega)]
theorem cntTo_ne (xs : List Nat) (v k : Nat) (hk : k < xs.length) (h : ¬ xs.getD k 0 = v) : cntTo xs v (k + 1) = cntTo xs v k := by
  apply ext_getD (by rw [cntTo_length, cntTo_length])
  intro u hu
  rw [cntTo_length] at hu
  rw [cntTo_getD _ _ _ _ hu, cntTo_getD _ _ _ _ hu]
  by_cases huv : u = v
  · subst huv
    rw [List.take_succ_eq_append_getElem hk, List.count_append]
    rw [List.getD_eq_getElem?_getD, List.getElem?_eq_getElem hk] at h
    have : List.count u [xs[k]] = 0 := by rw [List.count_eq_zero]; simp; exact fun he => h he.symm
    rw [this]; rfl
  · rw [if_neg huv, if_neg huv]
theorem cntTo_next (xs : List Nat) (v : Nat) : cntTo xs v xs.length = cntTo xs (v + 1) 0 := by
  apply ext_getD (by rw [cntTo_length, cntTo_length])
  intro u hu
  rw [cntTo_length] at hu
  rw [cntTo_getD _ _ _ _ hu, cntTo_getD _ _ _ _ hu, List.take_length]
  by_cases h1 : u < v
  · rw [if_pos h1, if_pos (by omega)]
  · rw [if_neg h1]
    by_cases h2 : u = v
    · rw [if_pos h2, if_pos (by omega)]
    · rw [if_neg h2, if_neg (by omega)]; simp
theorem cntTo_all (xs : List Nat) : cntTo xs 256 0 = cnt xs := by
  apply ext_getD (by rw [cntTo_length, cnt_length])
  intro u hu
  rw [cntTo_length] at hu
  rw [cntTo_getD _ _ _ _ hu, cnt_getD _ _ hu, if_pos hu]
theorem cntTo_bound (xs : List Nat) (v k u : Nat) (hu : u < 256) : 0 ≤ (cntTo xs v k).getD u 0 ∧ (cntTo xs v k).getD u 0 ≤ xs.length := by
  rw [cntTo_getD _ _ _ _ hu]
  have h1 := List.count_le_length (l := xs) (a := u)
  have h2 := List.count_le_length (l := xs.take k) (a := u)
  rw [List.length_take] at h2
  split
  · omega
  · split <;> omega

end Go.Proofs.Ytllkfmnofklpmaa

/- Plain mathematics of chapter 8: counts whose sum is a power of two. -/
namespace Go.Proofs.Ytllkfmnofklpmaa
open Go

/-- who has one more next -/
def needyTo (rest : List Int) (had : List Bool) : Nat → Option Nat
  | 0 => none
  | s + 1 => match needyTo rest had s with
    | none => if had.getD s false then none else some s
    | some b => if had.getD s false = false ∧ rest.getD b 0 < rest.getD s 0 then some s else some b

theorem needy_none (rest : List Int) (had : List Bool) (k : Nat) (h : needyTo rest had k = none) : ∀ s, s < k → had.getD s false = true := by
  induction k with
  | zero => intro s hs; omega
  | succ k ih =>
    simp only [needyTo] at h
    cases hn : needyTo rest had k with
    | none =>
      rw [hn] at h
      simp only at h
      intro s hs
      by_cases hsk : s = k
      · subst hsk
        cases hh : had.getD s false with
        | true => rfl
        | false => rw [hh] at h; simp at h
      · exact ih hn s (by omega)
    | some b =>
      rw [hn] at h
      simp only at h
      split at h <;> simp at h

theorem needy_some (rest : List Int) (had : List Bool) (k b : Nat) (h : needyTo rest had k = some b) :
    b < k ∧ had.getD b false = false ∧ ∀ s, s < k → had.getD s false = false → rest.getD s 0 < rest.getD b 0 ∨ (rest.getD s 0 = rest.getD b 0 ∧ b ≤ s) := by
  induction k generalizing b with
  | zero => simp [needyTo] at h
  | succ k ih =>
    simp only [needyTo] at h
    cases hn : needyTo rest had k with
    | none =>
      rw [hn] at h
      simp only at h
      have hall := needy_none rest had k hn
      cases hh : had.getD k false with
      | true => rw [hh] at h; simp at h
      | false =>
        rw [hh] at h
        simp at h
        subst h
        refine ⟨by omega, hh, fun s hs h1 => ?_⟩
        by_cases hsk : s = k
        · subst hsk; right; exact ⟨rfl, Nat.le_refl _⟩
        · have := hall s (by omega); rw [this] at h1; simp at h1
    | some b' =>
      rw [hn] at h
      simp only at h
      obtain ⟨i1, i2, i3⟩ := ih b' hn
      by_cases hc : had.getD k false = false ∧ rest.getD b' 0 < rest.getD k 0
      · rw [if_pos hc] at h
        simp at h
        subst h
        refine ⟨by omega, hc.1, fun s hs h1 => ?_⟩
        by_cases hsk : s = k
        · subst hsk; right; exact ⟨rfl, Nat.le_refl _⟩
        · left
          rcases i3 s (by omega) h1 with h2 | h2
          · omega
          · omega
      · rw [if_neg hc] at h
        simp at h
        subst h
        refine ⟨by omega, i2, fun s hs h1 => ?_⟩
        by_cases hsk : s = k
        · subst hsk
          have : ¬ rest.getD b' 0 < rest.getD s 0 := fun hlt => hc ⟨h1, hlt⟩
          rcases Int.lt_or_eq_of_le (Int.not_lt.1 this) with h2 | h2
          · left; exact h2
          · right; exact ⟨h2, by omega⟩
        · exact i3 s (by omega) h1

theorem needy_times (rest : List Int) (had : List Bool) (f : Int) (hf : 0 < f) (k : Nat) : needyTo (rest.map (· * f)) had k = needyTo rest had k := by
  have hg : ∀ s, (rest.map (· * f)).getD s 0 = rest.getD s 0 * f := by
    intro s
    simp only [List.getD_eq_getElem?_getD, List.getElem?_map]
    cases rest[s]? <;> simp
  induction k with
  | zero => rfl
  | succ k ih =>
    simp only [needyTo, ih]
    cases needyTo rest had k with
    | none => rfl
    | some b =>
      simp only [hg]
      have : (rest.getD b 0 * f < rest.getD k 0 * f) ↔ (rest.getD b 0 < rest.getD k 0) := Int.mul_lt_mul_right hf
      simp only [this]

/-- one more for the neediest -/
def giveStep (rest : List Int) (p : List Int × List Bool) : List Int × List Bool := match needyTo rest p.2 256 with
  | none => p
  | some s => (p.1.set s (p.1.getD s 0 + 1), p.2.set s true)
theorem giveStep_some {rest : List Int} {p : List Int × List Bool} {s : Nat} (h : needyTo rest p.2 256 = some s) : giveStep rest p = (p.1.set s (p.1.getD s 0 + 1), p.2.set s true) := by
  unfold giveStep; rw [h]
theorem giveStep_times (rest : List Int) (f : Int) (hf : 0 < f) (p : List Int × List Bool) : giveStep (rest.map (· * f)) p = giveStep rest p := by
  unfold giveStep; rw [needy_times rest _ f hf]

/-- so k times -/
def giveN (rest : List Int) : Nat → List Int → List Bool → List Int × List Bool
  | 0, q, h => (q, h)
  | k + 1, q, h => giveStep rest (giveN rest k q h)
theorem giveN_succ (rest : List Int) (k : Nat) (q : List Int) (h : List Bool) : giveN rest (k + 1) q h = giveStep rest (giveN rest k q h) := rfl

theorem give_times (rest : List Int) (f : Int) (hf : 0 < f) (k : Nat) (q : List Int) (h : List Bool) : giveN (rest.map (· * f)) k q h = giveN rest k q h := by
  induction k with
  | zero => rfl
  | succ k ih => rw [giveN_succ, giveN_succ, ih, giveStep_times rest f hf]

/-- how many have had none and have some left -/
def cntN : List Int → List Bool → Nat
  | r :: rs, h :: hs => (if h = false ∧ 0 < r then 1 else 0) + cntN rs hs
  | _, _ => 0

theorem cntN_set : ∀ (rest : List Int) (had : List Bool) (s : Nat), s < rest.length → s < had.length → had.getD s false = false → 0 < rest.getD s 0 → cntN rest (had.set s true) + 1 = cntN rest had
  | [], _, s, h, _, _, _ => by simp at h
  | _ :: _, [], s, _, h, _, _ => by simp at h
  | r :: rs, h :: hs, 0, _, _, h1, h2 => by
    simp only [List.getD_cons_zero] at h1 h2
    subst h1
    simp [cntN, h2]; omega
  | r :: rs, h :: hs, s + 1, hl, hl2, h1, h2 => by
    have ih := cntN_set rs hs s (by simpa using hl) (by simpa using hl2) (by simpa using h1) (by simpa using h2)
    simp only [List.set_cons_succ, cntN]
    omega

theorem cntN_pos : ∀ (rest : List Int) (had : List Bool), 0 < cntN rest had → ∃ s, s < rest.length ∧ s < had.length ∧ had.getD s false = false ∧ 0 < rest.getD s 0
  | [], _, h => by simp [cntN] at h
  | _ :: _, [], h => by simp [cntN] at h
  | r :: rs, h :: hs, hp => by
    by_cases hc : h = false ∧ 0 < r
    · exact ⟨0, by simp, by simp, by simpa using hc.1, by simpa using hc.2⟩
    · simp only [cntN, if_neg hc, Nat.zero_add] at hp
      obtain ⟨s, h1, h2, h3, h4⟩ := cntN_pos rs hs hp
      exact ⟨s + 1, by simp; omega, by simp; omega, by simpa using h3, by simpa using h4⟩

/-- what is known behind k gifts -/
structure Gave (rest q : List Int) (had : List Bool) (k : Nat) (p : List Int × List Bool) : Prop where
  len1 : p.1.length = 256
  len2 : p.2.length = 256
  sum : tot p.1 = tot q + (k : Int)
  left : cntN rest p.2 + k = cntN rest had
  keep : ∀ s, had.getD s false = true → p.2.getD s false = true
  val : ∀ s, s < 256 → p.1.getD s 0 = q.getD s 0 + if had.getD s false = false ∧ p.2.getD s false = true then 1 else 0
  some : ∀ s, s < 256 → had.getD s false = false → p.2.getD s false = true → 0 < rest.getD s 0
  first : ∀ s t, s < 256 → t < 256 → had.getD s false = false → p.2.getD s false = true → p.2.getD t false = false → rest.getD t 0 < rest.getD s 0 ∨ (rest.getD t 0 = rest.getD s 0 ∧ s ≤ t)

theorem bset_getD (l : List Bool) (i j : Nat) (z : Bool) (hi : i < l.length) : (l.set i z).getD j false = if i = j then z else l.getD j false := by
  by_cases h : i = j
  · subst h; rw [if_pos rfl, List.getD_eq_getElem?_getD, List.getElem?_set_self hi]; rfl
  · rw [if_neg h, List.getD_eq_getElem?_getD, List.getElem?_set_ne h, ← List.getD_eq_getElem?_getD]
theorem iset_getD (l : List Int) (i j : Nat) (z : Int) (hi : i < l.length) : (l.set i z).getD j 0 = if i = j then z else l.getD j 0 := by
  by_cases h : i = j
  · subst h; rw [if_pos rfl, List.getD_eq_getElem?_getD, List.getElem?_set_self hi]; rfl
  · rw [if_neg h, List.getD_eq_getElem?_getD, List.getElem?_set_ne h, ← List.getD_eq_getElem?_getD]

theorem gave_step {rest q : List Int} {had : List Bool} (hr : rest.length = 256) {k : Nat} {p : List Int × List Bool} (g : Gave rest q had k p) (hk : k < cntN rest had) :
    ∃ s, needyTo rest p.2 256 = some s ∧ s < 256 ∧ p.2.getD s false = false ∧ Gave rest q had (k + 1) (p.1.set s (p.1.getD s 0 + 1), p.2.set s true) := by
  have hp : 0 < cntN rest p.2 := by have := g.left; omega
  obtain ⟨t, ht1, ht2, ht3, ht4⟩ := cntN_pos rest p.2 hp
  cases hn : needyTo rest p.2 256 with
  | none =>
    have := needy_none rest p.2 256 hn t (by omega)
    rw [this] at ht3; simp at ht3
  | some s =>
    obtain ⟨h1, h2, h3⟩ := needy_some rest p.2 256 s hn
    have hs0 : 0 < rest.getD s 0 := by
      rcases h3 t (by omega) ht3 with h | h <;> omega
    have hhs : had.getD s false = false := by
      cases hh : had.getD s false with
      | false => rfl
      | true => have := g.keep s hh; rw [this] at h2; simp at h2
    have l1 := g.len1; have l2 := g.len2
    refine ⟨s, rfl, h1, h2, ?_⟩
    constructor
    · simp [l1]
    · simp [l2]
    · have := tot_set p.1 s (p.1.getD s 0 + 1) (by omega)
      have := g.sum
      simp only; omega
    · have := cntN_set rest p.2 s (by omega) (by omega) h2 hs0
      have := g.left
      simp only; omega
    · intro u hu
      simp only
      rw [bset_getD _ _ _ _ (by omega)]
      split
      · rfl
      · exact g.keep u hu
    · intro u hu
      simp only
      rw [iset_getD _ _ _ _ (by omega), bset_getD _ _ _ _ (by omega)]
      by_cases hus : s = u
      · subst hus
        rw [if_pos rfl, if_pos rfl, if_pos ⟨hhs, rfl⟩, g.val s hu, if_neg (by rw [h2]; simp)]
        omega
      · rw [if_neg hus, if_neg hus]; exact g.val u hu
    · intro u hu hu1 hu2
      simp only at hu2
      rw [bset_getD _ _ _ _ (by omega)] at hu2
      by_cases hus : s = u
      · subst hus; exact hs0
      · rw [if_neg hus] at hu2; exact g.some u hu hu1 hu2
    · intro u t hu ht hu1 hu2 ht2
      simp only at hu2 ht2
      rw [bset_getD _ _ _ _ (by omega)] at hu2 ht2
      by_cases hst : s = t
      · subst hst; simp at ht2
      · rw [if_neg hst] at ht2
        by_cases hus : s = u
        · subst hus; exact h3 t ht ht2
        · rw [if_neg hus] at hu2
          exact g.first u t hu ht hu1 hu2 ht2

theorem gave_zero (rest q : List Int) (had : List Bool) (hq : q.length = 256) (hh : had.length = 256) : Gave rest q had 0 (q, had) := by
  refine ⟨hq, hh, by simp, by simp, fun s h => h, fun s hs => ?_, fun s hs h1 h2 => ?_, fun s t hs ht h1 h2 => ?_⟩
  · show q.getD s 0 = _
    rw [if_neg]
    · omega
    · rintro ⟨h1, h2⟩; simp only at h2; rw [h1] at h2; simp at h2
  · simp only at h2; rw [h1] at h2; simp at h2
  · simp only at h2; rw [h1] at h2; simp at h2

theorem gave {rest q : List Int} {had : List Bool} (hr : rest.length = 256) (hq : q.length = 256) (hh : had.length = 256) (k : Nat) (hk : k ≤ cntN rest had) : Gave rest q had k (giveN rest k q had) := by
  induction k with
  | zero => exact gave_zero rest q had hq hh
  | succ k ih =>
    obtain ⟨s, hs, _, _, g⟩ := gave_step hr (ih (by omega)) (by omega)
    rw [giveN_succ, giveStep_some hs]
    exact g

/-- who has one less next -/
def richTo (q c : List Int) : Nat → Nat
  | 0 => 0
  | s + 1 => if q.getD (richTo q c s) 0 < q.getD (s + 1) 0 ∨ (q.getD (s + 1) 0 = q.getD (richTo q c s) 0 ∧ c.getD (s + 1) 0 ≤ c.getD (richTo q c s) 0) then s + 1 else richTo q c s

theorem rich_spec (q c : List Int) (k : Nat) : richTo q c k ≤ k ∧ ∀ s, s ≤ k → q.getD s 0 < q.getD (richTo q c k) 0 ∨ (q.getD s 0 = q.getD (richTo q c k) 0 ∧ (c.getD (richTo q c k) 0 < c.getD s 0 ∨ (c.getD (richTo q c k) 0 = c.getD s 0 ∧ s ≤ richTo q c k))) := by
  induction k with
  | zero => exact ⟨Nat.le_refl _, fun s hs => by obtain rfl : s = 0 := by omega
                                                 right; exact ⟨rfl, .inr ⟨rfl, Nat.le_refl _⟩⟩⟩
  | succ k ih =>
    obtain ⟨i1, i2⟩ := ih
    simp only [richTo]
    by_cases hc : q.getD (richTo q c k) 0 < q.getD (k + 1) 0 ∨ (q.getD (k + 1) 0 = q.getD (richTo q c k) 0 ∧ c.getD (k + 1) 0 ≤ c.getD (richTo q c k) 0)
    · rw [if_pos hc]
      refine ⟨Nat.le_refl _, fun s hs => ?_⟩
      by_cases hsk : s = k + 1
      · subst hsk; right; exact ⟨rfl, .inr ⟨rfl, Nat.le_refl _⟩⟩
      · rcases i2 s (by omega) with h | ⟨h, h'⟩
        · left; omega
        · rcases hc with hc | ⟨hc, hc'⟩
          · left; omega
          · right
            refine ⟨by omega, ?_⟩
            rcases h' with h' | ⟨h', _⟩
            · left; omega
            · rcases Int.lt_or_eq_of_le hc' with h3 | h3
              · left; omega
              · right; exact ⟨by omega, by omega⟩
    · rw [if_neg hc]
      refine ⟨by omega, fun s hs => ?_⟩
      by_cases hsk : s = k + 1
      · subst hsk
        have n1 : ¬ q.getD (richTo q c k) 0 < q.getD (k + 1) 0 := fun h => hc (.inl h)
        rcases Int.lt_or_eq_of_le (Int.not_lt.1 n1) with h | h
        · left; exact h
        · right
          refine ⟨h, .inl ?_⟩
          have n2 : ¬ c.getD (k + 1) 0 ≤ c.getD (richTo q c k) 0 := fun h2 => hc (.inr ⟨h, h2⟩)
          omega
      · exact i2 s (by omega)

theorem rich_times (q c : List Int) (f : Int) (hf : 0 < f) (k : Nat) : richTo q (c.map (· * f)) k = richTo q c k := by
  have hg : ∀ s, (c.map (· * f)).getD s 0 = c.getD s 0 * f := by
    intro s
    simp only [List.getD_eq_getElem?_getD, List.getElem?_map]
    cases c[s]? <;> simp
  induction k with
  | zero => rfl
  | succ k ih =>
    simp only [richTo, ih, hg]
    have : (c.getD (k + 1) 0 * f ≤ c.getD (richTo q c k) 0 * f) ↔ (c.getD (k + 1) 0 ≤ c.getD (richTo q c k) 0) := Int.mul_le_mul_right hf
    simp only [this]

/-- one less for the richest -/
def takeStep (c q : List Int) : List Int := q.set (richTo q c 255) (q.getD (richTo q c 255) 0 - 1)
theorem takeStep_times (c q : List Int) (f : Int) (hf : 0 < f) : takeStep (c.map (· * f)) q = takeStep c q := by
  unfold takeStep; rw [rich_times _ _ f hf]
/-- so k times -/
def takeN (c : List Int) : Nat → List Int → List Int
  | 0, q => q
  | k + 1, q => takeStep c (takeN c k q)
theorem takeN_succ (c : List Int) (k : Nat) (q : List Int) : takeN c (k + 1) q = takeStep c (takeN c k q) := rfl

theorem takeN_times (c : List Int) (f : Int) (hf : 0 < f) (k : Nat) (q : List Int) : takeN (c.map (· * f)) k q = takeN c k q := by
  induction k with
  | zero => rfl
  | succ k ih => rw [takeN_succ, takeN_succ, ih, takeStep_times _ _ f hf]

theorem tot_le_pos (l : List Int) (h : ∀ c ∈ l, c ≤ 1) : tot l ≤ (pos l : Int) := by
  induction l with
  | nil => simp [tot, pos]
  | cons x r ih =>
    have := h x (by simp)
    have := ih (fun c hc => h c (by simp [hc]))
    simp only [tot, pos]
    split <;> omega

theorem pos_same : ∀ (a b : List Int), a.length = b.length → (∀ k, k < a.length → (0 < a.getD k 0 ↔ 0 < b.getD k 0)) → pos a = pos b
  | [], [], _, _ => by simp [pos]
  | [], _ :: _, h, _ => by simp at h
  | _ :: _, [], h, _ => by simp at h
  | x :: a, y :: b, h, hk => by
    have ih := pos_same a b (by simpa using h) (fun k hk1 => by have := hk (k + 1) (by simpa using hk1); simpa only [List.getD_cons_succ] using this)
    have h0 := hk 0 (by simp)
    simp only [List.getD_cons_zero] at h0
    simp only [pos]
    by_cases hx : 0 < x
    · rw [if_pos hx, if_pos (h0.1 hx)]; omega
    · rw [if_neg hx, if_neg (fun h => hx (h0.2 h))]; omega

/-- what is known behind k takings -/
structure Took (c q : List Int) (k : Nat) (p : List Int) : Prop where
  len : p.length = 256
  sum : tot p = tot q - (k : Int)
  low : ∀ s, s < 256 → 0 ≤ p.getD s 0 ∧ (0 < p.getD s 0 ↔ 0 < c.getD s 0)
  top : ∀ s, s < 256 → p.getD s 0 ≤ q.getD s 0
  order : ∀ a b, a < 256 → b < 256 → c.getD b 0 < c.getD a 0 → p.getD b 0 ≤ p.getD a 0

theorem took_step {c q : List Int} {k : Nat} {p : List Int} (hc : c.length = 256) (t : Took c q k p) (hp : (pos c : Int) < tot p) :
    richTo p c 255 < 256 ∧ 1 < p.getD (richTo p c 255) 0 ∧ Took c q (k + 1) (p.set (richTo p c 255) (p.getD (richTo p c 255) 0 - 1)) := by
  obtain ⟨r1, r2⟩ := rich_spec p c 255
  have hl := t.len
  have h2 : 1 < p.getD (richTo p c 255) 0 := by
    rcases Int.lt_or_le 1 (p.getD (richTo p c 255) 0) with h | h
    · exact h
    · exfalso
      have hall : ∀ z ∈ p, z ≤ 1 := by
        intro z hz
        obtain ⟨i, hi, rfl⟩ := List.mem_iff_getElem.1 hz
        have := r2 i (by omega)
        rw [List.getD_eq_getElem?_getD (i := i), List.getElem?_eq_getElem hi] at this
        simp only [Option.getD_some] at this
        rcases this with h3 | h3 <;> omega
      have h4 := tot_le_pos p hall
      have h5 := pos_same p c (by omega) (fun k hk => (t.low k (by omega)).2)
      omega
  refine ⟨by omega, h2, ?_⟩
  generalize richTo p c 255 = b at *
  have hb : b < 256 := by omega
  constructor
  · simp [hl]
  · have := tot_set p b (p.getD b 0 - 1) (by omega)
    have := t.sum
    omega
  · intro s hs
    rw [iset_getD _ _ _ _ (by omega)]
    have := t.low s hs
    by_cases hbs : b = s
    · subst hbs
      rw [if_pos rfl]
      refine ⟨by omega, ?_⟩
      rw [← this.2]; omega
    · rw [if_neg hbs]; exact this
  · intro s hs
    rw [iset_getD _ _ _ _ (by omega)]
    have := t.top s hs
    by_cases hbs : b = s
    · subst hbs; rw [if_pos rfl]; omega
    · rw [if_neg hbs]; exact this
  · intro x y hx hy hxy
    rw [iset_getD _ _ _ _ (by omega), iset_getD _ _ _ _ (by omega)]
    have ho := t.order x y hx hy hxy
    by_cases hbx : b = x
    · subst hbx
      rw [if_pos rfl]
      by_cases hby : b = y
      · subst hby; omega
      · rw [if_neg hby]
        rcases r2 y (by omega) with h | ⟨h, h'⟩
        · omega
        · rcases h' with h' | ⟨h', _⟩ <;> omega
    · rw [if_neg hbx]
      by_cases hby : b = y
      · subst hby; rw [if_pos rfl]; omega
      · rw [if_neg hby]; exact ho

theorem took {c q : List Int} (hc : c.length = 256) (t : Took c q 0 q) (k : Nat) (hk : (pos c : Int) ≤ tot q - (k : Int)) : Took c q k (takeN c k q) := by
  induction k with
  | zero => exact t
  | succ k ih =>
    have t' := ih (by omega)
    rw [takeN_succ]
    exact (took_step hc t' (by rw [t'.sum]; omega)).2.2

end Go.Proofs.Ytllkfmnofklpmaa

/- Plain: normalized counts, and what chapter 8 promises of them. -/
namespace Go.Proofs.Ytllkfmnofklpmaa
open Go

def q0L (c : List Int) (size n : Int) : List Int := c.map fun x => x * size / n
def qBase (c : List Int) (size n : Int) : List Int := c.map fun x => if x * size / n = 0 then min x 1 else x * size / n
def rest0 (c : List Int) (size n : Int) : List Int := c.map fun x => x * size % n
def had0 (c : List Int) (size n : Int) : List Bool := c.map fun x => decide (x * size / n = 0)
def gaveC (c : List Int) (size n : Int) : List Int := (giveN (rest0 c size n) (size - tot (qBase c size n)).toNat (qBase c size n) (had0 c size n)).1
/-- the counts c, normalized to the sum size -/
def normC (c : List Int) (size : Int) : List Int := takeN c (tot (gaveC c size (tot c)) - size).toNat (gaveC c size (tot c))

/-- how many are raised to 1 -/
def zc (size n : Int) : List Int → Nat
  | [] => 0
  | x :: r => (if 0 < x ∧ x * size / n = 0 then 1 else 0) + zc size n r

theorem sum_parts (size n : Int) (c : List Int) : tot c * size = n * tot (q0L c size n) + tot (rest0 c size n) := by
  induction c with
  | nil => simp [q0L, rest0, tot]
  | cons x r ih =>
    have h := Int.mul_ediv_add_emod (x * size) n
    simp only [q0L, rest0, List.map_cons, tot] at ih ⊢
    rw [Int.add_mul, ih, Int.mul_add]
    omega

theorem base_sum (size n : Int) (c : List Int) (h0 : ∀ x ∈ c, 0 ≤ x) : tot (qBase c size n) = tot (q0L c size n) + (zc size n c : Int) := by
  induction c with
  | nil => simp [qBase, q0L, tot, zc]
  | cons x r ih =>
    have ih := ih (fun y hy => h0 y (by simp [hy]))
    have hx := h0 x (by simp)
    simp only [qBase, q0L, List.map_cons, tot, zc] at ih ⊢
    by_cases hq : x * size / n = 0
    · by_cases hp : 0 < x
      · rw [if_pos hq, if_pos ⟨hp, hq⟩]; omega
      · rw [if_pos hq, if_neg (fun h => hp h.1)]; omega
    · rw [if_neg hq, if_neg (fun h => hq h.2)]; omega

theorem rest_sum (size n : Int) (hn : 0 < n) (c : List Int) (h0 : ∀ x ∈ c, 0 ≤ x) : tot (rest0 c size n) ≤ (n - 1) * ((cntN (rest0 c size n) (had0 c size n) : Int) + (zc size n c : Int)) := by
  induction c with
  | nil => simp [rest0, had0, tot, zc, cntN]
  | cons x r ih =>
    have ih := ih (fun y hy => h0 y (by simp [hy]))
    have hx := h0 x (by simp)
    have e1 := Int.emod_nonneg (x * size) (show n ≠ 0 by omega)
    have e2 := Int.emod_lt_of_pos (x * size) hn
    simp only [rest0, had0, List.map_cons, tot, zc, cntN] at ih ⊢
    generalize hN : cntN (List.map (fun x => x * size % n) r) (List.map (fun x => decide (x * size / n = 0)) r) = N at *
    generalize hZ : zc size n r = Z at *
    have hstep : (n - 1) * ((N : Int) + (Z : Int) + 1) = (n - 1) * ((N : Int) + (Z : Int)) + (n - 1) := by rw [Int.mul_add, Int.mul_one]
    by_cases hq : x * size / n = 0
    · by_cases hp : 0 < x
      · rw [if_pos (show 0 < x ∧ x * size / n = 0 from ⟨hp, hq⟩), if_neg (by simp [hq])]
        rw [show (((0 + N : Nat)) : Int) + ((1 + Z : Nat) : Int) = (N : Int) + (Z : Int) + 1 by omega, hstep]
        omega
      · have : x = 0 := by omega
        subst this
        rw [if_neg (by simp), if_neg (by simp)]
        simp only [Int.zero_mul, Int.zero_emod] at *
        rw [show (((0 + N : Nat)) : Int) + ((0 + Z : Nat) : Int) = (N : Int) + (Z : Int) by omega]
        omega
    · rw [if_neg (show ¬ (0 < x ∧ x * size / n = 0) from fun h => hq h.2)]
      by_cases hr : 0 < x * size % n
      · rw [if_pos ⟨by simp [hq], hr⟩]
        rw [show (((1 + N : Nat)) : Int) + ((0 + Z : Nat) : Int) = (N : Int) + (Z : Int) + 1 by omega, hstep]
        omega
      · rw [if_neg (fun h => hr h.2)]
        rw [show (((0 + N : Nat)) : Int) + ((0 + Z : Nat) : Int) = (N : Int) + (Z : Int) by omega]
        omega

theorem give_room {c : List Int} {size n : Int} (h0 : ∀ x ∈ c, 0 ≤ x) (hn : tot c = n) (hn0 : 0 < n) : (size - tot (qBase c size n)).toNat ≤ cntN (rest0 c size n) (had0 c size n) := by
  have h1 := sum_parts size n c
  have h2 := base_sum size n c h0
  have h3 := rest_sum size n hn0 c h0
  rw [hn] at h1
  generalize cntN (rest0 c size n) (had0 c size n) = N at *
  generalize zc size n c = Z at *
  generalize tot (qBase c size n) = B at *
  generalize tot (q0L c size n) = Q at *
  generalize tot (rest0 c size n) = R at *
  rcases Nat.lt_or_ge N (size - B).toNat with hlt | hge
  · exfalso
    have hA : (N : Int) + Z ≤ size - Q - 1 := by omega
    have hR : R = n * (size - Q) := by rw [Int.mul_sub]; omega
    have h4 : (n - 1) * ((N : Int) + Z) ≤ (n - 1) * (size - Q - 1) := Int.mul_le_mul_of_nonneg_left hA (by omega)
    have h5 : (n - 1) * (size - Q - 1) = n * (size - Q) - n - (size - Q) + 1 := by
      rw [Int.sub_mul, Int.mul_sub n (size - Q) 1, Int.mul_one, Int.one_mul]; omega
    omega
  · exact hge

theorem mapI_getD (c : List Int) (f : Int → Int) (s : Nat) (h : s < c.length) : (c.map f).getD s 0 = f (c.getD s 0) := by
  simp [List.getD_eq_getElem?_getD, List.getElem?_map, List.getElem?_eq_getElem h]
theorem mapB_getD (c : List Int) (f : Int → Bool) (s : Nat) (h : s < c.length) : (c.map f).getD s false = f (c.getD s 0) := by
  simp [List.getD_eq_getElem?_getD, List.getElem?_map, List.getElem?_eq_getElem h]

/-- counts that can be normalized to the sum size -/
structure Fit (c : List Int) (size : Int) : Prop where
  len : c.length = 256
  low : ∀ x ∈ c, 0 ≤ x
  some : 0 < tot c
  sz : 0 < size
  many : (pos c : Int) ≤ size

theorem Fit.at {c : List Int} {size : Int} (h : Fit c size) (s : Nat) (hs : s < 256) : 0 ≤ c.getD s 0 := h.low _ (getD_mem (by rw [h.len]; exact hs))

theorem Fit.gave {c : List Int} {size : Int} (h : Fit c size) : Gave (rest0 c size (tot c)) (qBase c size (tot c)) (had0 c size (tot c)) (size - tot (qBase c size (tot c))).toNat (giveN (rest0 c size (tot c)) (size - tot (qBase c size (tot c))).toNat (qBase c size (tot c)) (had0 c size (tot c))) :=
  Go.Proofs.Ytllkfmnofklpmaa.gave (by simp [rest0, h.len]) (by simp [qBase, h.len]) (by simp [had0, h.len]) _ (give_room h.low rfl h.some)

theorem div_parts (x size n : Int) (hn : 0 < n) (hx : 0 ≤ x) (hs : 0 < size) : 0 ≤ x * size / n ∧ n * (x * size / n) + x * size % n = x * size ∧ 0 ≤ x * size % n ∧ x * size % n < n ∧ 0 ≤ x * size :=
  have hp : 0 ≤ x * size := Int.mul_nonneg hx (by omega)
  ⟨Int.ediv_nonneg hp (by omega), Int.mul_ediv_add_emod _ _, Int.emod_nonneg _ (by omega), Int.emod_lt_of_pos _ hn, hp⟩

theorem base_at {c : List Int} {size n : Int} (s : Nat) (hs : s < c.length) : (qBase c size n).getD s 0 = if c.getD s 0 * size / n = 0 then min (c.getD s 0) 1 else c.getD s 0 * size / n := by
  unfold qBase; rw [mapI_getD c _ s hs]
theorem rest_at {c : List Int} {size n : Int} (s : Nat) (hs : s < c.length) : (rest0 c size n).getD s 0 = c.getD s 0 * size % n := by
  unfold rest0; rw [mapI_getD c _ s hs]
theorem had_at {c : List Int} {size n : Int} (s : Nat) (hs : s < c.length) : (had0 c size n).getD s false = decide (c.getD s 0 * size / n = 0) := by
  unfold had0; rw [mapB_getD c _ s hs]

/-- behind the gifts: a count, and what it was -/
theorem Fit.given {c : List Int} {size : Int} (h : Fit c size) (s : Nat) (hs : s < 256) :
    ((gaveC c size (tot c)).getD s 0 = 0 ∧ c.getD s 0 = 0) ∨ ((gaveC c size (tot c)).getD s 0 = 1 ∧ 0 < c.getD s 0 ∧ c.getD s 0 * size / tot c = 0) ∨
    (0 < c.getD s 0 ∧ 0 < c.getD s 0 * size / tot c ∧ ((gaveC c size (tot c)).getD s 0 = c.getD s 0 * size / tot c ∨ ((gaveC c size (tot c)).getD s 0 = c.getD s 0 * size / tot c + 1 ∧ 0 < c.getD s 0 * size % tot c))) := by
  have g := h.gave
  have hl : s < c.length := by rw [h.len]; exact hs
  have hv := g.val s hs
  have hso := g.some s hs
  rw [base_at s hl, had_at s hl] at hv
  rw [had_at s hl, rest_at s hl] at hso
  have hx := h.at s hs
  obtain ⟨d1, d2, d3, d4, d5⟩ := div_parts (c.getD s 0) size (tot c) h.some hx h.sz
  unfold gaveC
  generalize giveN (rest0 c size (tot c)) (size - tot (qBase c size (tot c))).toNat (qBase c size (tot c)) (had0 c size (tot c)) = p at *
  by_cases hq : c.getD s 0 * size / tot c = 0
  · rw [if_pos hq, if_neg (fun hh => by rw [decide_eq_true hq] at hh; exact Bool.noConfusion hh.1)] at hv
    by_cases hc0 : c.getD s 0 = 0
    · left; exact ⟨by rw [hv]; omega, hc0⟩
    · right; left; exact ⟨by rw [hv]; omega, by omega, hq⟩
  · right; right
    have hcp : 0 < c.getD s 0 := by
      rcases Int.lt_or_eq_of_le hx with h1 | h1
      · exact h1
      · rw [← h1] at hq; simp at hq
    refine ⟨hcp, by omega, ?_⟩
    rw [if_neg hq] at hv
    cases hp2 : p.2.getD s false with
    | false => left; rw [if_neg (fun hh => by rw [hp2] at hh; exact Bool.noConfusion hh.2)] at hv; omega
    | true =>
      right
      rw [if_pos ⟨decide_eq_false hq, hp2⟩] at hv
      exact ⟨hv, hso (decide_eq_false hq) hp2⟩

theorem div_mono {x y size n : Int} (hn : 0 < n) (hs : 0 < size) (h : x ≤ y) : x * size / n ≤ y * size / n :=
  Int.ediv_le_ediv hn (Int.mul_le_mul_of_nonneg_right h (by omega))

theorem Fit.givenOrder {c : List Int} {size : Int} (h : Fit c size) (a b : Nat) (ha : a < 256) (hb : b < 256) (hab : c.getD b 0 < c.getD a 0) : (gaveC c size (tot c)).getD b 0 ≤ (gaveC c size (tot c)).getD a 0 := by
  have ga := h.given a ha
  have gb := h.given b hb
  have hm := div_mono (n := tot c) h.some h.sz (Int.le_of_lt hab)
  have hxa := h.at a ha
  have hxb := h.at b hb
  by_cases hq : c.getD b 0 * size / tot c = c.getD a 0 * size / tot c ∧ 0 < c.getD b 0 * size / tot c
  · -- like quotients: who has more left is first
    have hla : a < c.length := by rw [h.len]; exact ha
    have hlb : b < c.length := by rw [h.len]; exact hb
    have g := h.gave
    have hva := g.val a ha
    have hvb := g.val b hb
    have hfi := g.first b a hb ha
    rw [base_at a hla, had_at a hla] at hva
    rw [base_at b hlb, had_at b hlb] at hvb
    rw [had_at b hlb, rest_at a hla, rest_at b hlb] at hfi
    obtain ⟨a1, a2, a3, a4, a5⟩ := div_parts (c.getD a 0) size (tot c) h.some hxa h.sz
    obtain ⟨b1, b2, b3, b4, b5⟩ := div_parts (c.getD b 0) size (tot c) h.some hxb h.sz
    have hlt : c.getD b 0 * size < c.getD a 0 * size := Int.mul_lt_mul_of_pos_right hab h.sz
    unfold gaveC
    generalize giveN (rest0 c size (tot c)) (size - tot (qBase c size (tot c))).toNat (qBase c size (tot c)) (had0 c size (tot c)) = p at *
    rw [if_neg (by omega)] at hva hvb
    rw [hva, hvb]
    cases hpb : p.2.getD b false with
    | false => rw [if_neg (show ¬ (_ ∧ false = true) from fun hh => Bool.noConfusion hh.2)]; split <;> omega
    | true =>
      cases hpa : p.2.getD a false with
      | true =>
        rw [if_pos ⟨decide_eq_false (by omega), rfl⟩, if_pos ⟨decide_eq_false (by omega), rfl⟩]; omega
      | false =>
        exfalso
        have := hfi (decide_eq_false (by omega)) hpb hpa
        rw [hq.1] at b2
        rcases this with h1 | h1 <;> omega
  · rcases ga with ⟨ga, ga'⟩ | ⟨ga, ga', ga''⟩ | ⟨ga, ga', ga''⟩ <;> rcases gb with ⟨gb, gb'⟩ | ⟨gb, gb', gb''⟩ | ⟨gb, gb', gb''⟩ <;> omega

theorem Fit.took0 {c : List Int} {size : Int} (h : Fit c size) : Took c (gaveC c size (tot c)) 0 (gaveC c size (tot c)) := by
  refine ⟨h.gave.len1, by simp, fun s hs => ?_, fun s _ => Int.le_refl _, fun a b ha hb hab => h.givenOrder a b ha hb hab⟩
  have := h.given s hs
  rcases this with ⟨g, g'⟩ | ⟨g, g', _⟩ | ⟨g, g', g''⟩ <;> omega

theorem Fit.gaveSum {c : List Int} {size : Int} (h : Fit c size) : tot (gaveC c size (tot c)) = max size (tot (qBase c size (tot c))) := by
  have := h.gave.sum
  unfold gaveC
  rw [this]; omega

theorem Fit.took {c : List Int} {size : Int} (h : Fit c size) : Took c (gaveC c size (tot c)) (tot (gaveC c size (tot c)) - size).toNat (normC c size) := by
  have hg := h.gaveSum
  have hm := h.many
  exact Go.Proofs.Ytllkfmnofklpmaa.took h.len h.took0 _ (by omega)

theorem norm_len {c : List Int} {size : Int} (h : Fit c size) : (normC c size).length = 256 := h.took.len
theorem norm_sum {c : List Int} {size : Int} (h : Fit c size) : tot (normC c size) = size := by
  have := h.took.sum
  have := h.gaveSum
  omega
theorem norm_pos {c : List Int} {size : Int} (h : Fit c size) (s : Nat) (hs : s < 256) : 0 ≤ (normC c size).getD s 0 ∧ (0 < (normC c size).getD s 0 ↔ 0 < c.getD s 0) := h.took.low s hs
theorem norm_order {c : List Int} {size : Int} (h : Fit c size) (a b : Nat) (ha : a < 256) (hb : b < 256) (hab : c.getD b 0 < c.getD a 0) : (normC c size).getD b 0 ≤ (normC c size).getD a 0 := h.took.order a b ha hb hab
theorem norm_nonneg {c : List Int} {size : Int} (h : Fit c size) : ∀ x ∈ normC c size, 0 ≤ x := by
  intro x hx
  obtain ⟨i, hi, rfl⟩ := List.mem_iff_getElem.1 hx
  rw [norm_len h] at hi
  have := (norm_pos h i hi).1
  rwa [List.getD_eq_getElem?_getD, List.getElem?_eq_getElem (by rw [norm_len h]; exact hi)] at this

/-- none has its part and one, or more -/
theorem norm_near {c : List Int} {size : Int} (h : Fit c size) (s : Nat) (hs : s < 256) : (normC c size).getD s 0 * tot c < c.getD s 0 * size + tot c := by
  have ht := h.took.top s hs
  have hg := h.given s hs
  have hx := h.at s hs
  have hn := h.some
  obtain ⟨d1, d2, d3, d4, d5⟩ := div_parts (c.getD s 0) size (tot c) h.some hx h.sz
  have hle : (normC c size).getD s 0 * tot c ≤ (gaveC c size (tot c)).getD s 0 * tot c := Int.mul_le_mul_of_nonneg_right ht (by omega)
  rcases hg with ⟨g, g'⟩ | ⟨g, g', g''⟩ | ⟨g, g', g''⟩
  · rw [g, Int.zero_mul] at hle; omega
  · have : 0 < c.getD s 0 * size := Int.mul_pos g' h.sz
    rw [g, Int.one_mul] at hle; omega
  · rcases g'' with g2 | ⟨g2, g3⟩
    · rw [g2, Int.mul_comm (c.getD s 0 * size / tot c)] at hle; omega
    · rw [g2, Int.add_mul, Int.one_mul, Int.mul_comm (c.getD s 0 * size / tot c)] at hle; omega

theorem zc_zero (size n : Int) (c : List Int) (h : ∀ x ∈ c, 0 < x → ¬ x * size / n = 0) : zc size n c = 0 := by
  induction c with
  | nil => rfl
  | cons x r ih =>
    simp only [zc]
    rw [ih (fun y hy => h y (by simp [hy])), if_neg (fun hh => h x (by simp) hh.1 hh.2)]

theorem tot_rest_nonneg (size n : Int) (hn : 0 < n) (c : List Int) : 0 ≤ tot (rest0 c size n) := by
  refine tot_nonneg _ fun x hx => ?_
  simp only [rest0, List.mem_map] at hx
  obtain ⟨y, _, rfl⟩ := hx
  exact Int.emod_nonneg _ (by omega)

/-- where none is raised, none lacks one or more -/
theorem norm_near2 {c : List Int} {size : Int} (h : Fit c size) (hr : ∀ s, s < 256 → 0 < c.getD s 0 → tot c ≤ c.getD s 0 * size) (s : Nat) (hs : s < 256) : c.getD s 0 * size - tot c < (normC c size).getD s 0 * tot c := by
  have hn := h.some
  have hz : zc size (tot c) c = 0 := zc_zero size (tot c) c fun x hx h0 hq => by
    obtain ⟨i, hi, rfl⟩ := List.mem_iff_getElem.1 hx
    have h1 := hr i (by rw [← h.len]; exact hi)
    rw [List.getD_eq_getElem?_getD, List.getElem?_eq_getElem hi] at h1
    simp only [Option.getD_some] at h1
    have h2 := h1 h0
    have h3 := Int.mul_ediv_add_emod (c[i] * size) (tot c)
    have h4 := Int.emod_lt_of_pos (c[i] * size) hn
    rw [hq, Int.mul_zero] at h3
    omega
  have hb := base_sum size (tot c) c h.low
  have hp := sum_parts size (tot c) c
  have hrn := tot_rest_nonneg size (tot c) hn c
  rw [hz] at hb
  have hle : tot (qBase c size (tot c)) ≤ size := by
    have h1 : tot c * tot (q0L c size (tot c)) ≤ tot c * size := by omega
    have := Int.le_of_mul_le_mul_left h1 hn
    omega
  have hgs := h.gaveSum
  have hN : normC c size = gaveC c size (tot c) := by
    unfold normC
    rw [show (tot (gaveC c size (tot c)) - size).toNat = 0 by omega]; rfl
  rw [hN]
  have hg := h.given s hs
  have hx := h.at s hs
  obtain ⟨d1, d2, d3, d4, d5⟩ := div_parts (c.getD s 0) size (tot c) h.some hx h.sz
  rcases hg with ⟨g, g'⟩ | ⟨g, g', g''⟩ | ⟨g, g', g''⟩
  · rw [g, g', Int.zero_mul, Int.zero_mul]; omega
  · have := hr s hs g'
    rw [g'', Int.mul_zero] at d2; omega
  · rcases g'' with g2 | ⟨g2, g3⟩
    · rw [g2, Int.mul_comm (c.getD s 0 * size / tot c)]; omega
    · rw [g2, Int.add_mul, Int.one_mul, Int.mul_comm (c.getD s 0 * size / tot c)]; omega

/-- what is normalized stays as it is -/
theorem norm_again {q : List Int} (_h0 : ∀ x ∈ q, 0 ≤ x) (hp : 0 < tot q) : normC q (tot q) = q := by
  have hb : qBase q (tot q) (tot q) = q := by
    have hid : q.map (fun x => if x * tot q / tot q = 0 then min x 1 else x * tot q / tot q) = q.map id := by
      apply List.map_congr_left
      intro x hx
      have hd : x * tot q / tot q = x := Int.mul_ediv_cancel x (by omega)
      rw [hd]
      by_cases hx0 : x = 0
      · rw [if_pos hx0, hx0]; rfl
      · rw [if_neg hx0]; rfl
    unfold qBase
    rw [hid, List.map_id]
  have hg : gaveC q (tot q) (tot q) = q := by
    unfold gaveC
    rw [hb, show (tot q - tot q).toNat = 0 by omega]; rfl
  unfold normC
  rw [hg, show (tot q - tot q).toNat = 0 by omega]; rfl

theorem tot_times (c : List Int) (f : Int) : tot (c.map (· * f)) = tot c * f := by
  induction c with
  | nil => simp [tot]
  | cons x r ih => simp only [List.map_cons, tot, ih, Int.add_mul]

/-- so many times as great, they are the same -/
theorem norm_times {c : List Int} {size f : Int} (h0 : ∀ x ∈ c, 0 ≤ x) (hf : 0 < f) : normC (c.map (· * f)) size = normC c size := by
  have hb : qBase (c.map (· * f)) size (tot c * f) = qBase c size (tot c) := by
    unfold qBase
    rw [List.map_map]
    apply List.map_congr_left
    intro x hx
    have hx0 := h0 x hx
    have hd : x * f * size / (tot c * f) = x * size / tot c := by
      rw [show x * f * size = x * size * f by rw [Int.mul_assoc, Int.mul_comm f size, ← Int.mul_assoc], Int.mul_ediv_mul_of_pos_left _ _ hf]
    simp only [Function.comp]
    rw [hd]
    by_cases hx1 : x = 0
    · subst hx1; simp
    · have hxf : 1 ≤ x * f := by
        have := Int.mul_pos (show 0 < x by omega) hf
        omega
      rw [show min (x * f) 1 = min x 1 by omega]
  have hr : rest0 (c.map (· * f)) size (tot c * f) = (rest0 c size (tot c)).map (· * f) := by
    unfold rest0
    rw [List.map_map, List.map_map]
    apply List.map_congr_left
    intro x hx
    simp only [Function.comp]
    rw [show x * f * size = f * (x * size) by rw [Int.mul_assoc, Int.mul_comm f size, ← Int.mul_assoc, Int.mul_comm], Int.mul_comm (tot c) f, Int.mul_emod_mul_of_pos _ _ hf, Int.mul_comm]
  have hh : had0 (c.map (· * f)) size (tot c * f) = had0 c size (tot c) := by
    unfold had0
    rw [List.map_map]
    apply List.map_congr_left
    intro x hx
    have hd : x * f * size / (tot c * f) = x * size / tot c := by
      rw [show x * f * size = x * size * f by rw [Int.mul_assoc, Int.mul_comm f size, ← Int.mul_assoc], Int.mul_ediv_mul_of_pos_left _ _ hf]
    simp only [Function.comp]
    rw [hd]
  have hg : gaveC (c.map (· * f)) size (tot c * f) = gaveC c size (tot c) := by
    unfold gaveC
    rw [hb, hr, hh, give_times _ f hf]
  unfold normC
  rw [tot_times, hg, takeN_times c f hf]

end Go.Proofs.Ytllkfmnofklpmaa

/- A block that is a row of bools. -/
namespace Go.Proofs.Ytllkfmnofklpmaa
open Go.RowKit

/-- A block that is a row of bools. -/
def RowT (w : World) (g : Nat) (t : TypeId) (hs : List Bool) : Prop := w.heap[g]? = some (.cells (bl hs).toArray t (0, 0))
theorem bl_getD (hs : List Bool) (k : Nat) (hk : k < hs.length) : (bl hs)[k]? = some (.bool (hs.getD k false)) := by simp [bl, List.getElem?_eq_getElem hk]
theorem bl_setT (hs : List Bool) (i : Nat) (z : Bool) : (bl hs).set i (.bool z) = bl (hs.set i z) := by simp [bl, List.map_set]
theorem RowT.cell {w : World} {g : Nat} {t : TypeId} {hs : List Bool} (h : RowT w g t hs) (k : Nat) (hk : k < hs.length) : w.cell? ⟨g, k, none⟩ = some (.bool (hs.getD k false)) := by
  rw [cell_of_row w g k _ _ _ h, List.getElem?_toArray, bl_getD hs k hk]
theorem RowT.free {w : World} {g : Nat} {t : TypeId} {hs : List Bool} (h : RowT w g t hs) (k : Nat) : w.frozen? ⟨g, k, none⟩ = false := frozen_of_row w g k _ _ h
theorem RowT.kept {S : Nat → Prop} {w w' : World} {g : Nat} {t : TypeId} {hs : List Bool} (h : RowT w g t hs) (hc : Chg S w w') (hS : ¬ S g) : RowT w' g t hs := (hc.block g (lt_of_block h) hS).trans h
theorem RowT.lt {w : World} {g : Nat} {t : TypeId} {hs : List Bool} (h : RowT w g t hs) : g < w.heap.size := lt_of_block h
theorem RowT.set {w : World} {g : Nat} {t : TypeId} {hs : List Bool} (h : RowT w g t hs) (i : Nat) (z : Bool) : RowT (w.setCell ⟨g, i, none⟩ (.bool z)) g t (hs.set i z) := by
  have := heap_setCell_same w g i _ _ (.bool z) h
  unfold RowT
  rw [this, List.setIfInBounds_toArray, bl_setT]

end Go.Proofs.Ytllkfmnofklpmaa

/- What the document's own norm (puncheonref08) tells: power, sum, neediest, richest. -/
namespace Go.Proofs.Ytllkfmnofklpmaa
open Go.RowKit

set_option maxHeartbeats 1000000 in
theorem r8power_any (r : Nat) (w : World) (hr : r ≤ 40) : Calls Try.prog 48 #[.int .i64 (r : Int)] w fun e w' => e = .returned (.int .i64 ((2 ^ r : Nat) : Int)) ∧ w' = w := by
  have HR := Lib.hid hr
  have hrI : (r : Int) ≤ 40 := by omega
  clear hr
  go_enter Try.func48, Try.ntmps48
  go_wp2
  go_loopw [3, 4] (fun o3 o4 wr => ∃ k P : Nat, k ≤ r ∧ o4 = .int .i64 (k : Int) ∧ o3 = .int .i64 (P : Int) ∧ P = 2 ^ k ∧ wr = w) (fun _ o4 _ => r - (intOf o4).toNat)
  case atStart => exact ⟨0, 1, Nat.zero_le _, rfl, rfl, rfl, rfl⟩
  case round =>
    obtain ⟨k, P, hk, rfl, rfl, hP, rfl⟩ := hrel
    have hP2 : P ≤ 2 ^ 40 := by rw [hP]; exact pow_le (by have := HR.out; omega)
    have hP3 : (P : Int) ≤ 1099511627776 := by
      have : (2 : Nat) ^ 40 = 1099511627776 := by decide
      omega
    by_cases hlt : k < r
    · have hsu : 2 * P = 2 ^ (k + 1) := by rw [hP, two_pow_succ k]
      have HS := Lib.hid hsu
      clear hsu hP hP2
      go_wp2
      go_roundw
      case rel => exact ⟨k + 1, 2 * P, by omega, by go_num, by go_num, HS.out, trivial⟩
      case measure => simp [intOf]; omega
    · obtain rfl : k = r := by omega
      have HP := Lib.hid hP
      clear hP hP2
      go_wp2
      go_ret
      rw [← HP.out]
      exact ⟨rfl, rfl⟩

set_option maxHeartbeats 1000000 in
theorem r8sum_any (v : Value) (q : List Int) (w : World) (h : RdI w v q) (hb : ∀ z ∈ q, 0 ≤ z ∧ z ≤ 4294967296) (hl : q.length ≤ 1000) :
    Calls Try.prog 68 #[v] w fun e w' => e = .returned (.int .i64 (tot q)) ∧ w' = w := by
  obtain ⟨ao, cap, rfl⟩ := h.form
  have H := Lib.hid h; have HB := Lib.hid hb
  have hlI : (q.length : Int) ≤ 1000 := by omega
  have HL := Lib.hid hl
  clear h hb hl
  go_enter Try.func68, Try.ntmps68
  go_wp2
  go_loopw [3, 4] (fun o3 o4 wr => ∃ k : Nat, k ≤ q.length ∧ o4 = .int .i64 (k : Int) ∧ o3 = .int .i64 (tot (q.take k)) ∧ 0 ≤ tot (q.take k) ∧ tot (q.take k) ≤ 4294967296 * (k : Int) ∧ wr = w) (fun _ o4 _ => q.length - (intOf o4).toNat)
  case atStart => exact ⟨0, Nat.zero_le _, rfl, rfl, by simp [tot], by simp [tot], rfl⟩
  case round =>
    obtain ⟨k, hk, rfl, rfl, h0, h1, rfl⟩ := hrel
    by_cases hlt : k < q.length
    · obtain ⟨g, off, rfl, hc⟩ := H.out.at k hlt
      have hsu := tot_take_succ q k hlt
      have hbk := HB.out _ (getD_mem hlt)
      obtain ⟨x, hx⟩ : ∃ x, q.getD k 0 = x := ⟨_, rfl⟩
      obtain ⟨t, ht⟩ : ∃ t, tot (q.take k) = t := ⟨_, rfl⟩
      rw [hx] at hc hsu hbk
      rw [ht] at hsu h0 h1 ⊢
      have hkl := HL.out
      have ht2 : t ≤ 4294967296000 := by omega
      obtain ⟨hx0, hx1⟩ := hbk
      have HSU := Lib.hid hsu; have H1 := Lib.hid h1
      clear hx ht hsu h1 hkl
      go_wp2
      go_roundw
      case rel => exact ⟨k + 1, by omega, by go_num, by rw [HSU.out], by rw [HSU.out]; omega, by rw [HSU.out]; have := H1.out; omega, trivial⟩
      case measure => simp [intOf]; omega
    · obtain rfl : k = q.length := by omega
      rw [List.take_length]
      clear h0 h1
      go_wp2
      go_ret
      exact ⟨rfl, rfl⟩

/-- an index, or -1 -/
def idx : Option Nat → Int
  | none => -1
  | some b => (b : Int)

set_option maxHeartbeats 2000000 in
set_option maxRecDepth 100000 in
theorem r8neediest_any (g h : Nat) (t u : TypeId) (rest : List Int) (had : List Bool) (w : World) (hr : RowI w g t rest) (hh : RowT w h u had) (hl : rest.length = 256) (hl2 : had.length = 256) :
    Calls Try.prog 69 #[.slice (some ⟨g, 0, none⟩) 256 256, .slice (some ⟨h, 0, none⟩) 256 256] w fun e w' => e = .returned (.int .i64 (idx (needyTo rest had 256))) ∧ ∃ m, w' = w.drewN m := by
  obtain ⟨N, hN⟩ : ∃ N, needyTo rest had 256 = N := ⟨_, rfl⟩
  rw [hN]
  have HN := Lib.hid hN; have HR := Lib.hid hr; have HH := Lib.hid hh; have HL := Lib.hid hl; have HL2 := Lib.hid hl2
  clear hN hr hh hl hl2
  go_enter Try.func69, Try.ntmps69
  go_wp2
  go_loopw [5, 6] (fun o5 o6 wr => ∃ s : Nat, s ≤ 256 ∧ o6 = .int .i64 (s : Int) ∧ o5 = .int .i64 (idx (needyTo rest had s)) ∧ ∃ m, wr = w.drewN m) (fun _ o6 _ => 256 - (intOf o6).toNat)
  case atStart => exact ⟨0, Nat.zero_le _, rfl, rfl, 0, rfl⟩
  case round =>
    obtain ⟨s, hs, rfl, rfl, m, rfl⟩ := hrel
    by_cases hlt : s < 256
    · have d8 : decide ((s : Int) < 256) = true := by simp; omega
      have hsI : (s : Int) < 256 := by omega
      have c1 := HH.out.cell s (by rw [HL2.out]; exact hlt)
      have c2 := HR.out.cell s (by rw [HL.out]; exact hlt)
      have hst : needyTo rest had (s + 1) = match needyTo rest had s with
        | none => if had.getD s false then none else some s
        | some b => if had.getD s false = false ∧ rest.getD b 0 < rest.getD s 0 then some s else some b := rfl
      cases hn : needyTo rest had s with
      | none =>
        rw [hn] at hst
        simp only at hst
        cases hhs : had.getD s false with
        | true =>
          rw [hhs] at hst c1
          have HST := Lib.hid hst
          clear hst hn hhs
          simp only [idx]
          go_wp2
          go_quiet (fail)
          go_wp2
          go_roundw
          case rel => exact ⟨s + 1, by omega, by go_num, by rw [HST.out] <;> rfl, m + nq, rfl⟩
          case measure => simp [intOf]; omega
        | false =>
          rw [hhs] at hst c1
          have HST := Lib.hid hst
          clear hst hn hhs
          simp only [idx]
          go_wp2
          go_quiet (fail)
          go_wp2
          go_roundw
          case rel => exact ⟨s + 1, by omega, by go_num, by rw [HST.out] <;> rfl, m + nq, rfl⟩
          case measure => simp [intOf]; omega
      | some b =>
        have hb := (needy_some rest had s b hn).1
        have hb256 : b < 256 := by omega
        have hbI : (b : Int) < 256 := by omega
        have c3 := HR.out.cell b (by rw [HL.out]; exact hb256)
        rw [hn] at hst
        simp only at hst
        have hneg : decide ((b : Int) < 0) = false := by simp
        obtain ⟨x, hx⟩ : ∃ x, rest.getD s 0 = x := ⟨_, rfl⟩
        obtain ⟨y, hy⟩ : ∃ y, rest.getD b 0 = y := ⟨_, rfl⟩
        rw [hx] at hst c2
        rw [hy] at hst c3
        clear hx hy hn
        cases hhs : had.getD s false with
        | true =>
          rw [hhs] at hst c1
          rw [if_neg (by simp)] at hst
          have HST := Lib.hid hst
          clear hst hhs
          simp only [idx]
          go_wp2
          go_quiet (fail)
          go_wp2
          go_roundw
          case rel => exact ⟨s + 1, by omega, by go_num, by rw [HST.out] <;> rfl, m + nq, rfl⟩
          case measure => simp [intOf]; omega
        | false =>
          rw [hhs] at hst c1
          by_cases hyx : y < x
          · have d1 : decide (y < x) = true := decide_eq_true hyx
            rw [if_pos ⟨rfl, hyx⟩] at hst
            have HST := Lib.hid hst
            clear hst hhs
            simp only [idx]
            go_wp2
            go_quiet (fail)
            go_wp2
            go_roundw
            case rel => exact ⟨s + 1, by omega, by go_num, by rw [HST.out] <;> rfl, m + nq, rfl⟩
            case measure => simp [intOf]; omega
          · have d1 : decide (y < x) = false := decide_eq_false hyx
            rw [if_neg (fun hh => hyx hh.2)] at hst
            have HST := Lib.hid hst
            clear hst hhs
            simp only [idx]
            go_wp2
            go_quiet (fail)
            go_wp2
            go_roundw
            case rel => exact ⟨s + 1, by omega, by go_num, by rw [HST.out] <;> rfl, m + nq, rfl⟩
            case measure => simp [intOf]; omega
    · obtain rfl : s = 256 := by omega
      rw [HN.out]
      go_wp2
      go_ret
      exact ⟨rfl, m, rfl⟩

set_option maxHeartbeats 2000000 in
set_option maxRecDepth 100000 in
theorem r8richest_any (g h o cap : Nat) (t : TypeId) (q c : List Int) (w : World) (hr : RowI w g t q) (hh : RdI w (.slice (some ⟨h, o, none⟩) 256 cap) c) (hl : q.length = 256) (hl2 : c.length = 256) :
    Calls Try.prog 70 #[.slice (some ⟨g, 0, none⟩) 256 256, .slice (some ⟨h, o, none⟩) 256 cap] w fun e w' => e = .returned (.int .i64 ((richTo q c 255 : Nat) : Int)) ∧ ∃ m, w' = w.drewN m := by
  obtain ⟨N, hN⟩ : ∃ N, richTo q c 255 = N := ⟨_, rfl⟩
  rw [hN]
  have hcell : ∀ k, k < 256 → w.cell? ⟨h, o + k, none⟩ = some (.int .i64 (c.getD k 0)) := fun k hk => by
    obtain ⟨g', o', he, hc⟩ := hh.at k (by omega)
    simp only [Option.some.injEq, Addr.mk.injEq] at he
    obtain ⟨rfl, rfl, -⟩ := he
    exact hc
  have HN := Lib.hid hN; have HR := Lib.hid hr; have HC := Lib.hid hcell; have HL := Lib.hid hl
  clear hN hr hh hl hl2 hcell
  go_enter Try.func70, Try.ntmps70
  go_wp2
  go_loopw [5, 6] (fun o5 o6 wr => ∃ s : Nat, s ≤ 255 ∧ o6 = .int .i64 ((s + 1 : Nat) : Int) ∧ o5 = .int .i64 ((richTo q c s : Nat) : Int) ∧ ∃ m, wr = w.drewN m) (fun _ o6 _ => 256 - (intOf o6).toNat)
  case atStart => exact ⟨0, Nat.zero_le _, rfl, rfl, 0, rfl⟩
  case round =>
    obtain ⟨s, hs, rfl, rfl, m, rfl⟩ := hrel
    have hb := (rich_spec q c s).1
    by_cases hlt : s < 255
    · have d8 : decide ((((s + 1 : Nat)) : Int) < 256) = true := by simp; omega
      have hsI : (s : Int) + 1 < 256 := by omega
      have hst : richTo q c (s + 1) = if q.getD (richTo q c s) 0 < q.getD (s + 1) 0 ∨ (q.getD (s + 1) 0 = q.getD (richTo q c s) 0 ∧ c.getD (s + 1) 0 ≤ c.getD (richTo q c s) 0) then s + 1 else richTo q c s := rfl
      have c1 := HR.out.cell (s + 1) (by rw [HL.out]; omega)
      have c2 := HR.out.cell (richTo q c s) (by rw [HL.out]; omega)
      have c3 := HC.out (s + 1) (by omega)
      have c4 := HC.out (richTo q c s) (by omega)
      obtain ⟨b, hbe⟩ : ∃ b, richTo q c s = b := ⟨_, rfl⟩
      rw [hbe] at hst c2 c4 hb ⊢
      clear hbe
      obtain ⟨x, hx⟩ : ∃ x, q.getD (s + 1) 0 = x := ⟨_, rfl⟩
      obtain ⟨y, hy⟩ : ∃ y, q.getD b 0 = y := ⟨_, rfl⟩
      obtain ⟨x2, hx2⟩ : ∃ x2, c.getD (s + 1) 0 = x2 := ⟨_, rfl⟩
      obtain ⟨y2, hy2⟩ : ∃ y2, c.getD b 0 = y2 := ⟨_, rfl⟩
      rw [hx] at hst c1
      rw [hy] at hst c2
      rw [hx2] at hst c3
      rw [hy2] at hst c4
      have hbI : (b : Int) < 256 := by omega
      clear hx hy hx2 hy2
      by_cases h1 : y < x
      · have d1 : decide (y < x) = true := decide_eq_true h1
        rw [if_pos (.inl h1)] at hst
        have HST := Lib.hid hst
        clear hst
        go_wp2
        go_quiet (fail)
        go_wp2
        go_roundw
        case rel => exact ⟨s + 1, by omega, by go_num, by rw [HST.out] <;> go_num, m + nq, rfl⟩
        case measure => simp [intOf]; omega
      · have d1 : decide (y < x) = false := decide_eq_false h1
        by_cases h2 : x = y
        · subst h2
          by_cases h3 : x2 ≤ y2
          · have d3 : decide (x2 ≤ y2) = true := decide_eq_true h3
            rw [if_pos (.inr ⟨rfl, h3⟩)] at hst
            have HST := Lib.hid hst
            clear hst
            go_wp2
            go_quiet (fail)
            go_wp2
            go_roundw
            case rel => exact ⟨s + 1, by omega, by go_num, by rw [HST.out] <;> go_num, m + nq, rfl⟩
            case measure => simp [intOf]; omega
          · have d3 : decide (x2 ≤ y2) = false := decide_eq_false h3
            rw [if_neg (fun hh => hh.elim h1 (fun hh => h3 hh.2))] at hst
            have HST := Lib.hid hst
            clear hst
            go_wp2
            go_quiet (fail)
            go_wp2
            go_roundw
            case rel => exact ⟨s + 1, by omega, by go_num, by rw [HST.out], m + nq, rfl⟩
            case measure => simp [intOf]; omega
        · have d2 : (x == y) = false := by simp [h2]
          rw [if_neg (fun hh => hh.elim h1 (fun hh => h2 hh.1))] at hst
          have HST := Lib.hid hst
          clear hst
          go_wp2
          go_quiet (fail)
          go_wp2
          go_roundw
          case rel => exact ⟨s + 1, by omega, by go_num, by rw [HST.out], m + nq, rfl⟩
          case measure => simp [intOf]; omega
    · obtain rfl : s = 255 := by omega
      rw [HN.out]
      go_wp2
      go_ret
      exact ⟨rfl, m, rfl⟩

end Go.Proofs.Ytllkfmnofklpmaa

/- What the document's own Counts (puncheonref08) tells. -/
namespace Go.Proofs.Ytllkfmnofklpmaa
open Go.RowKit

/-- filled up to the k-th -/
def fillI (f : Nat → Int) (k : Nat) : List Int := (List.range 256).map fun i => if i < k then f i else 0
def fillB (f : Nat → Bool) (k : Nat) : List Bool := (List.range 256).map fun i => if i < k then f i else false
theorem fillI_length (f : Nat → Int) (k : Nat) : (fillI f k).length = 256 := by simp [fillI]
theorem fillB_length (f : Nat → Bool) (k : Nat) : (fillB f k).length = 256 := by simp [fillB]
theorem fillI_getD (f : Nat → Int) (k i : Nat) (h : i < 256) : (fillI f k).getD i 0 = if i < k then f i else 0 := by simp [fillI, List.getD_eq_getElem?_getD, h]
theorem fillB_getD (f : Nat → Bool) (k i : Nat) (h : i < 256) : (fillB f k).getD i false = if i < k then f i else false := by simp [fillB, List.getD_eq_getElem?_getD, h]
theorem extB_getD {a b : List Bool} (hl : a.length = b.length) (h : ∀ k, k < a.length → a.getD k false = b.getD k false) : a = b := by
  apply List.ext_getElem hl
  intro i h1 h2
  have := h i h1
  rwa [List.getD_eq_getElem?_getD, List.getD_eq_getElem?_getD, List.getElem?_eq_getElem h1, List.getElem?_eq_getElem h2] at this
theorem fillI_zero (f : Nat → Int) : fillI f 0 = List.replicate 256 0 := by
  apply ext_getD (by rw [fillI_length, List.length_replicate])
  intro k hk
  rw [fillI_length] at hk
  rw [fillI_getD _ _ _ hk, if_neg (by omega), List.getD_eq_getElem?_getD, List.getElem?_replicate, if_pos hk]; rfl
theorem fillB_zero (f : Nat → Bool) : fillB f 0 = List.replicate 256 false := by
  apply extB_getD (by rw [fillB_length, List.length_replicate])
  intro k hk
  rw [fillB_length] at hk
  rw [fillB_getD _ _ _ hk, if_neg (by omega), List.getD_eq_getElem?_getD, List.getElem?_replicate, if_pos hk]; rfl
theorem fillI_set (f : Nat → Int) (k : Nat) (hk : k < 256) : (fillI f k).set k (f k) = fillI f (k + 1) := by
  apply ext_getD (by rw [List.length_set, fillI_length, fillI_length])
  intro u hu
  rw [List.length_set, fillI_length] at hu
  rw [fillI_getD _ _ _ hu, iset_getD _ _ _ _ (by rw [fillI_length]; exact hk), fillI_getD _ _ _ hu]
  by_cases h : k = u
  · subst h; rw [if_pos rfl, if_pos (by omega)]
  · rw [if_neg h]
    by_cases h2 : u < k
    · rw [if_pos h2, if_pos (by omega)]
    · rw [if_neg h2, if_neg (by omega)]
theorem fillB_set (f : Nat → Bool) (k : Nat) (hk : k < 256) : (fillB f k).set k (f k) = fillB f (k + 1) := by
  apply extB_getD (by rw [List.length_set, fillB_length, fillB_length])
  intro u hu
  rw [List.length_set, fillB_length] at hu
  rw [fillB_getD _ _ _ hu, bset_getD _ _ _ _ (by rw [fillB_length]; exact hk), fillB_getD _ _ _ hu]
  by_cases h : k = u
  · subst h; rw [if_pos rfl, if_pos (by omega)]
  · rw [if_neg h]
    by_cases h2 : u < k
    · rw [if_pos h2, if_pos (by omega)]
    · rw [if_neg h2, if_neg (by omega)]
theorem fillB_skip (f : Nat → Bool) (k : Nat) (hk : k < 256) (hf : f k = false) : fillB f k = fillB f (k + 1) := by
  rw [← fillB_set f k hk, hf]
  apply extB_getD (by rw [List.length_set])
  intro u hu
  rw [fillB_length] at hu
  rw [bset_getD _ _ _ _ (by rw [fillB_length]; exact hk)]
  by_cases h : k = u
  · subst h; rw [if_pos rfl, fillB_getD _ _ _ hu, if_neg (by omega)]
  · rw [if_neg h]
theorem fillI_all (f : Nat → Int) (l : List Int) (hl : l.length = 256) (h : ∀ s, s < 256 → l.getD s 0 = f s) : fillI f 256 = l := by
  apply ext_getD (by rw [fillI_length, hl])
  intro u hu
  rw [fillI_length] at hu
  rw [fillI_getD _ _ _ hu, if_pos hu, h u hu]
theorem fillB_all (f : Nat → Bool) (l : List Bool) (hl : l.length = 256) (h : ∀ s, s < 256 → l.getD s false = f s) : fillB f 256 = l := by
  apply extB_getD (by rw [fillB_length, hl])
  intro u hu
  rw [fillB_length] at hu
  rw [fillB_getD _ _ _ hu, if_pos hu, h u hu]

theorem setset (l : List Int) (i : Nat) (x y : Int) : (l.set i x).set i y = l.set i y := by simp

/-- a row of bools is made -/
theorem zeros_bl (n : Nat) : (madeCells (Value.bool false).cells (n * 1)).toList = bl (List.replicate n false) := by
  rw [Nat.mul_one]
  apply List.ext_getElem (by simp [madeCells, bl])
  intro i h1 h2
  simp [madeCells, Value.cells, Nat.mod_one, bl]
theorem RowT.of_own {w : World} {base g n : Nat} {hs : List Bool} (h : w.ownsRow base 4 1 (.slice (some ⟨g, 0, none⟩) n n) n (bl hs)) : RowT w g 4 hs := by
  rcases h.2 with ⟨h0, _⟩ | ⟨g', cap, cur, he, _, hg, _, _, hs', ht⟩
  · simp at h0
  · simp only [Value.slice.injEq, Option.some.injEq, Addr.mk.injEq, and_true, true_and] at he
    obtain ⟨rfl, rfl⟩ := he
    have : cur = (bl hs).toArray := by
      apply Array.ext'
      rw [← ht, List.take_of_length_le (by rw [Array.length_toList, hs']; exact Nat.le_refl _)]
    rw [this] at hg
    exact hg
theorem wpList_make_bools {ops : Array Oper} {rest : List Oper} {o : Oper} {a : Act} {w : World} {Q : Exit → Act → World → Prop} (hg : o.guard = none) (l c : Operand) (hop : o.op = Op.makeSlice 27 l c)
    (L C : Int) (n : Nat) (hl : a.eval l = .int .i64 L) (hc : a.eval c = .int .i64 C) (hL : L = (n : Int)) (hC : C = (n : Int)) (hn : n < 100000000000) (Z : List Bool) (hZ : Z = List.replicate n false)
    (hK : ∀ w', RowT w' w.heap.size 4 Z → Chg (fun _ => False) w w' → wpList Try.prog ops Q rest (a.put o.dst (.slice (some ⟨w.heap.size, 0, none⟩) n n)) w') : wpList Try.prog ops Q (o :: rest) a w := by
  obtain ⟨i, hi, hz0, hz1, hz2⟩ := info_parts Try.infoBool
  refine wpList_make_full w hg l c 27 hop w.heap.size 4 i (.bool false) 1 Try.underlying27 hi hz0 hz1 .i64 .i64 L C n hl hc hL hC (by rw [hz2]; omega) (by unfold maxLen; omega) (Nat.le_refl _) ?_
  intro w1 h1 h2
  rw [zeros_bl, ← hZ] at h1
  exact hK w1 (RowT.of_own h1) ((Chg.of_grown h2).mono fun k _ hk => by simp at hk)

/-- whether counts can be normalized to the log r -/
def normOk (c : List Int) (r : Int) : Prop := isRight c ∧ 0 < tot c ∧ 1 ≤ r ∧ r ≤ 12 ∧ (pos c : Int) ≤ ((2 ^ r.toNat : Nat) : Int)
instance normOk_dec (c : List Int) (r : Int) : Decidable (normOk c r) := by unfold normOk; infer_instance
/-- what they are -/
def normR (c : List Int) (r : Int) : List Int := normC c ((2 ^ r.toNat : Nat) : Int)

theorem normOk.fit {c : List Int} {r : Int} (h : normOk c r) : Fit c ((2 ^ r.toNat : Nat) : Int) :=
  ⟨h.1.1, h.1.2.1, h.2.1, by have := Nat.two_pow_pos r.toNat; omega, h.2.2.2.2⟩
theorem pow12 {k : Nat} (h : k ≤ 12) : (2 ^ k : Nat) ≤ 4096 := by
  have := pow_le h
  have : (2 : Nat) ^ 12 = 4096 := by decide
  omega

/-- what Counts tells -/
def NormSays (w : World) (c : List Int) (r : Int) (e : Ending) (w' : World) : Prop :=
  ∃ v', e = .returned (.tuple #[v', .int .i64 (if normOk c r then 0 else 1)]) ∧ (normOk c r → OwnI w' w.heap.size v' (normR c r)) ∧ (¬ normOk c r → RdI w' v' []) ∧ Chg (fun _ => False) w w'

theorem total_pos {c : List Int} : totalI c = 0 ↔ ¬ (isRight c ∧ 0 < tot c) := by
  unfold totalI
  by_cases h : isRight c
  · rw [if_pos h]
    have := tot_nonneg c h.2.1
    constructor
    · rintro h0 ⟨_, h1⟩; omega
    · intro h1
      have : ¬ 0 < tot c := fun h2 => h1 ⟨h, h2⟩
      omega
  · rw [if_neg h]
    exact ⟨fun _ h1 => h h1.1, fun _ => rfl⟩

end Go.Proofs.Ytllkfmnofklpmaa

/- Logs of normalized counts; what the document's own Log (puncheonref08) tells. -/
namespace Go.Proofs.Ytllkfmnofklpmaa
open Go.RowKit

/-- the log of which the sum t is; 0, if of none -/
def logI (t : Int) : Nat := if 1 ≤ floorI t ∧ floorI t ≤ 12 ∧ t = ((2 ^ floorI t : Nat) : Int) then floorI t else 0
theorem logI_pow {r : Nat} (h1 : 1 ≤ r) (h2 : r ≤ 12) : logI ((2 ^ r : Nat) : Int) = r := by
  unfold logI
  rw [floor_at, if_pos ⟨h1, h2, rfl⟩]
theorem logI_none {t : Int} (h : ∀ r : Nat, 1 ≤ r → r ≤ 12 → ¬ t = ((2 ^ r : Nat) : Int)) : logI t = 0 := by
  unfold logI
  rw [if_neg (fun hh => h _ hh.1 hh.2.1 hh.2.2)]
theorem logI_le (t : Int) : logI t ≤ 12 := by
  unfold logI
  split
  · next h => exact h.2.1
  · omega
theorem logI_spec (t : Int) : logI t = 0 ∨ (1 ≤ logI t ∧ t = ((2 ^ logI t : Nat) : Int)) := by
  by_cases h : 1 ≤ floorI t ∧ floorI t ≤ 12 ∧ t = ((2 ^ floorI t : Nat) : Int)
  · right
    have : logI t = floorI t := by unfold logI; rw [if_pos h]
    rw [this]; exact ⟨h.1, h.2.2⟩
  · left; unfold logI; rw [if_neg h]

set_option maxHeartbeats 1000000 in
theorem r8log_of (v : Value) (q : List Int) (w : World) (h : RdI w v q) (hTT : Calls Try.prog 47 #[v] w fun e w' => e = .returned (.int .i64 (totalI q)) ∧ w' = w) :
    Calls Try.prog 35 #[v] w fun e w' => e = .returned (.int .i64 ((logI (totalI q) : Nat) : Int)) ∧ w' = w := by
  have HT := Lib.hid hTT
  obtain ⟨ao, cap, rfl⟩ := h.form
  clear h hTT
  have htl := totalI_le q
  obtain ⟨t, ht⟩ : ∃ t, totalI q = t := ⟨_, rfl⟩
  rw [ht] at HT htl ⊢
  obtain ⟨ht0, ht1⟩ := htl
  obtain ⟨L, hL⟩ : ∃ L, logI t = L := ⟨_, rfl⟩
  rw [hL]
  have HL := Lib.hid hL
  clear ht hL
  go_enter Try.func35, Try.ntmps35
  go_wp2_with fail
  refine HT.out.mono ?_
  rintro e w' ⟨rfl, rfl⟩
  clear HT
  go_wp2
  go_loopw [4] (fun o4 wr => ∃ r : Nat, 1 ≤ r ∧ r ≤ 13 ∧ o4 = .int .i64 (r : Int) ∧ (∀ j, 1 ≤ j → j < r → ¬ t = ((2 ^ j : Nat) : Int)) ∧ wr = w') (fun o4 _ => 13 - (intOf o4).toNat)
  case atStart => exact ⟨1, Nat.le_refl _, by omega, rfl, fun j h1 h2 => by omega, rfl⟩
  case round =>
    obtain ⟨r, hr1, hr2, rfl, hno, rfl⟩ := hrel
    have HNO := Lib.hid hno
    clear hno
    by_cases hlt : r ≤ 12
    · have d1 : decide ((r : Int) ≤ 12) = true := by simp; omega
      have hlI : (r : Int) ≤ 12 := by omega
      have HP := Lib.hid (r8power_any r wr (by omega))
      have hpw := pow12 hlt
      obtain ⟨P, hP⟩ : ∃ P, 2 ^ r = P := ⟨_, rfl⟩
      rw [hP] at HP hpw
      have HPP := Lib.hid hP
      clear hP
      by_cases heq : t = (P : Int)
      · have hLr : L = r := by
          rw [← HL.out, heq, ← HPP.out]
          exact logI_pow hr1 hlt
        subst hLr
        subst heq
        go_wp2_with fail
        refine HP.out.mono ?_
        rintro e w2 ⟨rfl, rfl⟩
        go_wp2
        go_ret
        exact ⟨rfl, rfl⟩
      · have hne : (t == (P : Int)) = false := by simp [heq]
        go_wp2_with fail
        refine HP.out.mono ?_
        rintro e w2 ⟨rfl, rfl⟩
        go_wp2
        go_roundw
        case rel =>
          refine ⟨r + 1, by omega, by omega, by go_num, fun j h1 h2 => ?_, trivial⟩
          by_cases hjr : j = r
          · subst hjr; rw [HPP.out]; exact heq
          · exact HNO.out j h1 (by omega)
        case measure => simp [intOf]; omega
    · have hr13 : r = 13 := by omega
      have hrI : (r : Int) = 13 := by omega
      rw [hrI]
      have hL0 : L = 0 := by
        rw [← HL.out]
        exact logI_none fun j h1 h2 => HNO.out j h1 (by omega)
      subst hL0
      clear hr13 hrI hlt hr1 hr2
      go_wp2
      go_ret
      exact ⟨rfl, rfl⟩

theorem r8log_any (v : Value) (q : List Int) (w : World) (h : RdI w v q) (hb : ∀ z ∈ q, -9223372036854775808 ≤ z ∧ z ≤ 9223372036854775807) (hl : q.length < 100000000000) :
    Calls Try.prog 35 #[v] w fun e w' => e = .returned (.int .i64 ((logI (totalI q) : Nat) : Int)) ∧ w' = w := r8log_of v q w h (r5total_any v q w h hb hl)

/-- numbers of any length: none but 256 are right -/
theorem r5right_all (v : Value) (cs : List Int) (w : World) (h : RdI w v cs) (hb : ∀ z ∈ cs, -9223372036854775808 ≤ z ∧ z ≤ 9223372036854775807) :
    Calls Try.prog 67 #[v] w fun e w' => e = .returned (.bool (decide (isRight cs))) ∧ w' = w := by
  by_cases hlen : cs.length = 256
  · exact r5right_any v cs w h hb (by omega)
  · obtain ⟨ao, cap, rfl⟩ := h.form
    have hq : ((cs.length : Int) != 256) = true := by simp; omega
    clear h hb
    go_enter Try.func67, Try.ntmps67
    go_wp2
    go_ret
    have hd : decide (isRight cs) = false := decide_eq_false fun h => hlen h.1
    rw [hd]
    exact ⟨rfl, rfl⟩
theorem r5total_all (v : Value) (cs : List Int) (w : World) (h : RdI w v cs) (hb : ∀ z ∈ cs, -9223372036854775808 ≤ z ∧ z ≤ 9223372036854775807) :
    Calls Try.prog 47 #[v] w fun e w' => e = .returned (.int .i64 (totalI cs)) ∧ w' = w := by
  by_cases hlen : cs.length = 256
  · exact r5total_any v cs w h hb (by omega)
  · have HR := Lib.hid (r5right_all v cs w h hb)
    obtain ⟨ao, cap, rfl⟩ := h.form
    have hr : ¬ isRight cs := fun h => hlen h.1
    have hm : totalI cs = 0 := by unfold totalI; rw [if_neg hr]
    have HM := Lib.hid hm
    clear h hb hm
    go_enter Try.func47, Try.ntmps47
    go_wp2_with fail
    refine HR.out.mono ?_
    rintro e w' ⟨rfl, rfl⟩
    rw [decide_eq_false hr]
    clear HR hr hlen
    go_wp2
    go_loopw [3, 5] (fun o3 o5 wr => o5 = .int .i64 0 ∧ o3 = .int .i64 0 ∧ wr = w') (fun _ _ _ => 0)
    case atStart => exact ⟨rfl, rfl, rfl⟩
    case round =>
      obtain ⟨rfl, rfl, rfl⟩ := hrel
      by_cases hlt : 0 < cs.length
      · go_wp2
        go_ret
        rw [HM.out]
        exact ⟨rfl, rfl⟩
      · have h0 : cs.length = 0 := by omega
        rw [h0]
        go_wp2
        go_ret
        rw [HM.out]
        exact ⟨rfl, rfl⟩
theorem r8log_all (v : Value) (q : List Int) (w : World) (h : RdI w v q) (hb : ∀ z ∈ q, -9223372036854775808 ≤ z ∧ z ≤ 9223372036854775807) :
    Calls Try.prog 35 #[v] w fun e w' => e = .returned (.int .i64 ((logI (totalI q) : Nat) : Int)) ∧ w' = w := r8log_of v q w h (r5total_all v q w h hb)

end Go.Proofs.Ytllkfmnofklpmaa

/- Normalized counts as a function; what the document's own spread (puncheonref10) tells of two keys, and of a key's place. -/
namespace Go.Proofs.Ytllkfmnofklpmaa
open Go.RowKit

/-- normalized counts of the log k -/
def NormQ (q : List Int) (k : Nat) : Prop := q.length = 256 ∧ (∀ z ∈ q, 0 ≤ z) ∧ tot q = ((2 ^ k : Nat) : Int) ∧ 1 ≤ k ∧ k ≤ 12
/-- counts as a function -/
def fq (q : List Int) (s : Nat) : Nat := (q.getD s 0).toNat

theorem NormQ.at {q : List Int} {k : Nat} (h : NormQ q k) (s : Nat) : q.getD s 0 = ((fq q s : Nat) : Int) := by
  unfold fq
  by_cases hs : s < q.length
  · rw [Int.toNat_of_nonneg (h.2.1 _ (getD_mem hs))]
  · rw [List.getD_eq_getElem?_getD, List.getElem?_eq_none (by omega)]; rfl
theorem sumTo_tot (q : List Int) (h : ∀ z ∈ q, 0 ≤ z) : ∀ n, n ≤ q.length → ((sumTo (fq q) n : Nat) : Int) = tot (q.take n)
  | 0, _ => rfl
  | n + 1, hn => by
    have ih := sumTo_tot q h n (by omega)
    rw [tot_take_succ q n (by omega), ← ih]
    simp only [sumTo]
    have : ((fq q n : Nat) : Int) = q.getD n 0 := by
      unfold fq; rw [Int.toNat_of_nonneg (h _ (getD_mem (by omega)))]
    omega
theorem NormQ.sum {q : List Int} {k : Nat} (h : NormQ q k) : sumTo (fq q) 256 = 2 ^ k := by
  have := sumTo_tot q h.2.1 256 (by rw [h.1]; exact Nat.le_refl _)
  rw [List.take_of_length_le (by rw [h.1]; exact Nat.le_refl _), h.2.2.1] at this
  omega
theorem NormQ.size {q : List Int} {k : Nat} (h : NormQ q k) : 2 ^ k ≤ 4096 := pow12 h.2.2.2.2
theorem NormQ.le {q : List Int} {k : Nat} (h : NormQ q k) (s : Nat) : fq q s ≤ 4096 := by
  by_cases hs : s < 256
  · have h1 := sumTo_at (fq q) 256 s hs
    rw [h.sum] at h1
    have := h.size
    omega
  · unfold fq
    rw [List.getD_eq_getElem?_getD, List.getElem?_eq_none (by rw [h.1]; omega)]
    simp
theorem NormQ.right {q : List Int} {k : Nat} (h : NormQ q k) : isRight q := ⟨h.1, h.2.1, by rw [h.2.2.1]; have := h.size; omega⟩
theorem NormQ.total {q : List Int} {k : Nat} (h : NormQ q k) : totalI q = ((2 ^ k : Nat) : Int) := by
  unfold totalI; rw [if_pos h.right, h.2.2.1]
theorem NormQ.log {q : List Int} {k : Nat} (h : NormQ q k) : logI (totalI q) = k := by rw [h.total]; exact logI_pow h.2.2.2.1 h.2.2.2.2
theorem normQ_of {q : List Int} (h : logI (totalI q) ≠ 0) : NormQ q (logI (totalI q)) := by
  rcases logI_spec (totalI q) with h0 | ⟨h1, h2⟩
  · exact absurd h0 h
  · have hp := Nat.two_pow_pos (logI (totalI q))
    have hr : isRight q := by
      by_cases hr : isRight q
      · exact hr
      · have : totalI q = 0 := by unfold totalI; rw [if_neg hr]
        omega
    have ht : totalI q = tot q := by unfold totalI; rw [if_pos hr]
    exact ⟨hr.1, hr.2.1, by rw [← ht]; exact h2, h1, logI_le _⟩
theorem NormQ.bnd {q : List Int} {k : Nat} (h : NormQ q k) : ∀ z ∈ q, -9223372036854775808 ≤ z ∧ z ≤ 9223372036854775807 := by
  intro z hz
  obtain ⟨i, hi, rfl⟩ := List.mem_iff_getElem.1 hz
  have h1 := h.at i
  have h2 := h.le i
  rw [List.getD_eq_getElem?_getD, List.getElem?_eq_getElem hi] at h1
  simp only [Option.getD_some] at h1
  omega

theorem NormQ.cell {q : List Int} {k : Nat} (hq : NormQ q k) {w : World} {g off n cap : Nat} (h : RdI w (.slice (some ⟨g, off, none⟩) n cap) q) (t : Nat) (ht : t < 256) : w.cell? ⟨g, off + t, none⟩ = some (.int .i64 ((fq q t : Nat) : Int)) := by
  obtain ⟨g', off', he, hc⟩ := h.at t (by rw [hq.1]; exact ht)
  simp only [Option.some.injEq, Addr.mk.injEq] at he
  obtain ⟨rfl, rfl, -⟩ := he
  rw [hq.at t] at hc
  exact hc

end Go.Proofs.Ytllkfmnofklpmaa

/- What the document's own header (puncheonref15) tells: Put. -/
namespace Go.Proofs.Ytllkfmnofklpmaa
open Go.RowKit

/-- the bits of counts -/
def hdBits (q : List Int) : List Bool := if logI (totalI q) = 0 then [] else hdGo (fq q) 257 (2 ^ logI (totalI q)) 0
theorem hdBits_length (q : List Int) : (hdBits q).length ≤ 3840 := by
  unfold hdBits
  by_cases h : logI (totalI q) = 0
  · rw [if_pos h]; simp
  · rw [if_neg h]
    have hq := normQ_of h
    have hs := hq.sum
    have := hdGo_length (fq q) (logI (totalI q)) (logI_le _) 257 (2 ^ logI (totalI q)) 0 (Nat.le_refl _) (by omega) (by rw [hs]; show _ = 0 + _; omega)
    have h12 := logI_le (totalI q)
    have : (logI (totalI q) + 3) * (256 - 0) ≤ 15 * 256 := Nat.mul_le_mul (by omega) (by omega)
    omega

set_option maxRecDepth 20000 in
set_option maxHeartbeats 4000000 in
theorem r15put_any (u v : Value) (bs : List Bool) (q : List Int) (B : Nat) (w : World) (h : w.ownsRow B 4 1 u bs.length (bl bs)) (hB : B ≤ w.heap.size) (hbs : bs.length < 980000) (hv : RdI w v q) (hb : ∀ z ∈ q, -9223372036854775808 ≤ z ∧ z ≤ 9223372036854775807) (hl : q.length < 100000000000) :
    Calls Try.prog 11 #[u, v] w fun e w' => ∃ v', e = .returned v' ∧ w'.ownsRow B 4 1 v' (bs ++ hdBits q).length (bl (bs ++ hdBits q)) ∧ Chg (fun _ => False) w w' := by
  have HLG := Lib.hid (r8log_any v q w hv hb hl)
  by_cases hk : logI (totalI q) = 0
  · have e : bs ++ hdBits q = bs := by unfold hdBits; rw [if_pos hk, List.append_nil]
    rw [e]
    rw [hk] at HLG
    have HO := Lib.hid h
    clear hb hl e h hk hv hbs hB
    go_enter Try.func11, Try.ntmps11
    go_wp2_with fail
    refine HLG.out.mono ?_
    rintro e w1 ⟨rfl, rfl⟩
    go_wp2
    go_ret
    exact ⟨_, rfl, HO.out, Chg.refl _ _⟩
  · have hq := normQ_of hk
    have hlen := hdBits_length q
    have hbits : hdBits q = hdGo (fq q) 257 (2 ^ logI (totalI q)) 0 := by unfold hdBits; rw [if_neg hk]
    obtain ⟨k, hke⟩ : ∃ k, logI (totalI q) = k := ⟨_, rfl⟩
    rw [hke] at hq HLG hbits hk
    obtain ⟨ao, cap, rfl⟩ := hv.form
    obtain ⟨g, off, rfl, -⟩ := hv.at 0 (by rw [hq.1]; omega)
    have hsum := hq.sum
    have hsz := hq.size
    have hn6 := hq.1
    have HCELL := Lib.hid fun W (hW : Chg (fun _ => False) w W) s hs => hq.cell (hv.kept hW (by simp)) s hs
    obtain ⟨f, hf⟩ : ∃ f, fq q = f := ⟨_, rfl⟩
    have HFA := Lib.hid (show ∀ s, fq q s = f s from fun s => by rw [hf])
    rw [hf] at hsum hbits
    have hlef : ∀ s, f s ≤ 4096 := fun s => by rw [← hf]; exact hq.le s
    obtain ⟨n, hn⟩ : ∃ n, q.length = n := ⟨_, rfl⟩
    rw [hn] at hn6 HLG ⊢
    obtain ⟨L, hL⟩ : ∃ L, 2 ^ k = L := ⟨_, rfl⟩
    have hLI : (2 : Int) ^ k = (L : Int) := by rw [← hL]; simp
    rw [hL] at hsum hsz hbits
    obtain ⟨D, hD⟩ : ∃ D, hdBits q = D := ⟨_, rfl⟩
    rw [hD] at hbits hlen ⊢
    have hk64 : (k : Int) < 64 := by have := hq.2.2.2.2; omega
    have hkk : ((k : Int) == 0) = false := by simp; omega
    have HSUM := Lib.hid hsum; have HBITS := Lib.hid hbits; have HLEN := Lib.hid hlen; have HO := Lib.hid h; have HB := Lib.hid hB; have HBS := Lib.hid hbs; have HN := Lib.hid hn6; have HLEF := Lib.hid hlef; have HSZ := Lib.hid hsz
    have hL4 : (L : Int) ≤ 4096 := by omega
    clear hq hsum hbits hlen h hB hbs hn6 hlef hn hL hke hk hb hl hv hf hsz hD
    go_enter Try.func11, Try.ntmps11
    go_wp2_with fail
    refine HLG.out.mono ?_
    rintro e w1 ⟨rfl, rfl⟩
    clear HLG
    go_wp2
    go_loopw [0, 6, 7, 8] (fun o0 o6 o7 _ wr => ∃ (fu left s : Nat) (A : List Bool), o6 = .int .i64 (left : Int) ∧ o7 = .int .i64 (s : Int) ∧ wr.ownsRow B 4 1 o0 A.length (bl A) ∧ A ++ hdGo f fu left s = bs ++ D ∧ sumTo f 256 = sumTo f s + left ∧ 256 < s + fu ∧ s ≤ 256 ∧ left ≤ 4096 ∧ Chg (fun _ => False) w1 wr) (fun _ _ o7 _ _ => 256 - (intOf o7).toNat)
    case atStart => exact ⟨257, L, 0, bs, rfl, rfl, HO.out, by rw [HBITS.out], by rw [HSUM.out]; show _ = 0 + _; omega, by omega, by omega, HSZ.out, Chg.refl _ _⟩
    case round =>
      obtain ⟨fu, left, s, A, rfl, rfl, ho, hA, hsum, hfu, hs, hl, hc⟩ := hrel
      obtain ⟨fu, rfl⟩ : ∃ f', fu = f' + 1 := ⟨fu - 1, by omega⟩
      simp only [hdGo] at hA
      have hAl : A.length ≤ 984000 := by
        have := congrArg List.length hA
        rw [List.length_append, List.length_append] at this
        have := HLEN.out; have := HBS.out; omega
      have hlI : (left : Int) ≤ 4096 := by omega
      have hsI : (s : Int) ≤ 256 := by omega
      have O := Lib.hid ho; have C := Lib.hid hc; have HFU := Lib.hid hfu; have HAL := Lib.hid hAl
      by_cases h0 : left = 0
      · subst h0
        rw [if_pos rfl, List.append_nil] at hA
        have EA := Lib.hid hA
        clear hA ho hc hsum hfu hAl
        go_wp2
        go_ret
        exact ⟨_, rfl, by rw [← EA.out]; exact O.out, C.out⟩
      · rw [if_neg h0] at hA
        have hs256 : s < 256 := by
          by_cases hh : s < 256
          · exact hh
          · have : s = 256 := by omega
            rw [this] at hsum; omega
        have hfs : sumTo f (s + 1) = sumTo f s + f s := rfl
        have hm := sum_mono (f := f) (show s + 1 ≤ 256 by omega)
        have e0 : decide (0 < (left : Int)) = true := decide_eq_true (by omega)
        have c0 := HCELL.out wr hc s hs256
        rw [HFA.out s] at c0
        have hsn : (s : Int) < (n : Int) := by have := HN.out; omega
        have hfl : f s ≤ left := by omega
        have hput : bgPutB A ((f s : Nat) : Int) (left : Int) = A ++ bitsOf (f s) (widthI (left : Int)) := by unfold bgPutB; rw [if_pos ⟨by omega, by omega, by omega, by omega⟩, Int.toNat_natCast]
        have PUT := Lib.hid (r13put_any _ A ((f s : Nat) : Int) (left : Int) B wr ho (by have := hc.size; have := HB.out; omega) (by omega))
        rw [hput] at PUT
        have hsome : f s = 0 → ∃ t, s + 1 ≤ t ∧ t < 256 ∧ 0 < f t := fun hz => by
          obtain ⟨t, ht1, ht2, ht3⟩ := sum_some (f := f) (s := s + 1) (256 - (s + 1)) (by rw [show s + 1 + (256 - (s + 1)) = 256 by omega]; omega)
          exact ⟨t, ht1, by omega, ht3⟩
        obtain ⟨F, hF⟩ : ∃ F, f s = F := ⟨_, rfl⟩
        rw [hF] at c0 hA hfl PUT hfs hsome
        have HCS := Lib.hid fun W (hW : Chg (fun _ => False) w1 W) => (show W.cell? ⟨g, off + s, none⟩ = some (.int .i64 (F : Int)) by
          have := HCELL.out W hW s hs256
          rw [HFA.out s, hF] at this; exact this)
        obtain ⟨s1, hs1⟩ : ∃ s1, s + 1 = s1 := ⟨_, rfl⟩
        have hs1I : (s : Int) + 1 = (s1 : Int) := by omega
        have hs1J : (s1 : Int) - 1 = (s : Int) := by omega
        obtain ⟨lf, hlf⟩ : ∃ lf, left - F = lf := ⟨_, rfl⟩
        have hlfI : (left : Int) - (F : Int) = (lf : Int) := by omega
        rw [hs1, hlf] at hA
        rw [hs1] at hfs hsome hm
        have hF4 : (F : Int) ≤ 4096 := by omega
        have HS1 := Lib.hid hs1; have HLF := Lib.hid hlf; have HSM := Lib.hid hsum; have HFS := Lib.hid hfs; have HFL := Lib.hid hfl; have HSOME := Lib.hid hsome
        have hlf4 : (lf : Int) ≤ 4096 := by omega
        clear ho hc hfu hAl hs1 hlf hsum hfs hfl hsome hm hput hF
        by_cases hF0 : 0 < F
        · rw [if_pos hF0] at hA
          have EA := Lib.hid hA
          have eF : decide (0 < (F : Int)) = true := decide_eq_true (by omega)
          clear hA
          go_wp2_with fail
          refine (PUT.out).mono ?_
          rintro e w3 ⟨v3, rfl, ho3, hc3⟩
          have O3 := Lib.hid ho3; have C3 := Lib.hid (C.out.trans hc3 fun _ _ h => h)
          clear ho3 hc3 c0
          have c0 := HCS.out w3 C3.out
          go_wp2
          go_roundw
          case rel => exact ⟨fu, lf, s1, A ++ bitsOf F (widthI (left : Int)), rfl, rfl, O3.out, by rw [List.append_assoc]; exact EA.out, by have := HSM.out; have := HFS.out; have := HFL.out; have := HLF.out; omega, by have := HFU.out; have := HS1.out; omega, by have := HS1.out; omega, by have := HLF.out; omega, C3.out⟩
          case measure => simp [intOf]; have := HS1.out; omega
        · rw [if_neg hF0] at hA
          obtain rfl : F = 0 := by omega
          obtain ⟨t, ht1, ht2, ht3⟩ := HSOME.out rfl
          have hst := zr_stop f (256 - s1) s1 t ht1 (by omega) ht3
          have hzz := zr_zero f (256 - s1) s1
          obtain ⟨m, hm⟩ : ∃ m, zr f (256 - s1) s1 = m := ⟨_, rfl⟩
          rw [hm] at hst hzz hA
          have hlf2 : lf = left := by have := HLF.out; omega
          subst hlf2
          have EA := Lib.hid hA; have HST := Lib.hid hst.2; have HZZ := Lib.hid hzz
          have hsm : s1 + m ≤ 255 := by omega
          have HSM1 := Lib.hid hsm
          have hmI : (m : Int) ≤ 255 := by omega
          clear hA hst hzz hm ht1 ht2 ht3
          go_wp2_with fail
          refine (PUT.out).mono ?_
          rintro e w3 ⟨v3, rfl, ho3, hc3⟩
          have O3 := Lib.hid ho3; have C3 := Lib.hid (C.out.trans hc3 fun _ _ h => h)
          clear ho3 hc3 c0
          have c0 := HCS.out w3 C3.out
          go_wp2
          obtain ⟨wa, hwa⟩ : ∃ wa, wa = wr := ⟨_, rfl⟩
          subst hwa
          go_loopw [7, 8] (fun o7 o8 wr => ∃ j : Nat, j ≤ m ∧ o7 = .int .i64 ((s1 + j : Nat) : Int) ∧ o8 = .int .i64 (j : Int) ∧ wr = w3) (fun _ o8 _ => m - (intOf o8).toNat)
          case atStart => exact ⟨0, Nat.zero_le _, rfl, rfl, rfl⟩
          case round =>
            obtain ⟨j, hj, rfl, rfl, rfl⟩ := hrel
            have hc0 := HCELL.out wr C3.out (s1 + j) (by have := HSM1.out; omega)
            rw [HFA.out (s1 + j)] at hc0
            obtain ⟨y, hy⟩ : ∃ y, s1 + j = y := ⟨_, rfl⟩
            have hyI : (s1 : Int) + (j : Int) = (y : Int) := by omega
            rw [hy] at hc0 ⊢
            have hyn : (y : Int) < (n : Int) := by have := HN.out; have := HSM1.out; omega
            have hy255 : (y : Int) ≤ 255 := by have := HSM1.out; omega
            by_cases hlt : j < m
            · have hz := HZZ.out j hlt
              rw [hy] at hz
              rw [hz] at hc0
              have HY := Lib.hid hy; have HLT := Lib.hid hlt
              clear hz hy
              go_wp2
              go_roundw
              case rel => exact ⟨j + 1, by have := HLT.out; omega, by have := HY.out; go_num, by go_num, trivial⟩
              case measure => simp [intOf]; have := HLT.out; omega
            · obtain rfl : j = m := by omega
              have hpos := HST.out
              rw [hy] at hpos
              obtain ⟨G, hG⟩ : ∃ G, f y = G := ⟨_, rfl⟩
              rw [hG] at hpos hc0
              have eG : ((G : Int) == 0) = false := by simp; omega
              have hrp : rnPutB (A ++ bitsOf 0 (widthI (lf : Int))) (j : Int) = A ++ bitsOf 0 (widthI (lf : Int)) ++ rnB j := by unfold rnPutB; rw [if_pos ⟨by omega, by omega⟩, Int.toNat_natCast]
              have RN := Lib.hid (r14put_any _ _ (j : Int) B wr O3.out (by have := C3.out.size; have := HB.out; omega) (by
                rw [List.length_append, bitsOf_length]
                have h13 := width_13 (l := (lf : Int)) (by omega) (by omega)
                have := HAL.out; omega))
              rw [hrp] at RN
              have HY := Lib.hid hy
              clear hy hG hrp
              go_wp2_with fail
              refine (RN.out).mono ?_
              rintro e w4 ⟨v4, rfl, ho4, hc4⟩
              have O4 := Lib.hid ho4; have C4 := Lib.hid (C3.out.trans hc4 fun _ _ h => h)
              clear ho4 hc4
              go_wp2
              go_roundw
              case rel => exact ⟨fu, lf, y, A ++ bitsOf 0 (widthI (lf : Int)) ++ rnB j, rfl, rfl, O4.out, by rw [List.append_assoc, List.append_assoc, ← HY.out]; exact EA.out, by rw [← HY.out, sum_zero j HZZ.out]; have := HSM.out; have := HFS.out; omega, by have := HFU.out; have := HS1.out; have := HY.out; omega, by omega, by omega, C4.out⟩
              case measure => simp [intOf]; have := HS1.out; have := HY.out; omega

end Go.Proofs.Ytllkfmnofklpmaa

/- A block of one cell: a variable that a closure shares, or a result that a deferred call may turn. -/
namespace Go.Proofs.Ytllkfmnofklpmaa
open Go.RowKit

/-- block b holds the value v, and nothing else -/
def Bx (w : World) (b : Nat) (t : TypeId) (v : Value) : Prop := w.heap[b]? = some (.cells #[v] t (0, 0))
theorem Bx.new (w : World) (t : TypeId) (v : Value) : Bx (w.alloc (.cells #[v] t)) w.heap.size t v := heap_alloc_new w _
theorem Bx.lt {w : World} {b : Nat} {t : TypeId} {v : Value} (h : Bx w b t v) : b < w.heap.size := lt_of_block h
theorem Bx.cell {w : World} {b : Nat} {t : TypeId} {v : Value} (h : Bx w b t v) : w.cell? ⟨b, 0, none⟩ = some v := by rw [cell_of_row w b 0 _ t _ h]; rfl
theorem Bx.free {w : World} {b : Nat} {t : TypeId} {v : Value} (h : Bx w b t v) : w.frozen? ⟨b, 0, none⟩ = false := frozen_of_row w b 0 _ t h
theorem Bx.kept {S : Nat → Prop} {w w' : World} {b : Nat} {t : TypeId} {v : Value} (h : Bx w b t v) (hc : Chg S w w') (hS : ¬ S b) : Bx w' b t v := (hc.block b (lt_of_block h) hS).trans h
theorem Bx.set {w : World} {b : Nat} {t : TypeId} {v : Value} (h : Bx w b t v) (x : Value) : Bx (w.setCell ⟨b, 0, none⟩ x) b t x := by
  have := heap_setCell_same w b 0 _ _ x h
  unfold Bx
  rw [this]; rfl
theorem Bx.drew {w : World} {b : Nat} {t : TypeId} {v : Value} (h : Bx w b t v) : Bx w.drew b t v := h

end Go.Proofs.Ytllkfmnofklpmaa

/- header's way of failing: a number that must be sound, one more that must be, the deferred call that recovers. THIS ALONE SPEAKS OF THE PROGRAM'S OWN TEXT (with HdProgB to HdProg). -/
namespace Go.Proofs.Ytllkfmnofklpmaa
open Go.RowKit

/-- what panics deep down -/
def wrongP (e : Int) : List PanicEntry := [{ v := .iface 85 (.agg #[.int .i64 e]), recovered := false }]

theorem hdsound_ok (n : Int) (w : World) : Calls Try.prog 77 #[.int .i64 n, .int .i64 0] w fun x w' => x = .returned (.int .i64 n) ∧ w' = w := by
  go_enter Try.func77, Try.ntmps77
  go_wp2
  go_ret
  exact ⟨rfl, rfl⟩
theorem hdsound_no (n e : Int) (he : e ≠ 0) (w : World) : Calls Try.prog 77 #[.int .i64 n, .int .i64 e] w fun x w' => x = .panicked (wrongP e) ∧ w' = w := by
  have d1 : (e == 0) = false := by simpa using he
  have d2 : (e != 0) = true := by simpa using he
  clear he
  go_enter Try.func77, Try.ntmps77
  go_wp2
  exact ⟨rfl, rfl, rfl⟩
theorem hdmore_ok (s : Nat) (hs : s ≤ 255) (w : World) : Calls Try.prog 76 #[.int .i64 (s : Int)] w fun x w' => x = .returned (.tuple #[]) ∧ w' = w := by
  have d1 : ((s : Int) == 256) = false := by simp; omega
  clear hs
  go_enter Try.func76, Try.ntmps76
  go_wp2
  go_end0
  exact ⟨rfl, rfl⟩
theorem hdmore_no (s : Nat) (hs : s = 256) (w : World) : Calls Try.prog 76 #[.int .i64 (s : Int)] w fun x w' => x = .panicked (wrongP 13) ∧ w' = w := by
  subst hs
  go_enter Try.func76, Try.ntmps76
  go_wp2
  exact ⟨rfl, rfl, rfl⟩

theorem Try.isWrong (v : Value) (w : World) : (Instr.typeAssert (.iface 85 v) 20 85 true).run Try.prog w = .ok (.tuple #[v, .bool true]) w := by kernel_rfl

theorem hddoor_idle (a b : Addr) (w : World) :
    CallsD Try.prog 64 #[.pointer (some a), .pointer (some b)] .returning w fun x u' w' => x = .returned (.tuple #[]) ∧ u' = .returning ∧ w' = w := by
  refine callsD_of_wpS Try.func64 rfl fun c₀ cs hu => ?_
  rw [show (#[Value.pointer (some a), Value.pointer (some b)] : Array Value) ++ Array.replicate (Try.f64.ntmps - (#[Value.pointer (some a), Value.pointer (some b)] : Array Value).size) undef = #[.pointer (some a), .pointer (some b), undef, undef, undef, undef, undef, undef, undef, undef, undef, undef, undef] from by rw [Try.ntmps64]; rfl]
  apply wpS_seq
  apply wpS_region
  simp [wpOpsS, go_sem, recoverD, hu, Exit.thenS]
  refine wpS_of_wp ?_
  go_wp2
  cases c₀
  simp_all [bodyPostS, results, Try.results64]

set_option maxRecDepth 20000 in
theorem hddoor_panics (g h : Nat) (t u : TypeId) (v e0 : Value) (e : Int) (w : World) (hg : Bx w g t v) (hh : Bx w h u e0) (hne : g ≠ h) :
    CallsD Try.prog 64 #[.pointer (some ⟨g, 0, none⟩), .pointer (some ⟨h, 0, none⟩)] (.panicking (wrongP e)) w fun x u' w' =>
      x = .returned (.tuple #[]) ∧ u' = .panicking [{ v := .iface 85 (.agg #[.int .i64 e]), recovered := true }] ∧ Bx w' g t (.slice none 0 0) ∧ Bx w' h u (.int .i64 e) ∧ Chg (fun k => k = g ∨ k = h) w w' := by
  refine callsD_of_wpS Try.func64 rfl fun c₀ cs hu => ?_
  unfold wrongP at hu
  rw [show (#[Value.pointer (some ⟨g, 0, none⟩), Value.pointer (some ⟨h, 0, none⟩)] : Array Value) ++ Array.replicate (Try.f64.ntmps - (#[Value.pointer (some ⟨g, 0, none⟩), Value.pointer (some ⟨h, 0, none⟩)] : Array Value).size) undef = #[.pointer (some ⟨g, 0, none⟩), .pointer (some ⟨h, 0, none⟩), undef, undef, undef, undef, undef, undef, undef, undef, undef, undef, undef] from by rw [Try.ntmps64]; rfl]
  have hc := Chg.alloc (fun _ => False) w (.cells #[.int .i64 e] 85)
  have n1 := Bx.new w 85 (.int .i64 e)
  have hwg := hg.lt; have hwh := hh.lt
  have g1 := hg.kept hc (by simp)
  have h1 := hh.kept hc (by simp)
  have s1 := Chg.setCell (w.alloc (.cells #[.int .i64 e] 85)) ⟨g, 0, none⟩ (.slice none 0 0)
  have s2 := Chg.setCell ((w.alloc (.cells #[.int .i64 e] 85)).setCell ⟨g, 0, none⟩ (.slice none 0 0)) ⟨h, 0, none⟩ (.int .i64 e)
  have g2 := g1.set (.slice none 0 0)
  have h2 := h1.kept s1 (fun hx => hne hx.symm)
  have n2 := n1.kept s1 (fun (hx : w.heap.size = g) => by omega)
  have C := Lib.hid (And.intro (g2.kept s2 hne) (And.intro (h2.set (.int .i64 e)) ((hc.mono fun _ _ h => h.elim : Chg (fun k => k = g ∨ k = h) _ _).trans ((s1.mono fun k _ hk => .inl hk : Chg (fun k => k = g ∨ k = h) _ _).trans (s2.mono fun k _ hk => .inr hk : Chg (fun k => k = g ∨ k = h) _ _) fun k _ hk => hk) fun k _ hk => hk)))
  have a1 := g1.cell; have a2 := g1.free; have b1 := h2.cell; have b2 := h2.free; have c1 := n1.cell; have c2 := n2.cell
  clear g1 h1 g2 h2 n1 n2 s1 s2 hc hg hh hne hwg hwh
  apply wpS_seq
  apply wpS_region
  simp [wpOpsS, go_sem, recoverD, hu, Exit.thenS]
  refine wpS_of_wp ?_
  have hty := Try.isWrong (.agg #[.int .i64 e])
  go_wp2
  go_region
  simp only [Exit.inBlock]
  change bodyPostS _ _ _ _ _ _ _ _ _
  refine ⟨rfl, _, rfl, .tuple #[], ?_, rfl, rfl, C.out.1, C.out.2.1, C.out.2.2.drew⟩
  simp [results, Try.results64]

end Go.Proofs.Ytllkfmnofklpmaa

/- What math/bits.Len64 and math/bits.Len tell of any number. -/
namespace Go.Proofs.Ytllkfmnofklpmaa
open Go.RowKit

theorem len_fin {x y c : Int} (b : Nat) (hc : c = (b : Int)) (hb : b ≤ 56) (hy : y.toNat = x.toNat / 2 ^ b) (hy1 : 1 ≤ y) (hy2 : y < 256) : wrap64 (c + wrap64 ((bitLen y.toNat : Nat) : Int)) = ((bitLen x.toNat : Nat) : Int) := by
  have h8 := bitLen_le8 y.toNat (by omega)
  have hs := bitLen_shift x.toNat b (by omega)
  rw [← hy] at hs
  rw [hs, hc]
  generalize bitLen y.toNat = l at *
  unfold wrap64
  omega

set_option maxRecDepth 100000 in
set_option maxHeartbeats 4000000 in
theorem len64_any (x : Int) (h0 : 0 ≤ x) (hx : x ≤ 18446744073709551615) (w : World) : Calls Try.prog 83 #[.int .u64 x] w fun e w' => e = .returned (.int .i64 (bitLen x.toNat : Int)) ∧ w' = w := by
  go_enter Try.func83, Try.ntmps83
  go_wp2
  all_goals rw [len8tab_get]
  all_goals go_ret
  all_goals refine ⟨congrArg (fun z => Ending.returned (Value.int .i64 z)) ?_, rfl⟩
  · exact len_fin 56 rfl (by decide) (by omega) (by omega) (by omega)
  · exact len_fin 48 rfl (by decide) (by omega) (by omega) (by omega)
  · exact len_fin 40 rfl (by decide) (by omega) (by omega) (by omega)
  · exact len_fin 32 rfl (by decide) (by omega) (by omega) (by omega)
  · exact len_fin 24 rfl (by decide) (by omega) (by omega) (by omega)
  · exact len_fin 16 rfl (by decide) (by omega) (by omega) (by omega)
  · exact len_fin 8 rfl (by decide) (by omega) (by omega) (by omega)
  · have h8 := bitLen_le8 x.toNat (by omega)
    generalize bitLen x.toNat = l at *
    unfold wrap64
    omega

theorem len_any (x : Int) (h0 : 0 ≤ x) (hx : x ≤ 18446744073709551615) (w : World) : Calls Try.prog 75 #[.int .u64 x] w fun e w' => e = .returned (.int .i64 (bitLen x.toNat : Int)) ∧ w' = w := by
  have H := fun w => len64_any x h0 hx w
  go_enter Try.func75, Try.ntmps75
  go_wp2_with fail
  refine (H _).mono ?_
  rintro e w' ⟨rfl, rfl⟩
  go_wp2
  go_ret
  exact ⟨rfl, rfl⟩

end Go.Proofs.Ytllkfmnofklpmaa

/- What logs' Floor, Ceil, Width and Pick tell. THIS ALONE SPEAKS OF THE PROGRAM'S OWN TEXT. -/
namespace Go.Proofs.Ytllkfmnofklpmaa
open Go.RowKit

theorem bitLen_width {n : Int} (h : 1 ≤ n) : bitLen n.toNat = widthI n := by
  unfold bitLen widthI
  rw [if_neg (by omega), if_neg (by omega)]

theorem lwidth_w (n : Int) (w : World) (hn : n ≤ 1099511627776) (hlo : -9223372036854775808 ≤ n) :
    Calls Try.prog 57 #[.int .i64 n] w fun e w' => e = .returned (.int .i64 ((widthI n : Nat) : Int)) ∧ w' = w := by
  by_cases h1 : n < 1
  · have hw := width_small h1
    go_enter Try.func57, Try.ntmps57
    go_wp2
    go_ret
    rw [hw]
    exact ⟨rfl, rfl⟩
  · have hw := bitLen_width (n := n) (by omega)
    have H := fun w => len_any n (by omega) (by omega) w
    have hm : n % 18446744073709551616 = n := by omega
    go_enter Try.func57, Try.ntmps57
    go_wp2_with fail
    refine (H _).mono ?_
    rintro e w' ⟨rfl, rfl⟩
    go_wp2
    go_ret
    exact ⟨rfl, rfl⟩

theorem lwidth_any (n : Int) (w : World) (hn : n ≤ 1099511627776) (hlo : -9223372036854775808 ≤ n) :
    Calls Try.prog 57 #[.int .i64 n] w fun e w' => e = .returned (.int .i64 ((widthI n : Nat) : Int)) ∧ Chg (fun _ => False) w w' :=
  (lwidth_w n w hn hlo).mono fun _ _ h => ⟨h.1, h.2 ▸ Chg.refl _ _⟩
theorem foldl_take_succ (a : Int) (zs : List Int) (k : Nat) (hk : k < zs.length) : (zs.take (k + 1)).foldl max a = max ((zs.take k).foldl max a) (zs.getD k 0) := by
  rw [List.take_add_one, List.foldl_append]
  simp [List.getElem?_eq_getElem hk]

end Go.Proofs.Ytllkfmnofklpmaa
