/- What the document's own Bits, Number, Open and Take (puncheonref01, puncheonref02) tell. -/
import Derived.Test.YtdejfoemofhpdaaBrSplits
namespace Go.Proofs.Ytdejfoemofhpdaa
open Go.RowKit

def bl (bs : List Bool) : List Value := bs.map Value.bool
theorem bl_length (bs : List Bool) : (bl bs).length = bs.length := by simp [bl]
theorem bl_get (bs : List Bool) (i : Nat) (h : i < bs.length) : (bl bs)[i]? = some (.bool bs[i]) := by simp [bl, List.getElem?_eq_getElem h]
theorem Try.infoBool : (Try.prog.info? 4).map (fun i => (i.zero, i.size, i.bytes)) = some (some (.bool false), 1, 1) := by kernel_rfl

/-- The value v is a slice of the bits bs; it is not nil. -/
def RdL (w : World) (v : Value) (g off : Nat) (bs : List Bool) : Prop :=
  ∃ cap, v = .slice (some ⟨g, off, none⟩) bs.length cap ∧ bs.length ≤ cap ∧ cap ≤ maxLen ∧ ∀ j (h : j < bs.length), w.cell? ⟨g, off + j, none⟩ = some (.bool bs[j])

theorem val_drop_succ (bs : List Bool) (j : Nat) (h : j < bs.length) : val (bs.drop j) = (bs[j]).toNat + 2 * val (bs.drop (j + 1)) := by
  rw [List.drop_eq_getElem_cons h]; rfl

set_option maxHeartbeats 1000000 in
theorem rnumber_any (v : Value) (g off : Nat) (bs : List Bool) (w : World) (h : RdL w v g off bs) (hl : bs.length ≤ 24) :
    Calls Try.prog 22 #[v] w fun e w' => e = .returned (.int .u32 ((val bs : Nat) : Int)) ∧ w' = w := by
  obtain ⟨cap, rfl, hcap, hcap2, hcell⟩ := h
  have HCELL := Lib.hid hcell
  clear hcell
  go_enter Try.func22, Try.ntmps22
  go_wp2
  go_loopw [3, 4] (fun o3 o4 wr => ∃ j : Nat, j ≤ bs.length ∧ o4 = .int .i64 ((j : Int) - 1) ∧ o3 = .int .u32 ((val (bs.drop j) : Nat) : Int) ∧ wr = w) (fun _ o4 _ => (intOf o4 + 1).toNat)
  case atStart => exact ⟨bs.length, Nat.le_refl _, rfl, by simp [val], rfl⟩
  case round =>
    obtain ⟨j, hj, rfl, rfl, rfl⟩ := hrel
    rcases j with _ | j
    · go_wp2
      go_ret
      exact ⟨rfl, rfl⟩
    · have hij : (((j + 1 : Nat) : Int) - 1) = (j : Int) := by omega
      rw [hij]
      have hc := HCELL.out j (by omega)
      have hv := val_drop_succ bs j (by omega)
      have hb := val_lt (bs.drop (j + 1))
      have hb2 : 2 ^ (bs.drop (j + 1)).length ≤ 2 ^ 23 := Nat.pow_le_pow_right (by omega) (by rw [List.length_drop]; omega)
      obtain ⟨y, hy⟩ : ∃ y, val (bs.drop (j + 1)) = y := ⟨_, rfl⟩
      have hy2 : y < 8388608 := by rw [← hy]; omega
      rw [hy] at hv ⊢
      have HV := Lib.hid hv
      clear hv hb hb2 hy hij
      cases hbj : bs[j]
      · rw [hbj] at hc HV
        clear hbj
        go_wp2
        go_roundw
        case rel => exact ⟨j, by omega, rfl, by rw [HV.out]; simp <;> omega, trivial⟩
        case measure => simp [intOf]
      · rw [hbj] at hc HV
        clear hbj
        go_wp2
        go_roundw
        case rel => exact ⟨j, by omega, rfl, by rw [HV.out]; simp <;> omega, trivial⟩
        case measure => simp [intOf]

theorem bitsB_take_succ (xs : List Nat) (k : Nat) (h : k < xs.length) : bitsB (xs.take (k + 1)) = bitsB (xs.take k) ++ bitsOf (xs.getD k 0) 8 := by
  rw [List.take_succ_eq_append_getElem h, bitsB_append, List.getD_eq_getElem?_getD, List.getElem?_eq_getElem h]
  simp [bitsB]

theorem and_one_u8 : ∀ x : Nat, x < 256 → ∀ k : Nat, k < 8 → (bits BinOp.and IntKind.u8 ((x : Int) / 2 ^ k) 1 == 1) = decide (x / 2 ^ k % 2 = 1) := by decide +kernel

set_option maxHeartbeats 2000000 in
theorem rbits_any (v : Value) (xs : List Nat) (w : World) (h : RdB w v xs) (hx : ∀ x ∈ xs, x < 256) (hl : xs.length ≤ 1000000) :
    Calls Try.prog 20 #[v] w fun e w' => ∃ v', e = .returned v' ∧ w'.ownsRow w.heap.size 4 1 v' (bitsB xs).length (bl (bitsB xs)) ∧ Chg (fun _ => False) w w' := by
  obtain ⟨ao, cap, hv⟩ := h.form
  subst hv
  obtain ⟨i, hi, hz0, hz1, hz2⟩ := info_parts Try.infoBool
  have H := Lib.hid h; have HX := Lib.hid hx
  clear h hx
  go_enter Try.func20, Try.ntmps20
  go_wp2
  go_loopw [3, 4] (fun o3 o4 wr => ∃ k : Nat, k ≤ xs.length ∧ o4 = .int .i64 (k : Int) ∧ wr.ownsRow w.heap.size 4 1 o3 (8 * k) (bl (bitsB (xs.take k))) ∧ Chg (fun _ => False) w wr) (fun _ o4 _ => xs.length - (intOf o4).toNat)
  case atStart => exact ⟨0, Nat.zero_le _, rfl, by simpa [bitsB, bl] using World.ownsRow_nil w w.heap.size 4 1, Chg.refl _ _⟩
  case round =>
    obtain ⟨k, hk, rfl, ho, hc⟩ := hrel
    by_cases hlt : k < xs.length
    · obtain ⟨wa, hwa⟩ : ∃ wa, wa = wr := ⟨_, rfl⟩
      subst hwa
      obtain ⟨g, off, cap', hvv, hcc⟩ : ∃ g off cap', Value.slice ao xs.length cap = .slice (some ⟨g, off, none⟩) xs.length cap' ∧ ∀ j, j < xs.length → w.cell? ⟨g, off + j, none⟩ = some (.int .u8 ((xs.getD j 0 : Nat) : Int)) := by
        rcases H.out with ⟨h0, _⟩ | h
        · rw [h0] at hlt; simp at hlt
        · exact h
      simp only [Value.slice.injEq, true_and] at hvv
      obtain ⟨rfl, rfl⟩ := hvv
      have hcell := hcc k hlt
      obtain ⟨x, hxk⟩ : ∃ x, xs.getD k 0 = x := ⟨_, rfl⟩
      have hxl : x < 256 := by rw [← hxk]; exact getD_lt xs HX.out k
      have hsu := bitsB_take_succ xs k hlt
      rw [hxk] at hcell hsu
      have hlen : (bitsB (xs.take k)).length = 8 * k := by rw [bitsB_length, List.length_take, Nat.min_eq_left (by omega)]
      obtain ⟨A, hA⟩ : ∃ A, bitsB (xs.take k) = A := ⟨_, rfl⟩
      rw [hA] at hsu ho hlen
      have HSU := Lib.hid hsu; have HLEN := Lib.hid hlen
      clear hsu hxk hA hcc hlen
      go_wp2
      go_loopw [3, 5] (fun o3 o5 wr => ∃ m : Nat, m ≤ 8 ∧ o5 = .int .i64 (m : Int) ∧ wr.ownsRow w.heap.size 4 1 o3 (8 * k + m) (bl (A ++ bitsOf x m)) ∧ Chg (fun _ => False) w wr) (fun _ o5 _ => 8 - (intOf o5).toNat)
      case atStart => exact ⟨0, Nat.zero_le _, rfl, by simpa [bitsOf] using ho, hc⟩
      case round =>
        obtain ⟨m, hm, rfl, ho2, hc2⟩ := hrel
        clear ho hc
        by_cases hm8 : m < 8
        · have hc3 : wr.cell? ⟨g, off + k, none⟩ = some (.int .u8 (x : Int)) := by
            rw [World.cell?_of_block (w := w) (a := ⟨g, off + k, none⟩) (hc2.block g (block_lt_of_cell hcell) (by simp))]; exact hcell
          have hbit := and_one_u8 x hxl m hm8
          have hsn : bl (A ++ bitsOf x m) ++ [.bool (decide (x / 2 ^ m % 2 = 1))] = bl (A ++ bitsOf x (m + 1)) := by simp [bl, bitsOf]
          have HBit := Lib.hid hbit; have HSN := Lib.hid hsn
          have hsz := hc2.size
          clear hbit hsn
          go_wp2_with (at_builtin; refine wpList_append_own _ rfl (.tmp 16) (.tmp 25) 29 rfl w.heap.size 4 i (.bool false) 1 1 Try.underlying29 hi hz0 hz1 hz2 rfl (by decide) _ (8 * k + m) _ rfl (ho2.alloc _) ⟨wr.heap.size, 0, none⟩ 1 1 _ rfl rfl (cell_one_new _ _ _) ?_ (by unfold maxLen; omega) (by omega) (by simp; omega) ?_)
          · intro x hx; simp at hx; subst hx; rfl
          intro v' w1 ho1 hg1 _
          have hc1 : Chg (fun _ => False) w w1 := (hc2.trans (Chg.alloc (fun _ => False) wr _) (fun _ _ h => h)).trans (Chg.of_grown hg1) (fun j hj hx => by have := (ho2.lt j hx.symm).1; omega)
          rw [HBit.out, HSN.out] at ho1
          clear hg1 ho2 hc2 hc3
          go_wp2
          go_roundw
          case rel => exact ⟨m + 1, by omega, by go_num, ho1, hc1⟩
          case measure => simp [intOf]; omega
        · obtain rfl : m = 8 := by omega
          rw [← HSU.out] at ho2
          go_wp2
          go_roundw
          case rel => exact ⟨k + 1, by omega, by go_num, by rw [show 8 * (k + 1) = 8 * k + 8 from by omega]; exact ho2, hc2⟩
          case measure => simp [intOf]; omega
    · obtain rfl : k = xs.length := by omega
      rw [List.take_length] at ho
      go_wp2
      go_ret
      exact ⟨_, rfl, by rw [bitsB_length]; exact ho, hc⟩

theorem ropen_no (v : Value) (xs : List Nat) (w : World) (h : RdB w v xs) (hm : ¬ Marked xs) (hl : xs.length < 100000000000) :
    Calls Try.prog 10 #[v] w fun e w' => e = .returned (.tuple #[.slice none 0 0, .int .i64 2]) ∧ w = w' := by
  by_cases h0 : xs = []
  · obtain ⟨ao, cap, rfl⟩ : ∃ ao cap, v = .slice ao 0 cap := by
      rcases h with ⟨_, ao, c, rfl⟩ | ⟨g, off, cap, rfl, _⟩
      · exact ⟨ao, c, rfl⟩
      · exact ⟨_, cap, by rw [h0]; rfl⟩
    clear h
    go_enter Try.func10, Try.ntmps10
    go_wp2
    go_ret2
    exact ⟨rfl, rfl⟩
  · have hn : 0 < xs.length := List.length_pos_iff.2 h0
    have hz : xs.getD (xs.length - 1) 0 = 0 := by
      unfold Marked at hm
      exact Decidable.byContradiction fun hc => hm ⟨h0, hc⟩
    rcases h with ⟨h', _⟩ | ⟨g, off, cap, rfl, hc⟩
    · exact absurd h' h0
    obtain ⟨m, hm'⟩ : ∃ m, xs.length = m + 1 := ⟨xs.length - 1, by omega⟩
    have hcell := hc m (by omega)
    rw [hm', Nat.add_sub_cancel] at hz
    rw [hz] at hcell
    rw [hm'] at hl ⊢
    clear hc h0 hm hz
    go_enter Try.func10, Try.ntmps10
    go_wp2
    go_ret2
    exact ⟨rfl, rfl⟩

theorem RdL.kept {S : Nat → Prop} {w w' : World} {v : Value} {g off : Nat} {bs : List Bool} (h : RdL w v g off bs) (hc : Chg S w w') (hS : ¬ S g) : RdL w' v g off bs := by
  obtain ⟨cap, hv, h1, h2, hcell⟩ := h
  refine ⟨cap, hv, h1, h2, fun j hj => ?_⟩
  have := hcell j hj
  have hlt : g < w.heap.size := block_lt_of_cell this
  rw [World.cell?_of_block (w := w) (a := ⟨g, off + j, none⟩) (hc.block g hlt hS)]; exact this

set_option maxHeartbeats 2000000 in
theorem ropen_ok (v : Value) (xs : List Nat) (w : World) (h : RdB w v xs) (hm : Marked xs) (hl : xs.length ≤ 1000000) (hx : ∀ x ∈ xs, x < 256) :
    Calls Try.prog 10 #[v] w fun e w' => ∃ v' g, e = .returned (.tuple #[v', .int .i64 0]) ∧ RdL w' v' g 0 (openB xs) ∧ w.heap.size ≤ g ∧ Chg (fun _ => False) w w' := by
  have H := Lib.hid h; have HX := Lib.hid hx
  rcases h with ⟨h', _⟩ | ⟨g, off, cap, rfl, hc⟩
  · exact absurd h' hm.1
  have hsp := mark_split xs hx hm.1 hm.2
  have hlen := openB_length xs hx hm.1 hm.2
  have hmp := markPos_lt xs hx hm.1 hm.2
  have hnz : xs.getD (xs.length - 1) 0 ≠ 0 := hm.2
  obtain ⟨m, hm'⟩ : ∃ m, xs.length = m + 1 := ⟨xs.length - 1, by omega⟩
  have hml : m < 1000000 := by omega
  have hcell := hc m (by omega)
  rw [hm', Nat.add_sub_cancel] at hnz
  obtain ⟨x, hxm⟩ : ∃ x, xs.getD m 0 = x := ⟨_, rfl⟩
  rw [hxm] at hcell hnz
  have hne : ((x : Int) == 0) = false := by rw [beq_eq_false_iff_ne]; omega
  have hbl : (bitsB xs).length = 8 * (m + 1) := by rw [bitsB_length, hm']
  obtain ⟨M, hM⟩ : ∃ M, markPos xs = M := ⟨_, rfl⟩
  rw [hM, hm'] at hmp hsp
  rw [hM] at hlen
  have hMk : (bitsB xs)[M]? = some true := by rw [hsp, List.getElem?_append_right (by omega), hlen]; simp
  have hMz : ∀ j, M < j → j < 8 * (m + 1) → (bitsB xs)[j]? = some false := by
    intro j h1 h2
    rw [hsp, List.getElem?_append_right (by omega), hlen, show j - M = (j - M - 1) + 1 from by omega, List.getElem?_cons_succ, List.getElem?_replicate, if_pos (by omega)]
  have hop : openB xs = (bitsB xs).take M := by unfold openB; rw [hM]
  have HOP := Lib.hid hop; have HMK := Lib.hid hMk; have HMZ := Lib.hid hMz; have HMP := Lib.hid hmp; have HLEN := Lib.hid hlen; have HBL := Lib.hid hbl; have HM' := Lib.hid hm'
  clear hop hMk hMz hmp hlen hbl hsp hM hx hc hxm
  rw [hm'] at H ⊢
  clear hm' hm
  go_enter Try.func10, Try.ntmps10
  go_wp2_with fail
  refine (rbits_any _ xs w H.out HX.out hl).mono ?_
  rintro e w1 ⟨v1, rfl, ho, hc1⟩
  rw [HBL.out] at ho
  obtain ⟨gl, capl, hv1, hgl⟩ := slice_of_own ho (by omega)
  subst hv1
  have HCAP : Hid (8 * (m + 1) ≤ capl ∧ capl ≤ maxLen) := by
    rcases ho.2 with ⟨hx, _⟩ | ⟨g', cap', cur, hx, _, _, h1, h2, _⟩
    · simp at hx
    · simp only [Value.slice.injEq, Option.some.injEq, Addr.mk.injEq, and_true, true_and] at hx
      obtain ⟨rfl, rfl⟩ := hx
      exact Lib.hid ⟨h1, h2⟩
  have HCELL : Hid (∀ j, j < 8 * (m + 1) → w1.cell? ⟨gl, j, none⟩ = (bl (bitsB xs))[j]?) := Lib.hid (fun j hj => ho.cellAt j (by omega))
  have HBG : Hid (∀ (j : Nat) (b : Bool), (bitsB xs)[j]? = some b → (bl (bitsB xs))[j]? = some (.bool b)) := by
    refine Lib.hid fun j b hb => ?_
    simp [bl, hb]
  clear ho
  have hmp := HMP.out
  go_wp2
  go_loopw [5] (fun o5 wr => ∃ j : Nat, M ≤ j ∧ j < 8 * (m + 1) ∧ o5 = .int .i64 (j : Int) ∧ wr = w1) (fun o5 _ => (intOf o5).toNat)
  case atStart => exact ⟨8 * m + 7, by omega, by omega, by go_num, rfl⟩
  case round =>
    obtain ⟨j, hj, hj8, rfl, rfl⟩ := hrel
    by_cases hjm : j = M
    · subst hjm
      have hce := HCELL.out j hj8
      rw [HBG.out j true HMK.out] at hce
      have hcap := HCAP.out
      have hjc : j ≤ capl := by omega
      go_wp2
      go_ret2
      refine ⟨.slice (some ⟨gl, 0, none⟩) j capl, gl, rfl, ⟨capl, ?_, ?_, hcap.2, ?_⟩, hgl, hc1⟩
      · rw [HLEN.out]
      · rw [HLEN.out]; exact hjc
      · intro q hq
        rw [HLEN.out] at hq
        rw [Nat.zero_add, HCELL.out q (by omega)]
        refine HBG.out q _ ?_
        have e : (openB xs)[q]? = (bitsB xs)[q]? := by rw [HOP.out, List.getElem?_take, if_pos hq]
        rw [← e, List.getElem?_eq_getElem]
    · have hce := HCELL.out j hj8
      rw [HBG.out j false (HMZ.out j (by omega) hj8)] at hce
      go_wp2
      go_roundw
      case rel => exact ⟨j - 1, by omega, by omega, by go_num, trivial⟩
      case measure => simp [intOf]; omega

set_option maxHeartbeats 1000000 in
theorem rtake_no (v : Value) (g off : Nat) (bs : List Bool) (n : Int) (w : World) (h : RdL w v g off bs) (hn : n < 0 ∨ 24 < n ∨ (bs.length : Int) < n) :
    Calls Try.prog 12 #[v, .int .i64 n] w fun e w' => e = .returned (.tuple #[v, .int .u32 0, .bool false]) ∧ w = w' := by
  obtain ⟨cap, rfl, -, -, -⟩ := h
  by_cases h0 : n < 0
  · have h0' : decide (n < 0) = true := by simpa using h0
    go_enter Try.func12, Try.ntmps12
    go_wp2
    go_ret3
    exact ⟨rfl, rfl⟩
  · have h0' : decide (n < 0) = false := by simpa using h0
    by_cases h1 : 24 < n
    · have h1' : decide (24 < n) = true := by simpa using h1
      go_enter Try.func12, Try.ntmps12
      go_wp2
      go_ret3
      exact ⟨rfl, rfl⟩
    · have h1' : decide (24 < n) = false := by simpa using h1
      have h2' : decide ((bs.length : Int) < n) = true := by simp; omega
      go_enter Try.func12, Try.ntmps12
      go_wp2
      go_ret3
      exact ⟨rfl, rfl⟩

theorem takeR_get (bs : List Bool) (n j : Nat) (h : j < (takeR bs n).length) : (takeR bs n)[j] = bs[j]'(by rw [takeR_length] at h; omega) := by
  unfold takeR at h ⊢
  exact List.getElem_take

set_option maxHeartbeats 1000000 in
theorem rtake_yes (v : Value) (g off : Nat) (bs : List Bool) (n : Nat) (w : World) (h : RdL w v g off bs) (hn : n ≤ 24) (hnl : n ≤ bs.length) :
    Calls Try.prog 12 #[v, .int .i64 (n : Int)] w fun e w' => ∃ v', e = .returned (.tuple #[v', .int .u32 ((takeV bs n : Nat) : Int), .bool true]) ∧ RdL w' v' g off (takeR bs n) ∧ Chg (fun _ => False) w w' := by
  obtain ⟨cap, rfl, hcap, hmax, hcell⟩ := h
  obtain ⟨m, hm⟩ : ∃ m, bs.length = m + n := ⟨bs.length - n, by omega⟩
  have h0' : decide ((n : Int) < 0) = false := by simp
  have h1' : decide (24 < (n : Int)) = false := by simp; omega
  have h2' : decide ((bs.length : Int) < (n : Int)) = false := by simp; omega
  have hmc : m ≤ cap := by omega
  have hk : (bs.length : Int) - (n : Int) = (m : Int) := by omega
  have hml : m ≤ bs.length := by omega
  have c0 : (0 : Int) ≤ (m : Int) := by omega
  have c1 : (m : Int) ≤ (cap : Int) := by omega
  have c2 : (m : Int) ≤ (bs.length : Int) := by omega
  have c3 : (m : Int) ≤ 9223372036854775807 := by unfold maxLen at hmax; omega
  have HM := Lib.hid hm; have HCELL := Lib.hid hcell
  clear hm hcell
  by_cases hcm : cap = m
  · have hm2 := HM.out
    obtain rfl : n = 0 := by omega
    obtain rfl : cap = bs.length := by omega
    have HRD : Hid (RdL w (.slice (some ⟨g, off, none⟩) 0 0) g off []) := Lib.hid ⟨0, rfl, Nat.le_refl _, by omega, fun j hj => by simp at hj⟩
    subst hcm
    clear hm2 HM
    go_enter Try.func12, Try.ntmps12
    go_wp2
    go_quiet (first | (go_at_call 22; refine Calls.quiet_of_same (rnumber_any _ g _ [] _ HRD.out (by decide))))
    go_wp2
    go_ret3
    refine ⟨.slice (some ⟨g, off, none⟩) bs.length bs.length, ?_, ⟨bs.length, ?_, ?_, hmax, fun j hj => ?_⟩, (Chg.refl _ _).drewN nq⟩
    · unfold takeV; simp [val]
    · rw [takeR_length]; simp
    · rw [takeR_length]; omega
    · rw [takeR_length] at hj
      have e := HCELL.out j (by omega)
      show w.cell? ⟨g, off + j, none⟩ = _
      rw [e, takeR_get]
  · have hm2 := HM.out
    have hrd : RdL w (.slice (some ⟨g, off + m, none⟩) (bs.length - m) (cap - m)) g (off + m) (bs.drop m) := by
      refine ⟨(cap - m), by simp, by simp; omega, by omega, fun j hj => ?_⟩
      rw [List.length_drop] at hj
      rw [Nat.add_assoc, HCELL.out (m + j) (by omega), List.getElem_drop]
    have HRD := Lib.hid hrd
    clear hrd hm2
    go_enter Try.func12, Try.ntmps12
    go_wp2
    go_quiet (first | (go_at_call 22; refine Calls.quiet_of_same (rnumber_any _ g _ (bs.drop m) _ HRD.out (by rw [List.length_drop]; have := HM.out; omega))))
    go_wp2
    go_ret3
    have hm := HM.out
    refine ⟨.slice (some ⟨g, off, none⟩) m cap, ?_, ⟨cap, ?_, ?_, hmax, fun j hj => ?_⟩, (Chg.refl _ _).drewN nq⟩
    · unfold takeV; rw [show bs.length - n = m from by omega]; rfl
    · rw [takeR_length, show bs.length - n = m from by omega]
    · rw [takeR_length]; omega
    · rw [takeR_length] at hj
      have e := HCELL.out j (by omega)
      show w.cell? ⟨g, off + j, none⟩ = _
      rw [e, takeR_get]

end Go.Proofs.Ytdejfoemofhpdaa
