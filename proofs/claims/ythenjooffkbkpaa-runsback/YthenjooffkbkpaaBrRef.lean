/- What the document's own Bits, Number, Open and Take (puncheonref01, puncheonref02) tell. -/
import Derived.Test.YthenjooffkbkpaaBrSplits
import Derived.Test.YthenjooffkbkpaaBoolRow
namespace Go.Proofs.Ythenjooffkbkpaa
open Go.RowKit


/-- The value v is a slice of the bits bs; it is not nil. -/
def RdL (w : World) (v : Value) (g off : Nat) (bs : List Bool) : Prop :=
  ∃ cap, v = .slice (some ⟨g, off, none⟩) bs.length cap ∧ bs.length ≤ cap ∧ cap ≤ maxLen ∧ ∀ j (h : j < bs.length), w.cell? ⟨g, off + j, none⟩ = some (.bool bs[j])

theorem val_drop_succ (bs : List Bool) (j : Nat) (h : j < bs.length) : val (bs.drop j) = (bs[j]).toNat + 2 * val (bs.drop (j + 1)) := by
  rw [List.drop_eq_getElem_cons h]; rfl

set_option maxHeartbeats 1000000 in
theorem rnumber_any (v : Value) (g off : Nat) (bs : List Bool) (w : World) (h : RdL w v g off bs) (hl : bs.length ≤ 24) :
    Calls Try.prog 35 #[v] w fun e w' => e = .returned (.int .u32 ((val bs : Nat) : Int)) ∧ w' = w := by
  obtain ⟨cap, rfl, hcap, hcap2, hcell⟩ := h
  have HCELL := Lib.hid hcell
  clear hcell
  go_enter Try.func35, Try.ntmps35
  go_wp2
  go_loopw [3, 4] (fun o3 o4 wr => ∃ j : Nat, j ≤ bs.length ∧ o4 = .int .i64 ((j : Int) - 1) ∧ o3 = .int .u32 ((val (bs.drop j) : Nat) : Int) ∧ wr = w) (fun _ o4 _ => (intOf o4 + 1).toNat)
  case atStart => exact ⟨bs.length, Nat.le_refl _, rfl, by simp [val], rfl⟩
  case round =>
    obtain ⟨j, hj, rfl, rfl, rfl⟩ := hrel
    rcases j with _ | j
    · go_wp2
      go_ret
      exact ⟨rfl, rfl⟩
    · have hij : (((j + 1 : Nat) : Int) - 1) = (j : Int) := by omega
      rw [hij]
      have hc := HCELL.out j (by omega)
      have hv := val_drop_succ bs j (by omega)
      have hb := val_lt (bs.drop (j + 1))
      have hb2 : 2 ^ (bs.drop (j + 1)).length ≤ 2 ^ 23 := Nat.pow_le_pow_right (by omega) (by rw [List.length_drop]; omega)
      obtain ⟨y, hy⟩ : ∃ y, val (bs.drop (j + 1)) = y := ⟨_, rfl⟩
      have hy2 : y < 8388608 := by rw [← hy]; omega
      rw [hy] at hv ⊢
      have HV := Lib.hid hv
      clear hv hb hb2 hy hij
      cases hbj : bs[j]
      · rw [hbj] at hc HV
        clear hbj
        go_wp2
        go_roundw
        case rel => exact ⟨j, by omega, rfl, by rw [HV.out]; simp <;> omega, trivial⟩
        case measure => simp [intOf]
      · rw [hbj] at hc HV
        clear hbj
        go_wp2
        go_roundw
        case rel => exact ⟨j, by omega, rfl, by rw [HV.out]; simp <;> omega, trivial⟩
        case measure => simp [intOf]

theorem bitsB_take_succ (xs : List Nat) (k : Nat) (h : k < xs.length) : bitsB (xs.take (k + 1)) = bitsB (xs.take k) ++ bitsOf (xs.getD k 0) 8 := by
  rw [List.take_succ_eq_append_getElem h, bitsB_append, List.getD_eq_getElem?_getD, List.getElem?_eq_getElem h]
  simp [bitsB]

theorem and_one_u8 : ∀ x : Nat, x < 256 → ∀ k : Nat, k < 8 → (bits BinOp.and IntKind.u8 ((x : Int) / 2 ^ k) 1 == 1) = decide (x / 2 ^ k % 2 = 1) := by decide +kernel

set_option maxRecDepth 20000 in
set_option maxHeartbeats 2000000 in
theorem rbits_any (v : Value) (xs : List Nat) (w : World) (h : RdB w v xs) (hx : ∀ x ∈ xs, x < 256) (hl : xs.length ≤ 1000000) :
    Calls Try.prog 24 #[v] w fun e w' => ∃ v', e = .returned v' ∧ w'.ownsRow w.heap.size 4 1 v' (bitsB xs).length (bl (bitsB xs)) ∧ Chg (fun _ => False) w w' := by
  obtain ⟨ao, cap, hv⟩ := h.form
  subst hv
  obtain ⟨i, hi, hz0, hz1, hz2⟩ := info_parts Try.infoBool
  have H := Lib.hid h; have HX := Lib.hid hx
  clear h hx
  go_enter Try.func24, Try.ntmps24
  go_wp2
  go_loopw [3, 4] (fun o3 o4 wr => ∃ k : Nat, k ≤ xs.length ∧ o4 = .int .i64 (k : Int) ∧ wr.ownsRow w.heap.size 4 1 o3 (8 * k) (bl (bitsB (xs.take k))) ∧ Chg (fun _ => False) w wr) (fun _ o4 _ => xs.length - (intOf o4).toNat)
  case atStart => exact ⟨0, Nat.zero_le _, rfl, by simpa [bitsB, bl] using World.ownsRow_nil w w.heap.size 4 1, Chg.refl _ _⟩
  case round =>
    obtain ⟨k, hk, rfl, ho, hc⟩ := hrel
    by_cases hlt : k < xs.length
    · obtain ⟨wa, hwa⟩ : ∃ wa, wa = wr := ⟨_, rfl⟩
      subst hwa
      obtain ⟨g, off, cap', hvv, hcc⟩ : ∃ g off cap', Value.slice ao xs.length cap = .slice (some ⟨g, off, none⟩) xs.length cap' ∧ ∀ j, j < xs.length → w.cell? ⟨g, off + j, none⟩ = some (.int .u8 ((xs.getD j 0 : Nat) : Int)) := by
        rcases H.out with ⟨h0, _⟩ | h
        · rw [h0] at hlt; simp at hlt
        · exact h
      simp only [Value.slice.injEq, true_and] at hvv
      obtain ⟨rfl, rfl⟩ := hvv
      have hcell := hcc k hlt
      obtain ⟨x, hxk⟩ : ∃ x, xs.getD k 0 = x := ⟨_, rfl⟩
      have hxl : x < 256 := by rw [← hxk]; exact getD_lt xs HX.out k
      have hsu := bitsB_take_succ xs k hlt
      rw [hxk] at hcell hsu
      have hlen : (bitsB (xs.take k)).length = 8 * k := by rw [bitsB_length, List.length_take, Nat.min_eq_left (by omega)]
      obtain ⟨A, hA⟩ : ∃ A, bitsB (xs.take k) = A := ⟨_, rfl⟩
      rw [hA] at hsu ho hlen
      have HSU := Lib.hid hsu; have HLEN := Lib.hid hlen
      clear hsu hxk hA hcc hlen
      go_wp2
      go_loopw [3, 5] (fun o3 o5 wr => ∃ m : Nat, m ≤ 8 ∧ o5 = .int .i64 (m : Int) ∧ wr.ownsRow w.heap.size 4 1 o3 (8 * k + m) (bl (A ++ bitsOf x m)) ∧ Chg (fun _ => False) w wr) (fun _ o5 _ => 8 - (intOf o5).toNat)
      case atStart => exact ⟨0, Nat.zero_le _, rfl, by simpa [bitsOf] using ho, hc⟩
      case round =>
        obtain ⟨m, hm, rfl, ho2, hc2⟩ := hrel
        clear ho hc
        by_cases hm8 : m < 8
        · have hc3 : wr.cell? ⟨g, off + k, none⟩ = some (.int .u8 (x : Int)) := by
            rw [World.cell?_of_block (w := w) (a := ⟨g, off + k, none⟩) (hc2.block g (block_lt_of_cell hcell) (by simp))]; exact hcell
          have hbit := and_one_u8 x hxl m hm8
          have hsn : bl (A ++ bitsOf x m) ++ [.bool (decide (x / 2 ^ m % 2 = 1))] = bl (A ++ bitsOf x (m + 1)) := by simp [bl, bitsOf]
          have HBit := Lib.hid hbit; have HSN := Lib.hid hsn
          have hsz := hc2.size
          clear hbit hsn
          go_wp2_with (at_builtin; refine wpList_append_own _ rfl (.tmp 16) (.tmp 25) 26 rfl w.heap.size 4 i (.bool false) 1 1 Try.underlying26 hi hz0 hz1 hz2 rfl (by decide) _ (8 * k + m) _ rfl (ho2.alloc _) ⟨wr.heap.size, 0, none⟩ 1 1 _ rfl rfl (cell_one_new _ _ _) ?_ (by unfold maxLen; omega) (by omega) (by simp; omega) ?_)
          · intro x hx; simp at hx; subst hx; rfl
          intro v' w1 ho1 hg1 _
          have hc1 : Chg (fun _ => False) w w1 := (hc2.trans (Chg.alloc (fun _ => False) wr _) (fun _ _ h => h)).trans (Chg.of_grown hg1) (fun j hj hx => by have := (ho2.lt j hx.symm).1; omega)
          rw [HBit.out, HSN.out] at ho1
          clear hg1 ho2 hc2 hc3
          go_wp2
          go_roundw
          case rel => exact ⟨m + 1, by omega, by go_num, ho1, hc1⟩
          case measure => simp [intOf]; omega
        · obtain rfl : m = 8 := by omega
          rw [← HSU.out] at ho2
          go_wp2
          go_roundw
          case rel => exact ⟨k + 1, by omega, by go_num, by rw [show 8 * (k + 1) = 8 * k + 8 from by omega]; exact ho2, hc2⟩
          case measure => simp [intOf]; omega
    · obtain rfl : k = xs.length := by omega
      rw [List.take_length] at ho
      go_wp2
      go_ret
      exact ⟨_, rfl, by rw [bitsB_length]; exact ho, hc⟩

theorem RdL.kept {S : Nat → Prop} {w w' : World} {v : Value} {g off : Nat} {bs : List Bool} (h : RdL w v g off bs) (hc : Chg S w w') (hS : ¬ S g) : RdL w' v g off bs := by
  obtain ⟨cap, hv, h1, h2, hcell⟩ := h
  refine ⟨cap, hv, h1, h2, fun j hj => ?_⟩
  have := hcell j hj
  have hlt : g < w.heap.size := block_lt_of_cell this
  rw [World.cell?_of_block (w := w) (a := ⟨g, off + j, none⟩) (hc.block g hlt hS)]; exact this

theorem takeR_get (bs : List Bool) (n j : Nat) (h : j < (takeR bs n).length) : (takeR bs n)[j] = bs[j]'(by rw [takeR_length] at h; omega) := by
  unfold takeR at h ⊢
  exact List.getElem_take

end Go.Proofs.Ythenjooffkbkpaa
