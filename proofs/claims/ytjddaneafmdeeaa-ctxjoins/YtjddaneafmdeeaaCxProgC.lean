/- What ctx's Widest tells. THIS ALONE SPEAKS OF THE PROGRAM'S OWN TEXT. -/
import Derived.Test.YtjddaneafmdeeaaCxProg
import Derived.Test.YtjddaneafmdeeaaCxMathC
import Derived.Test.YtjddaneafmdeeaaCxZero
namespace Go.Proofs.Ytjddaneafmdeeaa
open Go.RowKit

set_option maxHeartbeats 2000000 in
set_option maxRecDepth 100000 in
theorem xwidest_any (v : Value) (xs : List Nat) (w : World) (h : RdB w v xs) (hx : ∀ x ∈ xs, x < 256) (hl : xs.length < 1000000) :
    Calls Try.prog 16 #[v] w fun e w' => e = .returned (.int .i64 ((widest xs : Nat) : Int)) ∧ Chg (fun _ => False) w w' := by
  obtain ⟨ao, cap, rfl⟩ := h.form
  have H := Lib.hid h; have HX := Lib.hid hx
  clear h hx
  obtain ⟨Z, hZ, hzero⟩ := zeroSeen
  obtain ⟨Y, hY, hzeroY⟩ := zeroCounts
  have hsz : Z = bl (List.replicate 65536 false) := by rw [hZ, dbl_rep, bl_rep]
  have h0 : RowT (w.alloc (.cells Z.toArray 41)) w.heap.size 41 (List.replicate 65536 false) := by
    unfold RowT; rw [← hsz]; exact heap_alloc_new w _
  have c0 := Chg.alloc (fun _ => False) w (.cells Z.toArray 41)
  have z0 : (w.alloc (.cells Z.toArray 41)).heap.size = w.heap.size + 1 := by simp
  obtain ⟨W0, hW0⟩ : ∃ W0, w.alloc (.cells Z.toArray 41) = W0 := ⟨_, rfl⟩
  rw [hW0] at h0 c0 z0
  have h1 : RowI (W0.alloc (.cells Y.toArray 42)) W0.heap.size 42 (List.replicate 256 0) := by
    unfold RowI; rw [← hY]; exact heap_alloc_new W0 _
  have c1 := Chg.alloc (fun _ => False) W0 (.cells Y.toArray 42)
  have h0' := h0.kept c1 (by simp)
  have c01 := c0.trans c1 (fun _ _ h => h)
  obtain ⟨W1, hW1⟩ : ∃ W1, W0.alloc (.cells Y.toArray 42) = W1 := ⟨_, rfl⟩
  rw [hW1] at h1 h0' c01
  obtain ⟨gm, hgm⟩ : ∃ gm, W0.heap.size = gm := ⟨_, rfl⟩
  obtain ⟨gs, hgs⟩ : ∃ gs, w.heap.size = gs := ⟨_, rfl⟩
  rw [hgm] at h1 z0
  rw [hgs] at h0' z0
  have hsn : SeenOk (xs.take 0) (List.replicate 65536 false) := by
    rw [List.take_zero]
    exact SeenOk.nil List.length_replicate fun j hj => by rw [List.getD_eq_getElem?_getD, List.getElem?_replicate, if_pos hj]; rfl
  have hmn : ManyOk (xs.take 0) (List.replicate 256 0) := by rw [List.take_zero]; exact ManyOk.nil
  have hw0 : widest (xs.take 0) = 0 := by rw [List.take_zero]; decide +kernel
  have ST : Hid (∃ (vs : List Bool) (ms : List Int), SeenOk (xs.take 0) vs ∧ ManyOk (xs.take 0) ms ∧ RowT W1 gs 41 vs ∧ RowI W1 gm 42 ms) := Lib.hid ⟨_, _, hsn, hmn, h0', h1⟩
  have CC := Lib.hid c01; have HW0 := Lib.hid hw0; have HGS := Lib.hid hgs; have HGM := Lib.hid z0
  clear hZ hY hsz h0 c0 z0 h1 c1 h0' c01 hsn hmn hw0
  go_enter Try.func16, Try.ntmps16
  go_wp2
  go_loopw [5, 11] (fun o5 o11 wr => ∃ k : Nat, k ≤ xs.length ∧ o11 = .int .i64 (k : Int) ∧ o5 = .int .i64 ((widest (xs.take k) : Nat) : Int) ∧ (∃ (vs : List Bool) (ms : List Int), SeenOk (xs.take k) vs ∧ ManyOk (xs.take k) ms ∧ RowT wr gs 41 vs ∧ RowI wr gm 42 ms) ∧ Chg (fun _ => False) w wr) (fun _ o11 _ => xs.length - (intOf o11).toNat)
  case atStart => exact ⟨0, Nat.zero_le _, rfl, by rw [HW0.out]; rfl, ST.out, CC.out⟩
  case round =>
    obtain ⟨k, hk, rfl, rfl, ⟨vs, ms, hvs, hms, hT, hI⟩, hcg⟩ := hrel
    clear ST CC HW0
    by_cases hlt : k < xs.length
    · obtain ⟨g, off, rfl, hcell⟩ := (H.out.kept hcg (by simp)).at k hlt
      have hyx := getD_lt xs HX.out k
      have htk : xs.take (k + 1) = xs.take k ++ [xs.getD k 0] := by
        rw [List.take_succ_eq_append_getElem hlt, List.getD_eq_getElem?_getD, List.getElem?_eq_getElem hlt]; rfl
      have htx : ∀ y ∈ xs.take k, y < 256 := fun y hy => HX.out y (List.mem_of_mem_take hy)
      have htl : (xs.take k).length < 1073741824 := by rw [List.length_take]; omega
      have hlst := lst_take 0 xs k hk
      have hc256 : lst 0 (xs.take k) < 256 := lst_lt 0 _ (by omega) htx
      have hat := atI_nat xs k hlt
      rw [← hlst] at hat
      have hmb := hms.bound _ hc256
      have hold := seen_old hvs hms htx hyx htl
      have hnew := seen_new hvs hms htx hyx htl
      rw [← htk] at hold hnew
      obtain ⟨x, hxe⟩ : ∃ x, xs.getD k 0 = x := ⟨_, rfl⟩
      obtain ⟨c, hce⟩ : ∃ c, lst 0 (xs.take k) = c := ⟨_, rfl⟩
      obtain ⟨z, hze⟩ : ∃ z, widest (xs.take k) = z := ⟨_, rfl⟩
      rw [hxe] at hcell hold hnew hyx
      rw [hce] at hat hold hnew hc256 hmb
      rw [hze] at hold hnew ⊢
      obtain ⟨m, hme⟩ : ∃ m, ms.getD c 0 = m := ⟨_, rfl⟩
      obtain ⟨b, hbe⟩ : ∃ b, vs.getD (c * 256 + x) false = b := ⟨_, rfl⟩
      rw [hbe] at hold hnew
      rw [hme] at hnew hmb
      have HBE := Lib.hid hbe; have HME := Lib.hid hme
      have HCG := Lib.hid hcg; have HOLD := Lib.hid hold; have HNEW := Lib.hid hnew; have HAT := Lib.hid hat; have HI := Lib.hid hI; have HT := Lib.hid hT
      have HVS := Lib.hid hvs; have HMS := Lib.hid hms
      clear hcg hold hnew hat hI hT hvs hms htk htx htl hlst hxe hce hze hme hbe
      go_wp2_with fail
      refine (xat_any _ xs (k : Int) wr (H.out.kept HCG.out (by simp)) HX.out (by omega) (by omega)).mono ?_
      rintro e w2 ⟨rfl, mm, rfl⟩
      rw [HAT.out]
      have qq := (Chg.refl (fun _ => False) wr).drewN mm
      have hT := HT.out.kept qq (by simp)
      have hI := HI.out.kept qq (by simp)
      have hcg := HCG.out.trans qq (fun _ _ h => h)
      have hcT := hT.cell (c * 256 + x) (by rw [HVS.out.1]; omega)
      have hfT := hT.free (c * 256 + x)
      rw [HBE.out] at hcT
      obtain ⟨Wq, hWq⟩ : ∃ Wq, wr.drewN mm = Wq := ⟨_, rfl⟩
      rw [hWq] at hT hI hcg hcT hfT
      rw [hWq]
      clear hWq qq HT HI HCG
      have hcI256 : (c : Int) < 256 := by omega
      have hxI256 : (x : Int) < 256 := by omega
      cases b with
      | true =>
        obtain ⟨hs2, hm2, hw2⟩ := HOLD.out rfl
        have HS2 := Lib.hid hs2; have HM2 := Lib.hid hm2; have HW2 := Lib.hid hw2; have HT := Lib.hid hT; have HI := Lib.hid hI; have HCG := Lib.hid hcg
        clear hs2 hm2 hw2 hT hI hcg HOLD HNEW
        go_wp2
        go_roundw
        case rel => exact ⟨k + 1, by omega, by go_num, by rw [HW2.out], ⟨vs, ms, HS2.out, HM2.out, HT.out, HI.out⟩, HCG.out⟩
        case measure => simp [intOf]; omega
      | false =>
        obtain ⟨hs2, hm2, hw2⟩ := HNEW.out rfl
        have hne : gs ≠ gm := by have := HGM.out; omega
        have st1 := Chg.setCell Wq ⟨gs, c * 256 + x, none⟩ (.bool true)
        have t1 := hT.set (c * 256 + x) true
        have i1 := hI.kept st1 (by simp; omega)
        have c1 := hcg.trans st1 (S := fun _ => False) (fun q hq hh => by have := HGS.out; simp at hh; omega)
        have a1 := i1.cell c (by rw [HMS.out.1]; omega)
        have f1 := i1.free c
        rw [HME.out] at a1
        have st2 := Chg.setCell (Wq.setCell ⟨gs, c * 256 + x, none⟩ (.bool true)) ⟨gm, c, none⟩ (.int .i64 (m + 1))
        have i2 := i1.set c (m + 1)
        have t2 := t1.kept st2 (by simp; omega)
        have c2 := c1.trans st2 (S := fun _ => False) (fun q hq hh => by have := HGS.out; have := HGM.out; simp at hh; omega)
        have a2 := i2.cell c (by rw [List.length_set, HMS.out.1]; omega)
        rw [set_getD _ _ _ _ (by rw [HMS.out.1]; omega), if_pos rfl] at a2
        have HS2 := Lib.hid hs2; have HM2 := Lib.hid hm2; have HW2 := Lib.hid hw2; have HT := Lib.hid t2; have HI := Lib.hid i2; have HCG := Lib.hid c2
        clear hs2 hm2 hw2 hT hI hcg HOLD HNEW st1 t1 i1 c1 st2 i2 t2 c2 hne
        obtain ⟨hm0, hm1⟩ := hmb
        by_cases hzm : (z : Int) < m + 1
        · go_wp2
          go_roundw
          case rel => exact ⟨k + 1, by omega, by go_num, by rw [HW2.out]; simp; omega, ⟨_, _, HS2.out, HM2.out, HT.out, HI.out⟩, HCG.out⟩
          case measure => simp [intOf]; omega
        · go_wp2
          go_roundw
          case rel => exact ⟨k + 1, by omega, by go_num, by rw [HW2.out]; simp; omega, ⟨_, _, HS2.out, HM2.out, HT.out, HI.out⟩, HCG.out⟩
          case measure => simp [intOf]; omega
    · obtain rfl : k = xs.length := by omega
      rw [List.take_length]
      go_wp2
      go_ret
      exact ⟨rfl, hcg⟩

end Go.Proofs.Ytjddaneafmdeeaa
