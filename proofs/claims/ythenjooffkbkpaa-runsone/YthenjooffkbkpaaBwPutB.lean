/- What bitw.putBit does to a Writer. -/
import Derived.Test.YthenjooffkbkpaaBwPut
namespace Go.Proofs.Ythenjooffkbkpaa
open Go.RowKit

set_option maxHeartbeats 1000000 in
theorem putBit_old (b : Nat) (o : Option Nat) (bs : List Bool) (one : Bool) (w : World) (h : Wr w b o bs) (hlen : bs.length < 1000000000) (hm : bs.length % 8 ≠ 0) :
    Calls Try.prog 34 #[.pointer (some ⟨b, 0, none⟩), .bool one] w fun e w' => e = .returned (.tuple #[]) ∧ WrTo w w' b o (bs ++ [one]) := by
  obtain ⟨v, hb, ho, hown⟩ := h
  obtain ⟨g, cap, rfl, hbg⟩ := slice_of_own hown (by omega)
  obtain ⟨c0, c1, f0, f1⟩ := cells2 hb
  have hn : (bs.length + 1 + 7) / 8 = (bs.length + 7) / 8 := by omega
  have hlt := byteAt_last_lt bs
  have hget : (pack bs).getD (bs.length / 8) 0 = byteAt bs (bs.length / 8) := by
    rw [List.getD_eq_getElem?_getD, pack_getElem? bs _ (by omega)]; rfl
  have hold := pack_snoc_old bs one hm
  have ho' : some g = o := ho
  have ht : (((bs.length : Nat) : Int) % 8 == 0) = false := by rw [beq_eq_false_iff_ne]; omega
  have HO := Lib.hid ho; have HO' := Lib.hid ho'; have HN := Lib.hid hn; have HG := Lib.hid hget; have HP := Lib.hid hold; have HB := Lib.hid hb
  clear ho ho' hn hget hold hb
  cases one
  · go_enter Try.func34, Try.ntmps34
    go_wp2
    go_end0
    refine ⟨rfl, wr_close (g := g) (cap := cap) (w2 := w) (by rw [HN.out]; exact HB.out) ?_ (Chg.refl _ _) (.inl HO'.out)⟩
    rw [HN.out, HP.out]
    simp only [Bool.toNat_false, Nat.zero_mul, Nat.add_zero]
    rw [← HG.out, show (pack bs).set (bs.length / 8) ((pack bs).getD (bs.length / 8) 0) = pack bs from ?_]
    · exact hown
    · have hl : bs.length / 8 < (pack bs).length := by rw [pack_length]; omega
      rw [List.getD_eq_getElem?_getD, List.getElem?_eq_getElem hl]; simp
  · go_enter Try.func34, Try.ntmps34
    go_wp2
    go_still_tail 8, (by kernel_rfl)
    change wpList _ _ _ _ _ w.drew
    go_wp2_with fail
    refine (setBit_row (b + 1) g ((bs.length + 7) / 8) cap bs.length (pack bs) _ hown.drew (by omega) (by omega) (by rw [HG.out]; exact hlt)).mono ?_
    rintro e w2 ⟨rfl, hown2, hc2⟩
    have hc2' : Chg (fun k => k = g) w w2 := ⟨hc2.os, hc2.tape, hc2.output, hc2.size, hc2.block⟩
    have hb2 := (hc2'.block b (lt_of_block HB.out) (by omega)).trans HB.out
    obtain ⟨c0', c1', f0', f1'⟩ := cells2 hb2
    have HB2 := Lib.hid hb2
    clear hb2
    go_wp2
    go_end0
    refine ⟨rfl, wr_close (g := g) (cap := cap) (w2 := w2) (by rw [HN.out]; exact HB2.out) ?_ (hc2'.mono fun k _ hk => .inr (by rw [hk]; exact HO'.out)) (.inl HO'.out)⟩
    rw [HN.out, HP.out, ← HG.out]
    simpa using hown2

set_option maxHeartbeats 1000000 in
theorem putBit_new (b : Nat) (o : Option Nat) (bs : List Bool) (one : Bool) (w : World) (h : Wr w b o bs) (hlen : bs.length < 1000000000) (hm : bs.length % 8 = 0) :
    Calls Try.prog 34 #[.pointer (some ⟨b, 0, none⟩), .bool one] w fun e w' => e = .returned (.tuple #[]) ∧ WrTo w w' b o (bs ++ [one]) := by
  obtain ⟨i, hi, hz0, hz1, hz2⟩ := info_parts Try.infoU8
  obtain ⟨v, hb, ho, hown⟩ := h
  have hbl := lt_of_block hb
  obtain ⟨c0, c1, f0, f1⟩ := cells2 hb
  have hne : some b ≠ v.ownBlock := fun h => by have := hown.lt b h.symm; omega
  have hlo := hown.lt
  have ht : (((bs.length : Nat) : Int) % 8 == 0) = true := by rw [beq_iff_eq]; omega
  have HM := Lib.hid hm; have HO := Lib.hid ho; have HB := Lib.hid hb; have HL := Lib.hid hlo; have HNe := Lib.hid hne
  clear hm ho hb hlo hne
  have hnew := pack_snoc_new bs one HM.out
  have hn : (bs.length + 1 + 7) / 8 = (bs.length + 7) / 8 + 1 := by have := HM.out; omega
  have HW := Lib.hid hnew; have HN := Lib.hid hn
  clear hnew hn
  have key : ∀ (g cap : Nat) (w1 : World), (w.alloc (.cells #[.int .u8 0] 5)).grownBy w1 v.ownBlock → (v.ownBlock = some g ∨ g = w.heap.size + 1) →
      (some g = o ∨ w.heap.size ≤ g) ∧ w1.heap[b]? = some (.cells #[v, .int .i64 (bs.length : Int)] 49 (0, 0)) ∧ Chg (fun k => some k = o) w w1 := by
    intro g cap w1 h2 h3
    have hc : Chg (fun k => some k = o) w w1 := (Chg.alloc _ w _).trans (Chg.of_grown h2) (fun k _ hk => by rw [hk]; exact HO.out)
    refine ⟨?_, ?_, hc⟩
    · rcases h3 with h | h
      · exact .inl (by rw [← h]; exact HO.out)
      · exact .inr (by omega)
    · rw [hc.block b hbl (fun h => HNe.out (by rw [h]; exact HO.out.symm))]; exact HB.out
  cases one
  · go_enter Try.func34, Try.ntmps34
    go_wp2_with (at_builtin; refine wpList_append_lies _ rfl (.tmp 14) (.tmp 15) 32 rfl (b + 1) 5 i (.int .u8 0) 1 1 Try.underlying32 hi hz0 hz1 hz2 rfl (by decide) v ((bs.length + 7) / 8) _ rfl (hown.alloc _) ⟨w.heap.size, 0, none⟩ 1 1 [.int .u8 0] rfl rfl (cell_one_new _ _ _) ?c2 (by decide) (by unfold maxLen; omega) (by omega) (by simp; omega) (w.heap.size + 1) (by simp) ?_)
    case c2 => intro u hu; simp at hu; subst hu; rfl
    intro g cap w1 hown' hgrow hg _
    obtain ⟨hg, hb1, hc1⟩ := key g cap w1 hgrow hg
    have hbg := (hown'.lt g rfl).1
    obtain ⟨d0, d1, e0, e1⟩ := cells2 hb1
    have HB1 := Lib.hid hb1
    clear hb1 hgrow
    go_wp2
    go_end0
    refine ⟨rfl, wr_close (g := g) (cap := cap) (w2 := w1.setCell ⟨b, 0, none⟩ (.slice (some ⟨g, 0, none⟩) ((bs.length + 7) / 8 + 1) cap)) (by rw [HN.out]; exact set2_0 HB1.out) ?_ ((hc1.mono fun k _ hk => .inr hk).trans (Chg.setCell w1 ⟨b, 0, none⟩ _) (fun k _ hk => .inl hk)) hg⟩
    rw [HN.out, HW.out, ← bv_snoc]
    exact ownsRow_setCell_below hown' (a := ⟨b, 0, none⟩) (by show b < b + 1; omega) _
  · go_enter Try.func34, Try.ntmps34
    go_wp2_with (at_builtin; refine wpList_append_lies _ rfl (.tmp 14) (.tmp 15) 32 rfl (b + 1) 5 i (.int .u8 0) 1 1 Try.underlying32 hi hz0 hz1 hz2 rfl (by decide) v ((bs.length + 7) / 8) _ rfl (hown.alloc _) ⟨w.heap.size, 0, none⟩ 1 1 [.int .u8 0] rfl rfl (cell_one_new _ _ _) ?c2 (by decide) (by unfold maxLen; omega) (by omega) (by simp; omega) (w.heap.size + 1) (by simp) ?_)
    case c2 => intro u hu; simp at hu; subst hu; rfl
    intro g cap w1 hown' hgrow hg _
    obtain ⟨hg, hb1, hc1⟩ := key g cap w1 hgrow hg
    have hbg := (hown'.lt g rfl).1
    obtain ⟨d0, d1, e0, e1⟩ := cells2 hb1
    have HB1 := Lib.hid hb1
    clear hb1 hgrow
    have hb2 := set2_0 (u := .slice (some ⟨g, 0, none⟩) ((bs.length + 7) / 8 + 1) cap) HB1.out
    have hown2 := ownsRow_setCell_below hown' (a := ⟨b, 0, none⟩) (by show b < b + 1; omega) (.slice (some ⟨g, 0, none⟩) ((bs.length + 7) / 8 + 1) cap)
    have hc2 := (hc1.mono fun k _ hk => .inr hk).trans (Chg.setCell w1 ⟨b, 0, none⟩ (.slice (some ⟨g, 0, none⟩) ((bs.length + 7) / 8 + 1) cap)) (S := fun k => k = b ∨ some k = o) (fun k _ hk => .inl hk)
    have HB2 := Lib.hid hb2
    clear hb2
    go_wp2
    generalize w1.setCell ⟨b, 0, none⟩ (.slice (some ⟨g, 0, none⟩) ((bs.length + 7) / 8 + 1) cap) = w2 at *
    clear hown' hc1 d0 d1 e0 e1 HB1
    obtain ⟨d0, d1, e0, e1⟩ := cells2 HB2.out
    go_still_tail 8, (by kernel_rfl)
    change wpList _ _ _ _ _ w2.drew
    go_wp2_with fail
    refine (setBit_row (b + 1) g ((bs.length + 7) / 8 + 1) cap bs.length (pack bs ++ [0]) _ (by rw [← bv_snoc]; exact hown2.drew) (by have := HM.out; omega) (by omega) (by rw [HM.out, List.getD_eq_getElem?_getD, List.getElem?_append_right (by rw [pack_length]; have := HM.out; omega)]; rw [pack_length]; rw [show bs.length / 8 - (bs.length + 7) / 8 = 0 from by omega]; simp)).mono ?_
    rintro e w3 ⟨rfl, hown3, hc3⟩
    have hc3' : Chg (fun k => k = g) w2 w3 := ⟨hc3.os, hc3.tape, hc3.output, hc3.size, hc3.block⟩
    have hb3 := (hc3'.block b (lt_of_block HB2.out) (by omega)).trans HB2.out
    obtain ⟨c0', c1', f0', f1'⟩ := cells2 hb3
    have HB3 := Lib.hid hb3
    clear hb3
    go_wp2
    go_end0
    refine ⟨rfl, wr_close (g := g) (cap := cap) (w2 := w3) (by rw [HN.out]; exact HB3.out) ?_ (hc2.trans hc3' fun k hk hkg => ?_) hg⟩
    · rw [HN.out, HW.out]
      have e1 : (pack bs ++ [0]).getD (bs.length / 8) 0 = 0 := by
        rw [List.getD_eq_getElem?_getD, List.getElem?_append_right (by rw [pack_length]; have := HM.out; omega)]; rw [pack_length]; rw [show bs.length / 8 - (bs.length + 7) / 8 = 0 from by omega]; simp
      have e2 : (pack bs ++ [0]).set (bs.length / 8) 1 = pack bs ++ [1] := by
        rw [show bs.length / 8 = (pack bs).length from by rw [pack_length]; have := HM.out; omega]; simp
      rw [e1, HM.out] at hown3
      simpa [e2] using hown3
    · rcases hg with h | h
      · exact .inr (by rw [hkg]; exact h)
      · omega

theorem putBit_any (b : Nat) (o : Option Nat) (bs : List Bool) (one : Bool) (w : World) (h : Wr w b o bs) (hlen : bs.length < 1000000000) :
    Calls Try.prog 34 #[.pointer (some ⟨b, 0, none⟩), .bool one] w fun e w' => e = .returned (.tuple #[]) ∧ WrTo w w' b o (bs ++ [one]) := by
  by_cases hm : bs.length % 8 = 0
  · exact putBit_new b o bs one w h hlen hm
  · exact putBit_old b o bs one w h hlen hm

end Go.Proofs.Ythenjooffkbkpaa
