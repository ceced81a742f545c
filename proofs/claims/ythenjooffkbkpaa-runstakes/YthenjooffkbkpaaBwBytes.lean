/- What bitw's Bytes tells: memory of its own. -/
import Derived.Test.YthenjooffkbkpaaBwTell
namespace Go.Proofs.Ythenjooffkbkpaa
open Go.RowKit

set_option maxHeartbeats 1000000 in
theorem bytes_any (b : Nat) (o : Option Nat) (bs : List Bool) (w : World) (h : Wr w b o bs) (hlen : bs.length < 1000000000) :
    Calls Try.prog 15 #[.pointer (some ⟨b, 0, none⟩)] w fun e w' => Fresh w (pack bs) e w' := by
  obtain ⟨i, hi, hz0, hz1, hz2⟩ := info_parts Try.infoU8
  obtain ⟨v, hb, ho, hown⟩ := h
  have hbl := lt_of_block hb
  have hlt := hown.lt
  obtain ⟨ao, cap, rfl, hsrc⟩ := own_src hown
  obtain ⟨c0, c1, f0, f1⟩ := cells2 hb
  have hby : i.bytes * ((bs.length + 7) / 8) ≤ 281474976710656 := by rw [hz2]; omega
  have HB := Lib.hid hb; have HS := Lib.hid hsrc; have HLt := Lib.hid hlt
  clear hb hsrc hlt ho
  go_enter Try.func15, Try.ntmps15
  go_wp2_with (at_make; refine wpList_make_full _ rfl (.tmp 8) (.tmp 8) 32 rfl w.heap.size 5 i (.int .u8 0) 1 Try.underlying32 hi hz0 hz1 .i64 .i64 _ _ ((bs.length + 7) / 8) rfl rfl (by omega) (by omega) hby (by unfold maxLen; omega) (Nat.le_refl _) ?_)
  intro w1 hown1 hgrow1
  have hc1 : Chg (fun _ => False) w w1 := (Chg.of_grown hgrow1).mono fun k _ hk => by simp at hk
  have hb1 := (hc1.block b hbl (by simp)).trans HB.out
  obtain ⟨d0, d1, e0, e1⟩ := cells2 hb1
  obtain ⟨Z, hZ, hrow⟩ : ∃ Z : List Value, Z.length = (bs.length + 7) / 8 ∧ w1.heap[w.heap.size]? = some (.cells Z.toArray 5 (0, 0)) := ⟨_, zeros_length _, own_heap hown1⟩
  have hsrc1 := own_src (hc1.own hown (fun k _ => by simp))
  obtain ⟨_, _, hv1, hsrc1⟩ := hsrc1
  simp only [Value.slice.injEq, true_and] at hv1
  obtain ⟨rfl, rfl⟩ := hv1
  clear hb1 hgrow1 hown1
  have HR := Lib.hid hrow; have HC := Lib.hid hc1; have HV := Lib.hid hsrc1; have HZ := Lib.hid hZ
  clear hrow hc1 hsrc1 hZ
  go_wp2_with (with_reducible refine wpList_copy_splice rfl (.tmp 10) (.tmp 14) 32 32 rfl 5 Try.underlying32 Try.sizeU8 _ _ _ _ _ _ rfl rfl w.heap.size 0 Z 5 HR.out (bv (pack bs)) ?c1 ?c2 ?c3 (bv_one _) w.heap.size w1 (Below.refl _ _) (Nat.le_refl _) ?_)
  case c1 => rw [bv_length, pack_length]; exact (Nat.min_self _).symm
  case c2 => intro hp; exact HV.out hp
  case c3 => rw [HZ.out, bv_length, pack_length]; omega
  intro w2 HG2 hB2
  go_wp2
  go_ret
  refine ⟨w.heap.size, (bs.length + 7) / 8, by rw [pack_length]; rfl, ?_, HC.out.then_below hB2⟩
  have := HG2.out
  rw [splice_all _ _ (by rw [HZ.out, bv_length, pack_length])] at this
  rw [pack_length]
  exact own_of_heap (Nat.le_refl _) (by rw [bv_length, pack_length]) (by unfold maxLen; omega) this

end Go.Proofs.Ythenjooffkbkpaa
