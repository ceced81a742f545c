/- What bitw's Close tells: memory of its own. -/
import Derived.Test.YtdejfoemofhpdaaBwPutC
namespace Go.Proofs.Ytdejfoemofhpdaa
open Go.RowKit

/-- The call hands back bytes xs in memory of its own, and nothing that was there has turned. -/
def Fresh (w : World) (xs : List Nat) (e : Ending) (w' : World) : Prop :=
  ∃ g cap, e = .returned (.slice (some ⟨g, 0, none⟩) xs.length cap) ∧ w'.ownsRow w.heap.size 5 1 (.slice (some ⟨g, 0, none⟩) xs.length cap) xs.length (bv xs) ∧ Chg (fun _ => False) w w'

/-- a row that is known whole -/
theorem own_heap {w : World} {base g n : Nat} {e : TypeId} {xs : List Value} (h : w.ownsRow base e 1 (.slice (some ⟨g, 0, none⟩) n n) n xs) : w.heap[g]? = some (.cells xs.toArray e (0, 0)) := by
  rcases h.2 with ⟨h', _⟩ | ⟨g', cap', cur, h', _, hg, _, _, hcs, htake⟩
  · simp at h'
  · simp only [Value.slice.injEq, Option.some.injEq, Addr.mk.injEq, and_true, true_and] at h'
    obtain ⟨rfl, rfl⟩ := h'
    rw [hg, ← htake, List.take_of_length_le (by rw [Array.length_toList, hcs]; omega)]
theorem own_of_heap {w : World} {base g n : Nat} {e : TypeId} {xs : List Value} (hb : base ≤ g) (hn : xs.length = n) (hm : n ≤ maxLen) (h : w.heap[g]? = some (.cells xs.toArray e (0, 0))) : w.ownsRow base e 1 (.slice (some ⟨g, 0, none⟩) n n) n xs :=
  ⟨by omega, .inr ⟨g, n, xs.toArray, rfl, hb, h, Nat.le_refl _, hm, by simp [hn], List.take_of_length_le (by simp; omega)⟩⟩

theorem zeros_length (n : Nat) : (madeCells #[Value.int .u8 0] n).toList.length = n := by simp [madeCells]
theorem zeros_bv (n : Nat) : (madeCells #[Value.int .u8 0] n).toList = bv (List.replicate n 0) := by
  apply List.ext_getElem (by simp [madeCells, bv])
  intro j h1 h2
  simp [madeCells, bv, Nat.mod_one]
theorem Chg.then_below {w w1 w2 : World} (h : Chg (fun _ => False) w w1) (k : Below w.heap.size w1 w2) : Chg (fun _ => False) w w2 :=
  ⟨k.os.trans h.os, k.tape.trans h.tape, k.output.trans h.output, Nat.le_trans h.size k.size, fun i hi hs => (k.block i hi).trans (h.block i hi hs)⟩

theorem splice_all {α : Type} (L cs : List α) (h : L.length = cs.length) : splice L 0 cs = cs := by simp [splice, h]

theorem bv_one (xs : List Nat) : ∀ u ∈ bv xs, u.oneCell' = true := by
  intro u hu
  simp only [bv, List.mem_map] at hu
  obtain ⟨x, _, rfl⟩ := hu
  rfl

theorem own_src {w : World} {base : Nat} {e : TypeId} {v : Value} {n : Nat} {xs : List Value} (h : w.ownsRow base e 1 v n xs) : ∃ ao cap, v = .slice ao n cap ∧ (0 < xs.length → ∃ ad, ao = some ad ∧ ∀ j u, xs[j]? = some u → w.cell? (ad.add j) = some u) := by
  rcases h.2 with ⟨rfl, rfl⟩ | ⟨g, cap, cur, rfl, hb, _⟩
  · exact ⟨none, 0, rfl, fun hp => by have := h.1; omega⟩
  · exact ⟨some ⟨g, 0, none⟩, cap, rfl, fun _ => ⟨_, rfl, h.cells rfl⟩⟩

theorem Try.sizeU8 : (Try.prog.info? 5).map (·.size) = some 1 := by kernel_rfl

theorem close_math (bs : List Bool) (n : Nat) (hn : n = bs.length / 8 + 1) :
    ((pack bs ++ List.replicate (n - (pack bs).length) 0).getD (bs.length / 8) 0 < 2 ^ (bs.length % 8)) ∧
    (pack bs ++ List.replicate (n - (pack bs).length) 0).set (bs.length / 8) ((pack bs ++ List.replicate (n - (pack bs).length) 0).getD (bs.length / 8) 0 + 2 ^ (bs.length % 8)) = pack (bs ++ [true]) := by
  by_cases hm : bs.length % 8 = 0
  · have e1 : (pack bs).length = bs.length / 8 := by rw [pack_length]; omega
    have e2 : n - bs.length / 8 = 1 := by omega
    rw [pack_snoc_new bs true hm, e1, e2, hm]
    have e3 : (pack bs ++ List.replicate 1 0).getD (bs.length / 8) 0 = 0 := by
      rw [List.getD_eq_getElem?_getD, List.getElem?_append_right (by omega), e1]; simp
    rw [e3]
    refine ⟨by decide, ?_⟩
    rw [← e1]; simp
  · have e1 : (pack bs).length = bs.length / 8 + 1 := by rw [pack_length]; omega
    have e2 : n - (bs.length / 8 + 1) = 0 := by omega
    rw [pack_snoc_old bs true hm, e1, e2]
    have e3 : (pack bs ++ List.replicate 0 0).getD (bs.length / 8) 0 = byteAt bs (bs.length / 8) := by
      simp only [List.replicate_zero, List.append_nil]
      rw [List.getD_eq_getElem?_getD, pack_getElem? bs _ (by omega)]; rfl
    rw [e3]
    exact ⟨byteAt_last_lt bs, by simp⟩

theorem splice_front {α : Type} (L cs : List α) : splice L 0 cs = cs ++ L.drop cs.length := by simp [splice]

set_option maxHeartbeats 1000000 in
theorem close_any (b : Nat) (o : Option Nat) (bs : List Bool) (w : World) (h : Wr w b o bs) (hlen : bs.length < 1000000000) :
    Calls Try.prog 16 #[.pointer (some ⟨b, 0, none⟩)] w fun e w' => Fresh w (pack (bs ++ [true])) e w' := by
  obtain ⟨i, hi, hz0, hz1, hz2⟩ := info_parts Try.infoU8
  obtain ⟨v, hb, ho, hown⟩ := h
  have hbl := lt_of_block hb
  obtain ⟨ao, cap, rfl, hsrc⟩ := own_src hown
  obtain ⟨c0, c1, f0, f1⟩ := cells2 hb
  have hby : i.bytes * (bs.length / 8 + 1) ≤ 281474976710656 := by rw [hz2]; omega
  have HB := Lib.hid hb; have HS := Lib.hid hsrc
  clear hb hsrc ho
  go_enter Try.func16, Try.ntmps16
  go_wp2_with (at_make; refine wpList_make_full _ rfl (.tmp 9) (.tmp 9) 22 rfl w.heap.size 5 i (.int .u8 0) 1 Try.underlying22 hi hz0 hz1 .i64 .i64 _ _ (bs.length / 8 + 1) rfl rfl (by omega) (by omega) hby (by unfold maxLen; omega) (Nat.le_refl _) ?_)
  intro w1 hown1 hgrow1
  have hc1 : Chg (fun _ => False) w w1 := (Chg.of_grown hgrow1).mono fun k _ hk => by simp at hk
  have hb1 := (hc1.block b hbl (by simp)).trans HB.out
  obtain ⟨d0, d1, e0, e1⟩ := cells2 hb1
  have hrow : w1.heap[w.heap.size]? = some (.cells (bv (List.replicate (bs.length / 8 + 1) 0)).toArray 5 (0, 0)) := by
    have h := own_heap hown1
    rw [zeros_bv] at h; exact h
  have hsrc1 := own_src (hc1.own hown (fun k _ => by simp))
  obtain ⟨_, _, hv1, hsrc1⟩ := hsrc1
  simp only [Value.slice.injEq, true_and] at hv1
  obtain ⟨rfl, rfl⟩ := hv1
  have HB1 := Lib.hid hb1
  clear hb1 hgrow1 hown1
  have HR := Lib.hid hrow; have HC := Lib.hid hc1; have HV := Lib.hid hsrc1
  clear hrow hc1 hsrc1
  go_wp2_with (with_reducible refine wpList_copy_splice rfl (.tmp 11) (.tmp 15) 22 22 rfl 5 Try.underlying22 Try.sizeU8 _ _ _ _ _ _ rfl rfl w.heap.size 0 (bv (List.replicate (bs.length / 8 + 1) 0)) 5 HR.out (bv (pack bs)) ?c1 ?c2 ?c3 (bv_one _) w.heap.size w1 (Below.refl _ _) (Nat.le_refl _) ?_)
  case c1 => rw [bv_length, pack_length]; exact (Nat.min_eq_left (by omega)).symm
  case c2 => intro hp; exact HV.out hp
  case c3 => rw [bv_length, bv_length, pack_length, List.length_replicate]; omega
  intro w2 HG2 hB2
  have hc2 := HC.out.then_below hB2
  have hb2 := (hc2.block b hbl (by simp)).trans HB.out
  have hown2 : w2.ownsRow w.heap.size 5 1 (.slice (some ⟨w.heap.size, 0, none⟩) (bs.length / 8 + 1) (bs.length / 8 + 1)) (bs.length / 8 + 1) (bv (pack bs ++ List.replicate (bs.length / 8 + 1 - (pack bs).length) 0)) := by
    have h := HG2.out
    rw [splice_front, bv_length] at h
    have e : bv (pack bs) ++ (bv (List.replicate (bs.length / 8 + 1) 0)).drop (pack bs).length = bv (pack bs ++ List.replicate (bs.length / 8 + 1 - (pack bs).length) 0) := by
      simp [bv]
    rw [e] at h
    exact own_of_heap (Nat.le_refl _) (by rw [bv_length, List.length_append, List.length_replicate, pack_length]; omega) (by unfold maxLen; omega) h
  obtain ⟨d0', d1', e0', e1'⟩ := cells2 hb2
  have hcm := close_math bs (bs.length / 8 + 1) rfl
  have HB2 := Lib.hid hb2; have HM := Lib.hid hcm; have HO := Lib.hid hown2; have HC2 := Lib.hid hc2
  clear hb2 hcm hown2 hc2
  go_wp2_with fail
  refine (setBit_row w.heap.size w.heap.size (bs.length / 8 + 1) (bs.length / 8 + 1) bs.length _ _ HO.out (by omega) (by omega) HM.out.1).mono ?_
  rintro e w3 ⟨rfl, hown3, hc3⟩
  go_wp2
  go_ret
  rw [HM.out.2] at hown3
  have el : (pack (bs ++ [true])).length = bs.length / 8 + 1 := by rw [pack_length]; simp; omega
  refine ⟨w.heap.size, bs.length / 8 + 1, by rw [el]; rfl, by rw [el]; exact hown3, HC2.out.trans hc3 (fun k hk h => by omega)⟩

end Go.Proofs.Ytdejfoemofhpdaa
