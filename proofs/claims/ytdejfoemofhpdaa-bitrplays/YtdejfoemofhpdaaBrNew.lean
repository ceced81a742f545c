/- What bitr.New tells. -/
import Derived.Test.YtdejfoemofhpdaaBrRead
namespace Go.Proofs.Ytdejfoemofhpdaa
open Go.RowKit

/-- there is a mark -/
def Marked (xs : List Nat) : Prop := xs ≠ [] ∧ xs.getD (xs.length - 1) 0 ≠ 0

instance (xs : List Nat) : Decidable (Marked xs) := by unfold Marked; infer_instance

theorem rnew_no (v : Value) (xs : List Nat) (w : World) (h : RdB w v xs) (hm : ¬ Marked xs) (hl : xs.length < 100000000000) :
    Calls Try.prog 9 #[v] w fun e w' => e = .returned (.tuple #[.pointer none, .int .i64 2]) ∧ w = w' := by
  by_cases h0 : xs = []
  · obtain ⟨ao, cap, rfl⟩ : ∃ ao cap, v = .slice ao 0 cap := by
      rcases h with ⟨_, ao, c, rfl⟩ | ⟨g, off, cap, rfl, _⟩
      · exact ⟨ao, c, rfl⟩
      · exact ⟨_, cap, by rw [h0]; rfl⟩
    clear h
    go_enter Try.func9, Try.ntmps9
    go_wp2
    go_ret2
    exact ⟨rfl, rfl⟩
  · have hn : 0 < xs.length := List.length_pos_iff.2 h0
    have hz : xs.getD (xs.length - 1) 0 = 0 := by
      unfold Marked at hm
      exact Decidable.byContradiction fun hc => hm ⟨h0, hc⟩
    rcases h with ⟨h', _⟩ | ⟨g, off, cap, rfl, hc⟩
    · exact absurd h' h0
    obtain ⟨m, hm'⟩ : ∃ m, xs.length = m + 1 := ⟨xs.length - 1, by omega⟩
    have hcell := hc m (by omega)
    rw [hm', Nat.add_sub_cancel] at hz
    rw [hz] at hcell
    rw [hm'] at hl ⊢
    clear hc h0 hm hz
    go_enter Try.func9, Try.ntmps9
    go_wp2
    go_ret2
    exact ⟨rfl, rfl⟩

set_option maxHeartbeats 1000000 in
theorem rnew_ok (v : Value) (xs : List Nat) (w : World) (h : RdB w v xs) (hm : Marked xs) (hl : xs.length < 100000000000) (hx : ∀ x ∈ xs, x < 256) :
    Calls Try.prog 9 #[v] w fun e w' => ∃ b g, e = .returned (.tuple #[.pointer (some ⟨b, 0, none⟩), .int .i64 0]) ∧ Rr w' b g (openB xs) ∧ w.heap.size ≤ b ∧ w.heap.size ≤ g ∧ Chg (fun _ => False) w w' := by
  obtain ⟨i, hi, hz0, hz1, hz2⟩ := info_parts Try.infoU8
  rcases h with ⟨h', _⟩ | ⟨g, off, cap, rfl, hc⟩
  · exact absurd h' hm.1
  have hlen := openB_length xs hx hm.1 hm.2
  have hmp := markPos_lt xs hx hm.1 hm.2
  have hme : markPos xs = 8 * (xs.length - 1) + len8 (xs.getD (xs.length - 1) 0) - 1 := rfl
  have hbx : xs.getD (xs.length - 1) 0 < 256 := getD_lt xs hx _
  have hnz : xs.getD (xs.length - 1) 0 ≠ 0 := hm.2
  have hl1 := (len8_facts _ hbx hnz).1
  obtain ⟨m, hm'⟩ : ∃ m, xs.length = m + 1 := ⟨xs.length - 1, by omega⟩
  have hml : m < 100000000000 := by omega
  have HML := Lib.hid hml
  have hcell := hc m (by omega)
  have hgl : g < w.heap.size := block_lt_of_cell hcell
  have hby : i.bytes * (m + 1) ≤ 281474976710656 := by rw [hz2]; omega
  have HC := Lib.hid hc; have HLen := Lib.hid hlen; have HMe := Lib.hid hme; have HX := Lib.hid hx; have HM' := Lib.hid hm'; have HMP := Lib.hid hmp
  rw [hm', Nat.add_sub_cancel] at hbx hnz hl1
  obtain ⟨x, hxm⟩ : ∃ x, xs.getD m 0 = x := ⟨_, rfl⟩
  rw [hxm] at hcell hbx hnz hl1
  have HL1 := Lib.hid hl1
  have HXM := Lib.hid hxm
  clear hxm
  clear hl1
  have hne : ((x : Int) == 0) = false := by rw [beq_eq_false_iff_ne]; omega
  rw [hm'] at ⊢
  clear hlen hmp hme hx hc hm hm'
  go_enter Try.func9, Try.ntmps9
  go_wp2_with (at_make; refine wpList_make_full _ rfl (.tmp 18) (.tmp 18) 22 rfl w.heap.size 5 i (.int .u8 0) 1 Try.underlying22 hi hz0 hz1 .i64 .i64 _ _ (m + 1) rfl rfl (by omega) (by omega) hby (by unfold maxLen; omega) (Nat.le_refl _) ?_)
  intro w1 hown1 hgrow1
  have hc1 : Chg (fun _ => False) w w1 := (Chg.of_grown hgrow1).mono fun k _ hk => by simp at hk
  have hrow : w1.heap[w.heap.size]? = some (.cells (bv (List.replicate (m + 1) 0)).toArray 5 (0, 0)) := by
    have h := own_heap hown1
    rw [zeros_bv] at h; exact h
  have hrd : RdB w1 (.slice (some ⟨g, off, none⟩) xs.length cap) xs := RdB.kept (w := w) (.inr ⟨g, off, cap, rfl, HC.out⟩) hc1 (by simp)
  have HS : Hid (∀ (j : Nat) (u : Value), (bv xs)[j]? = some u → w1.cell? ⟨g, off + j, none⟩ = some u) := by
    refine Lib.hid fun j u hu => ?_
    rcases hrd with ⟨h', _⟩ | ⟨g', off', cap', he, hcc⟩
    · rw [h'] at hu; simp [bv] at hu
    · simp only [Value.slice.injEq, Option.some.injEq, Addr.mk.injEq, and_true, true_and] at he
      obtain ⟨⟨rfl, rfl⟩, rfl⟩ := he
      have hj : j < xs.length := by
        rw [← bv_length]; exact (List.getElem?_eq_some_iff.1 hu).1
      rw [bv_get xs j hj] at hu
      rw [← Option.some.inj hu]
      exact hcc j hj
  clear hgrow1 hown1 hrd hcell
  have HR := Lib.hid hrow; have HC1 := Lib.hid hc1
  clear hrow hc1
  go_wp2_with (with_reducible refine wpList_copy_splice rfl (.tmp 20) (.tmp 21) 22 22 rfl 5 Try.underlying22 Try.sizeU8 _ _ _ _ _ _ rfl rfl w.heap.size 0 (bv (List.replicate (m + 1) 0)) 5 HR.out (bv xs) ?c1 ?c2 ?c3 (bv_one _) w.heap.size w1 (Below.refl _ _) (Nat.le_refl _) ?_)
  case c1 => rw [bv_length, HM'.out]; exact (Nat.min_self _).symm
  case c2 => intro _; exact HS.out
  case c3 => rw [bv_length, bv_length, HM'.out, List.length_replicate]; omega
  intro w2 HG2 hB2
  have hc2 := HC1.out.then_below hB2
  have hrow2 : w2.heap[w.heap.size]? = some (.cells (bv xs).toArray 5 (0, 0)) := by
    have h := HG2.out
    rw [splice_all _ _ (by rw [bv_length, bv_length, List.length_replicate, HM'.out])] at h
    exact h
  have hcell2 := row_cells hrow2 m (by rw [HM'.out]; omega)
  rw [HXM.out] at hcell2
  have HR2 := Lib.hid hrow2; have HC2 := Lib.hid hc2
  clear hrow2 hc2
  go_wp2_with fail
  refine (markAt_any w.heap.size 0 (m + 1) (m + 1) x w2 (by omega) (by have := HML.out; have := HM'.out; omega) (by rw [Nat.zero_add, Nat.add_sub_cancel]; exact hcell2) hbx).mono ?_
  rintro e w3 ⟨rfl, rfl⟩
  go_wp2
  go_ret2
  have hsz := HC2.out.size
  have hl1 := HL1.out
  have hlt2 := lt_of_block HR2.out
  have hm' := HM'.out; have hme := HMe.out; have hmp := HMP.out; have hlen := HLen.out
  rw [hm', Nat.add_sub_cancel, HXM.out] at hme
  refine ⟨w3.heap.size, w.heap.size, rfl, ⟨xs, HX.out, hl, by rw [hlen]; omega, ?_, ?_, ?_⟩, hsz, Nat.le_refl _, HC2.out.trans (Chg.alloc _ w3 _) (fun _ _ h => h)⟩
  · rw [hlen]; rfl
  · rw [heap_alloc_new, hlen, hm']
    rw [show ((markPos xs : Nat) : Int) = 8 * (m : Int) + (len8 x : Int) - 1 from by omega]
  · rw [Below.heap_alloc w3 _ _ hlt2]; exact HR2.out

end Go.Proofs.Ytdejfoemofhpdaa
