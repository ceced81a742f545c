/- What norm's divide and told do. THIS SPEAKS OF THE PROGRAM'S OWN TEXT. -/
import Derived.Test.YtnijfkbnggdbnaaNqMath
import Derived.Test.YtnijfkbnggdbnaaNqSwap
import Derived.Test.YtnijfkbnggdbnaaHsHist
namespace Go.Proofs.Ytnijfkbnggdbnaa
open Go.RowKit

/-- append of one share -/
theorem wpList_append_share {ops : Array Oper} {rest : List Oper} {o : Oper} {a : Act} {W : World} {Q : Exit → Act → World → Prop} (hgd : o.guard = none) (s x : Operand)
    (ho : o.op = .call { callee := .builtin .append, args := #[s, x], argTypes := #[38, 38] })
    (B : Nat) (v : Value) (l : List Sh) (y : Sh) (hs : a.eval s = v) (hown : W.ownsRow B 49 5 v l.length (svs l)) (G : Nat) (hx : a.eval x = .slice (some ⟨G, 0, none⟩) 1 1)
    (hblk : W.heap[G]? = some (.cells (svl y).toArray 49 (0, 0))) (hl : l.length ≤ 100000) (hB : B ≤ W.heap.size)
    (h : ∀ v' w', w'.ownsRow B 49 5 v' (l ++ [y]).length (svs (l ++ [y])) → Chg (fun k => some k = v.ownBlock) W w' → wpList Try.prog ops Q rest (a.put o.dst v') w') :
    wpList Try.prog ops Q (o :: rest) a W := by
  obtain ⟨i, hi, hz0, hz1, hz2⟩ := info_parts Try.infoShare
  refine wpList_append_lies W hgd s x 38 ho B 49 i (.agg #[.int .i64 0, .int .i64 0, .int .i64 0, .int .i64 0, .bool false]) 5 40 Try.underlying38 hi hz0 hz1 hz2 rfl (by decide) v l.length (svs l) hs hown ⟨G, 0, none⟩ 1 1 (svl y) hx rfl (World.news_of_block hblk)
    (fun u hu => svs_one [y] u (by simpa [svs] using hu)) (by decide) (by unfold maxLen; omega) (by omega) hB _ rfl fun g cap w' h2 h3 h4 _ => ?_
  exact h _ w' (by rw [List.length_append, svs_append, List.length_singleton]; simpa [svs] using h2) (Chg.of_grown h3)

set_option maxHeartbeats 2000000 in
theorem ndivide_any (v : Value) (c : List Int) (size n : Int) (w : World) (h : RdI w v c) (hb : ∀ z ∈ c, -9223372036854775808 ≤ z ∧ z ≤ 9223372036854775807) (hr : isRight c) (hn : tot c = n) (hn0 : 0 < n) (hs1 : 1 ≤ size) (hs2 : size ≤ 4096) :
    Calls Try.prog 20 #[v, .int .i64 size] w fun e w' => ∃ u, e = .returned u ∧ w'.ownsRow w.heap.size 49 5 u (shTo c size n 256).length (svs (shTo c size n 256)) ∧ Chg (fun _ => False) w w' := by
  have hlen := hr.1
  have ht := htotal_any v c w h hb (by omega)
  have htt : totalI c = n := by unfold totalI; rw [if_pos hr, hn]
  rw [htt] at ht
  have HT := Lib.hid ht
  obtain ⟨ao, cap, rfl⟩ := h.form
  have H := Lib.hid h; have HR := Lib.hid hr; have HN := Lib.hid hn; have HLEN := Lib.hid hlen
  have hnb : n ≤ 1073741824 := by rw [← hn]; exact hr.2.2
  clear h hb hr hn ht htt
  obtain ⟨m, hm⟩ : ∃ m, c.length = m := ⟨_, rfl⟩
  rw [hm] at H HT hlen ⊢
  have HM := Lib.hid hm
  have hmI : (m : Int) ≤ 256 := by omega
  have HM256 := Lib.hid hlen
  clear hm hlen
  go_enter Try.func20, Try.ntmps20
  go_wp2_with fail
  refine HT.out.mono ?_
  rintro e w1 ⟨rfl, m0, rfl⟩
  have hc0 : Chg (fun _ => False) w (w.drewN m0) := (Chg.refl _ _).drewN m0
  obtain ⟨w0, hw0⟩ : ∃ w0, w.drewN m0 = w0 := ⟨_, rfl⟩
  rw [hw0] at hc0 ⊢
  have HC0 := Lib.hid hc0
  clear HT hw0 hc0
  go_wp2
  go_loopw [6, 14] (fun o6 o14 wr => ∃ (k : Nat) (u : Value), k ≤ m ∧ o14 = .int .i64 (k : Int) ∧ u = o6 ∧ wr.ownsRow w.heap.size 49 5 u (shTo c size n k).length (svs (shTo c size n k)) ∧ Chg (fun _ => False) w wr) (fun _ o14 _ => m - (intOf o14).toNat)
  case atStart => exact ⟨0, _, Nat.zero_le _, rfl, rfl, World.ownsRow_nil _ _ _ _, HC0.out⟩
  case round =>
    obtain ⟨k, u, hk, rfl, rfl, hown, hc⟩ := hrel
    clear HC0
    have hwz := hc.size
    by_cases hlt : k < m
    · have hrd := H.out.kept hc (by simp)
      rw [← HM.out] at hrd
      obtain ⟨g, off, rfl, hcell⟩ := hrd.at k (by rw [HM.out]; exact hlt)
      have hx := HR.out.at k (by rw [HM.out]; exact hlt)
      have h0t : 0 ≤ tot (c.take k) := tot_nonneg _ fun z hz => HR.out.2.1 z (List.mem_of_mem_take hz)
      obtain ⟨x, hxe⟩ : ∃ x, c.getD k 0 = x := ⟨_, rfl⟩
      rw [hxe] at hcell hx
      have hx0 : 0 ≤ x := hx.1
      have hx1 : x ≤ 1073741824 := by omega
      have hXB := Lib.hid hwz
      clear hwz
      have HX := Lib.hid hxe; have HOWN := Lib.hid hown; have HC := Lib.hid hc
      clear hrd hx h0t hxe hown hc
      have hkm : (k : Int) < (m : Int) := by omega
      by_cases hxz : x = 0
      · have hsk := shTo_skip (c := c) (size := size) (n := n) (k := k) (by rw [HX.out]; exact hxz)
        have HSK := Lib.hid hsk
        clear hsk
        subst hxz
        go_wp2
        go_roundw
        case rel => exact ⟨k + 1, _, by omega, by go_num, rfl, by rw [HSK.out]; exact HOWN.out, HC.out⟩
        case measure => simp [intOf]; omega
      · have hmo := shTo_more (c := c) (size := size) (n := n) (k := k) (by rw [HX.out]; exact hxz)
        rw [HX.out] at hmo
        have HMO := Lib.hid hmo
        have hP0 : 0 ≤ x * size := Int.mul_nonneg hx0 (by omega)
        have hP1 : x * size ≤ 1073741824 * 4096 := Int.mul_le_mul hx1 hs2 (by omega) (by omega)
        have hmk : mkSh size n k x = if x * size / n = 0 then ⟨(k : Int), x, 1, x * size % n, true⟩ else ⟨(k : Int), x, x * size / n, x * size % n, false⟩ := rfl
        obtain ⟨P, hP⟩ : ∃ P, x * size = P := ⟨_, rfl⟩
        rw [hP] at hP0 hP1 hmk
        have hw1 : IntKind.i64.wrap (x * size) = P := by rw [hP, IntKind.wrap_i64]; omega
        have hQ0 : 0 ≤ P / n := Int.ediv_nonneg hP0 (by omega)
        have hQ1 : P / n ≤ P := Int.ediv_le_self _ hP0
        have hR0 : 0 ≤ P % n := Int.emod_nonneg _ (by omega)
        have hR1 : P % n < n := Int.emod_lt_of_pos _ hn0
        have hd1 : P.tdiv n = P / n := Int.tdiv_eq_ediv_of_nonneg hP0
        have hd2 : P.tmod n = P % n := Int.tmod_eq_emod_of_nonneg hP0
        obtain ⟨q, hq⟩ : ∃ q, P / n = q := ⟨_, rfl⟩
        obtain ⟨r, hrr⟩ : ∃ r, P % n = r := ⟨_, rfl⟩
        rw [hq] at hQ0 hQ1 hd1 hmk
        rw [hrr] at hR0 hR1 hd2 hmk
        have hw2 : IntKind.i64.wrap q = q := by rw [IntKind.wrap_i64]; omega
        have hw3 : IntKind.i64.wrap r = r := by rw [IntKind.wrap_i64]; omega
        have hwP : IntKind.i64.wrap P = P := by rw [IntKind.wrap_i64]; omega
        have hnz : ¬ n = 0 := by omega
        have HMK := Lib.hid hmk; have HP := Lib.hid hP
        clear hmo hmk hP hq hrr
        have hoa : ∀ A A' : Obj, ((wr.alloc A).alloc A').drew.ownsRow w.heap.size 49 5 u (shTo c size n k).length (svs (shTo c size n k)) := fun A A' => ((HOWN.out.alloc A).alloc A').drew
        have hba : ∀ A A' : Obj, ((wr.alloc A).alloc A').drew.heap[wr.heap.size + 1]? = some A' := fun A A' => heap_alloc2_new wr A A'
        have hsa : ∀ A A' : Obj, w.heap.size ≤ ((wr.alloc A).alloc A').drew.heap.size := fun A A' => by have := hXB.out; simp [World.drew]; omega
        have hca : ∀ (A A' : Obj) (w2 : World), Chg (fun k => some k = u.ownBlock) ((wr.alloc A).alloc A').drew w2 → Chg (fun _ => False) w w2 := fun A A' w2 h2 => by
          have h3 : Chg (fun _ => False) w ((wr.alloc A).alloc A').drew := ((HC.out.trans (Chg.alloc (fun _ => False) wr A) fun _ _ h => h).trans (Chg.alloc (fun _ => False) _ A') fun _ _ h => h).drew
          exact h3.trans h2 fun q hq he => by have := (HOWN.out.lt q he.symm).1; omega
        have hll : (shTo c size n k).length ≤ 100000 := by have := shTo_length c size n k; omega
        have HOA := Lib.hid hoa; have HBA := Lib.hid hba; have HSA := Lib.hid hsa; have HCA := Lib.hid hca; have HLL := Lib.hid hll
        clear hoa hba hsa hca hll
        go_wp2
        go_region
        by_cases hqz : q = 0
        · subst hqz
          have hmk := HMK.out
          rw [if_pos rfl] at hmk
          have HMK2 := Lib.hid hmk
          clear hmk
          go_wp2_with (at_builtin; refine wpList_append_share rfl (.tmp 39) (.tmp 41) rfl w.heap.size u (shTo c size n k) ⟨(k : Int), x, 1, r, true⟩ rfl (HOA.out _ _) (wr.heap.size + 1) rfl (HBA.out _ _) HLL.out (HSA.out _ _) ?_)
          intro v2 w2 ho2 hc2
          have hc3 := HCA.out _ _ w2 hc2
          have HO2 := Lib.hid ho2; have HC3 := Lib.hid hc3
          clear ho2 hc2 hc3
          go_wp2
          go_roundw
          case rel => exact ⟨k + 1, v2, by omega, by go_num, rfl, by rw [HMO.out, HMK2.out, List.length_append]; exact HO2.out, HC3.out⟩
          case measure => simp [intOf]; omega
        · have hmk := HMK.out
          rw [if_neg hqz] at hmk
          have HMK2 := Lib.hid hmk
          clear hmk
          go_wp2_with (at_builtin; refine wpList_append_share rfl (.tmp 39) (.tmp 41) rfl w.heap.size u (shTo c size n k) ⟨(k : Int), x, q, r, false⟩ rfl (HOA.out _ _) (wr.heap.size + 1) rfl (HBA.out _ _) HLL.out (HSA.out _ _) ?_)
          intro v2 w2 ho2 hc2
          have hc3 := HCA.out _ _ w2 hc2
          have HO2 := Lib.hid ho2; have HC3 := Lib.hid hc3
          clear ho2 hc2 hc3
          go_wp2
          go_roundw
          case rel => exact ⟨k + 1, v2, by omega, by go_num, rfl, by rw [HMO.out, HMK2.out, List.length_append]; exact HO2.out, HC3.out⟩
          case measure => simp [intOf]; omega
    · obtain rfl : k = m := by omega
      have h256 := HM256.out
      rw [h256] at hown
      have HOWN := Lib.hid hown; have HC := Lib.hid hc
      clear hown hc h256
      go_wp2
      go_ret
      exact ⟨_, rfl, HOWN.out, HC.out⟩

theorem own_rd {w : World} {B : Nat} {u : Value} {l : List Sh} (h : w.ownsRow B 49 5 u l.length (svs l)) (k : Nat) (hk : k < l.length) : ∃ g cap, u = .slice (some ⟨g, 0, none⟩) l.length cap ∧
    w.cell? ⟨g, k * 5, none⟩ = some (.int .i64 (l.getD k default).sym) ∧ w.cell? ⟨g, k * 5 + 1, none⟩ = some (.int .i64 (l.getD k default).cnt) ∧ w.cell? ⟨g, k * 5 + 2, none⟩ = some (.int .i64 (l.getD k default).plc) ∧
    w.cell? ⟨g, k * 5 + 3, none⟩ = some (.int .i64 (l.getD k default).lft) ∧ w.cell? ⟨g, k * 5 + 4, none⟩ = some (.bool (l.getD k default).rai) := by
  obtain ⟨ao, cap, rfl⟩ := own_form h
  obtain ⟨g, rfl, _⟩ := own_slice h (by omega)
  exact ⟨g, cap, rfl, own_at h rfl k hk⟩
theorem layL_length (q : List Int) (l : List Sh) : (layL q l).length = q.length := by
  induction l generalizing q with
  | nil => rfl
  | cons x r ih => rw [layL, ih, List.length_set]
theorem layL_take (q : List Int) (l : List Sh) (k : Nat) (hk : k < l.length) : layL q (l.take (k + 1)) = (layL q (l.take k)).set (l.getD k default).sym.toNat (l.getD k default).plc := by
  rw [List.take_succ_eq_append_getElem hk, layL_append, List.getD_eq_getElem?_getD, List.getElem?_eq_getElem hk]; rfl

set_option maxHeartbeats 2000000 in
theorem ntold_any (u : Value) (l : List Sh) (B : Nat) (w : World) (h : w.ownsRow B 49 5 u l.length (svs l)) (hl : l.length ≤ 100000) (hsy : ∀ s ∈ l, 0 ≤ s.sym ∧ s.sym < 256) (Z : List Int) (hZ : Z = List.replicate 256 0) :
    Calls Try.prog 21 #[u] w fun e w' => ∃ v', e = .returned v' ∧ OwnI w' w.heap.size v' (layL Z l) ∧ Chg (fun _ => False) w w' := by
  have H := Lib.hid h; have HSY := Lib.hid hsy
  obtain ⟨ao, cap, rfl⟩ := own_form h
  obtain ⟨m, hm⟩ : ∃ m, l.length = m := ⟨_, rfl⟩
  rw [hm] at H hl ⊢
  have HM := Lib.hid hm; have HZ := Lib.hid hZ
  have hmI : (m : Int) ≤ 100000 := by omega
  have hZl : Z.length = 256 := by rw [hZ]; exact List.length_replicate
  have HZL := Lib.hid hZl
  clear h hsy hm hl hZ hZl
  go_enter Try.func21, Try.ntmps21
  go_wp2_with (at_make; refine wpList_make_ints rfl _ _ rfl 256 256 256 rfl rfl rfl rfl (by omega) Z HZ.out ?_)
  intro w1 hrow1 hc1
  have HR1 := Lib.hid hrow1; have HC1 := Lib.hid hc1
  obtain ⟨G, hG⟩ : ∃ G, w.heap.size = G := ⟨_, rfl⟩
  rw [hG] at HR1 ⊢
  have HG := Lib.hid hG
  clear hrow1 hc1 hG
  go_wp2
  go_loopw [9] (fun o9 wr => ∃ k : Nat, k ≤ m ∧ o9 = .int .i64 (k : Int) ∧ RowI wr G 3 (layL Z (l.take k)) ∧ Chg (fun _ => False) w wr) (fun o9 _ => m - (intOf o9).toNat)
  case atStart => exact ⟨0, Nat.zero_le _, rfl, by rw [List.take_zero]; exact HR1.out, HC1.out⟩
  case round =>
    clear HR1 HC1
    obtain ⟨k, hk, rfl, hrow, hc⟩ := hrel
    by_cases hlt : k < m
    · have hown := hc.own H.out (by simp)
      rw [← HM.out] at hown
      obtain ⟨g, cap', he, c0, c1, c2, c3, c4⟩ := own_rd hown k (by rw [HM.out]; exact hlt)
      simp only [Value.slice.injEq] at he
      obtain ⟨rfl, -, -⟩ := he
      have hsy := HSY.out (l.getD k default) (by rw [List.getD_eq_getElem?_getD, List.getElem?_eq_getElem (by rw [HM.out]; exact hlt)]; exact List.getElem_mem _)
      have hst := layL_take Z l k (by rw [HM.out]; exact hlt)
      obtain ⟨⟨sy, ct, pl, lf, ra⟩, hs⟩ : ∃ s, l.getD k default = s := ⟨_, rfl⟩
      rw [hs] at c0 c1 c2 c3 c4 hsy hst
      simp only [] at c0 c1 c2 c3 c4 hsy hst
      obtain ⟨i, rfl⟩ : ∃ i : Nat, sy = (i : Int) := ⟨sy.toNat, by omega⟩
      rw [Int.toNat_natCast] at hst
      have hi : i < 256 := by omega
      have hlay : (layL Z (l.take k)).length = 256 := by rw [layL_length]; exact HZL.out
      have hca := Chg.alloc (fun _ => False) wr (.cells #[.int .i64 (i : Int), .int .i64 ct, .int .i64 pl, .int .i64 lf, .bool ra] 49)
      have hnew := heap_alloc_new wr (.cells #[.int .i64 (i : Int), .int .i64 ct, .int .i64 pl, .int .i64 lf, .bool ra] 49)
      obtain ⟨W1, hW1⟩ : ∃ W1, wr.alloc (.cells #[.int .i64 (i : Int), .int .i64 ct, .int .i64 pl, .int .i64 lf, .bool ra] 49) = W1 := ⟨_, rfl⟩
      rw [hW1] at hca hnew
      have hrow1 := hrow.kept hca (by simp)
      have d0 : W1.cell? ⟨wr.heap.size, 0, none⟩ = some (.int .i64 (i : Int)) := by rw [cell_of_row _ _ 0 _ _ _ hnew]; rfl
      have d2 : W1.cell? ⟨wr.heap.size, 2, none⟩ = some (.int .i64 pl) := by rw [cell_of_row _ _ 2 _ _ _ hnew]; rfl
      have e0 := hrow1.cell i (by omega)
      have e1 := hrow1.free i
      have hr2 := hrow1.set i pl
      rw [← hst] at hr2
      have hc2 : Chg (fun _ => False) w (W1.setCell ⟨G, i, none⟩ (.int .i64 pl)) := (hc.trans hca fun _ _ h => h).trans (Chg.setCell W1 ⟨G, i, none⟩ _) fun q hq he => by have := HG.out; simp at he; omega
      obtain ⟨z, hz⟩ : ∃ z, (layL Z (l.take k)).getD i 0 = z := ⟨_, rfl⟩
      rw [hz] at e0
      have hi2 : (i : Int) < 256 := by omega
      have HR2 := Lib.hid hr2; have HC2 := Lib.hid hc2
      clear hrow hc hown hst hs hca hnew hrow1 hlay hr2 hc2 hz hsy
      have hkm : (k : Int) < (m : Int) := by omega
      go_wp2
      go_roundw
      case rel => exact ⟨k + 1, by omega, by go_num, HR2.out, HC2.out⟩
      case measure => simp [intOf]; omega
    · obtain rfl : k = m := by omega
      rw [List.take_of_length_le (by rw [HM.out]; exact Nat.le_refl _)] at hrow
      have hlay : (layL Z l).length = 256 := by rw [layL_length]; exact HZL.out
      have hown := hrow.own 256 G (Nat.le_refl _)
      rw [hlay] at hown
      have HO := Lib.hid hown; have HC := Lib.hid hc
      clear hrow hc hlay hown
      go_wp2
      go_ret
      exact ⟨_, rfl, by rw [HG.out]; exact HO.out, HC.out⟩

end Go.Proofs.Ytnijfkbnggdbnaa
