/- The walk of BitrOwn. -/
import Derived.Test.YtdejfoemofhpdaaBrSplits
namespace Go.Proofs.Ytdejfoemofhpdaa
open Go.RowKit

def iv (zs : List Int) : List Value := zs.map fun z => .int .u8 z
theorem iv_length (zs : List Int) : (iv zs).length = zs.length := by simp [iv]
theorem iv_get (zs : List Int) (i : Nat) (h : i < zs.length) : (iv zs)[i]? = some (.int .u8 (zs.getD i 0)) := by simp [iv, List.getElem?_eq_getElem h]
theorem iv_set (zs : List Int) (i : Nat) (z : Int) : (iv zs).set i (.int .u8 z) = iv (zs.set i z) := by simp [iv, List.map_set]
theorem bv_iv (xs : List Nat) : bv xs = iv (xs.map fun n : Nat => (n : Int)) := by simp [bv, iv]

/-- bytes that are read, as an append's source -/
theorem RdB.src {w : World} {g off n cap : Nat} {xs : List Nat} (h : RdB w (.slice (some ⟨g, off, none⟩) n cap) xs) (hn : 0 < n) : ∀ j u, (bv xs)[j]? = some u → w.cell? ((⟨g, off, none⟩ : Addr).add j) = some u := by
  intro j u hu
  rcases h with ⟨_, ao, c, he⟩ | ⟨g', off', cap', he, hcc⟩
  · simp at he; omega
  · simp only [Value.slice.injEq, Option.some.injEq, Addr.mk.injEq, and_true] at he
    obtain ⟨⟨rfl, rfl⟩, _, _⟩ := he
    have hj : j < xs.length := by
      rw [← bv_length]; exact (List.getElem?_eq_some_iff.1 hu).1
    rw [bv_get xs j hj] at hu
    rw [← Option.some.inj hu, show (⟨g, off, none⟩ : Addr).add j = ⟨g, off + j, none⟩ from by unfold Addr.add; split <;> simp_all]
    exact hcc j hj

set_option maxHeartbeats 2000000 in
set_option maxRecDepth 100000 in
theorem rown_empty (v : Value) (x n : Nat) (w : World) (h : RdB w v []) (hn : n < 256) (hx : x < 256) :
    Calls Try.prog 7 #[v, .int .u8 (x : Int), .int .u8 (n : Int)] w fun e w' => Says w e w' := by
  obtain ⟨ao, cap, hv⟩ := h.form
  subst hv
  simp only [List.length_nil] at h ⊢
  have H := Lib.hid h
  clear h
  cases ao
  all_goals
    go_enter Try.func7, Try.ntmps7
    go_wp2_with fail
    refine (awake2_any w).mono ?_
    rintro e w1 ⟨rfl, hc1⟩
    have h1 := H.out.kept hc1 (by simp)
    have hc1' := hc1.trans (Chg.alloc (fun _ => False) w1 (.cells #[] 5)) (fun _ _ h => h)
    have h2 := h1.kept (Chg.alloc (fun _ => False) w1 (.cells #[] 5)) (by simp)
    have h3 : RdB (w1.alloc (.cells #[] 5)) (.slice (some ⟨w1.heap.size, 0, none⟩) 0 0) [] := .inl ⟨rfl, _, 0, rfl⟩
    have H2 := Lib.hid h2; have H3 := Lib.hid h3
    clear h1 h2 h3
    go_wp2_with fail
    refine (rnew_no _ [] _ H2.out (by decide) (by decide)).mono ?_
    rintro e w2 ⟨rfl, rfl⟩
    go_wp2_with fail
    refine (rnew_no _ [] _ H3.out (by decide) (by decide)).mono ?_
    rintro e w2 ⟨rfl, rfl⟩
    clear H H2 H3 hc1
    go_wp2
    go_loopw [13] (fun o13 wr => o13 = .int .i64 0 ∧ wr = w1.alloc (.cells #[] 5)) (fun _ _ => 0)
    case atStart => exact ⟨rfl, rfl⟩
    case round =>
      obtain ⟨rfl, rfl⟩ := hrel
      go_wp2
      go_ret
      exact ⟨rfl, hc1'⟩

set_option maxHeartbeats 4000000 in
set_option maxRecDepth 100000 in
theorem rown_full (v : Value) (xs : List Nat) (x n : Nat) (w : World) (h : RdB w v xs) (hxs : ∀ y ∈ xs, y < 256) (hne : xs ≠ []) (hn : n < 256) (hx : x < 256) :
    Calls Try.prog 7 #[v, .int .u8 (x : Int), .int .u8 (n : Int)] w fun e w' => Says w e w' := by
  obtain ⟨g, off, cap, rfl, hcells⟩ : ∃ g off cap, v = .slice (some ⟨g, off, none⟩) xs.length cap ∧ ∀ j, j < xs.length → w.cell? ⟨g, off + j, none⟩ = some (.int .u8 ((xs.getD j 0 : Nat) : Int)) := by
    rcases h with ⟨h0, _⟩ | h
    · exact absurd h0 hne
    · exact h
  have hpos : 0 < xs.length := List.length_pos_iff.2 hne
  have H := Lib.hid h; have HXS := Lib.hid hxs
  clear h hcells hxs hne
  by_cases hbig : 200 < xs.length
  · go_enter Try.func7, Try.ntmps7
    go_wp2_with fail
    refine (awake2_any w).mono ?_
    rintro e w1 ⟨rfl, hc1⟩
    go_wp2
    go_ret
    exact ⟨rfl, hc1⟩
  · obtain ⟨i, hi, hz0, hz1, hz2⟩ := info_parts Try.infoU8
    obtain ⟨m, hm, hm24⟩ : ∃ m : Nat, (n : Int) % 25 = (m : Int) ∧ m ≤ 24 := ⟨n % 25, by omega, by omega⟩
    go_enter Try.func7, Try.ntmps7
    go_wp2_with fail
    refine (awake2_any w).mono ?_
    rintro e w1 ⟨rfl, hc1⟩
    have h1 := H.out.kept hc1 (by simp)
    have z1 := hc1.size
    have h1' := h1.kept (Chg.alloc (fun _ => False) w1 (.cells #[] 5)) (by simp)
    have hsrc := h1'.src hpos
    have HCE := Lib.hid hsrc; have H1 := Lib.hid h1; have HC1 := Lib.hid hc1
    clear hsrc h1 h1' hc1 H
    go_wp2_with (at_builtin; refine wpList_append_own _ rfl (.tmp 23) (.tmp 24) 22 rfl w1.heap.size 5 i (.int .u8 0) 1 1 Try.underlying22 hi hz0 hz1 hz2 rfl (by decide) _ 0 _ rfl (World.ownsRow_made w1 #[] 0 (Nat.le_refl _) (by unfold maxLen; omega) rfl) ⟨g, off, none⟩ xs.length cap (bv xs) rfl (by rw [bv_length, Nat.mul_one]) HCE.out (bv_one xs) (by unfold maxLen; omega) (by omega) (by simp) ?_)
    intro vc w2 ho2 hg2 _
    have hc2 : Chg (fun _ => False) w1 w2 := (Chg.alloc (fun _ => False) w1 _).trans (Chg.of_grown hg2) (fun j hj hx => by simp [Value.ownBlock] at hx; omega)
    have ho2 : w2.ownsRow w1.heap.size 5 1 vc xs.length (bv xs) := by simpa using ho2
    obtain ⟨gc, capc, hvc, hgc⟩ := slice_of_own ho2 hpos
    subst hvc
    have hgl2 := (ho2.lt gc rfl).2
    have h2 := H1.out.kept hc2 (by simp)
    have hc2' := HC1.out.trans hc2 (fun _ _ h => h)
    have rc2 := RdB.of_own ho2
    have z2 := hc2.size
    have HZ : Hid (w.heap.size ≤ gc) := Lib.hid (by omega)
    clear hg2 HCE H1 HC1 hc2
    by_cases hmk : Marked xs
    · go_wp2_with fail
      refine (rnew_ok _ xs w2 h2 hmk (by omega) HXS.out).mono ?_
      rintro e w3 ⟨b1, g1, rfl, r3, zb1, zg1, hc3⟩
      have ho3 := hc3.own ho2 (by simp)
      have rc3 := rc2.kept hc3 (by simp)
      have hc3' := hc2'.trans hc3 (fun _ _ h => h)
      have z3 := hc3.size
      have hl3 := r3.lt
      clear ho2 rc2 h2 hc3 hc2'
      go_wp2_with fail
      refine (rnew_ok _ xs w3 rc3 hmk (by omega) HXS.out).mono ?_
      rintro e w4 ⟨b2, g2, rfl, r4', zb2, zg2, hc4⟩
      have ho4 := hc4.own ho3 (by simp)
      have r4 := r3.kept hc4 (by simp) (by simp)
      have hc4' := hc3'.trans hc4 (fun _ _ h => h)
      have HD : Hid (gc ≠ b1 ∧ gc ≠ g1 ∧ gc ≠ b2 ∧ gc ≠ g2) := Lib.hid (by omega)
      have HDD : Hid (b1 ≠ b2 ∧ g1 ≠ b2 ∧ b2 ≠ b1 ∧ g2 ≠ b1 ∧ w.heap.size ≤ b1 ∧ w.heap.size ≤ b2) := Lib.hid (by omega)
      obtain ⟨bs, hbs⟩ : ∃ bs, openB xs = bs := ⟨_, rfl⟩
      rw [hbs] at r4 r4'
      clear ho3 rc3 hc4 hc3' r3 hl3 zb1 zg1 zb2 zg2 hgl2 hbs z1 z2 z3
      go_wp2
      go_loopw [13] (fun o13 wr => ∃ (k : Nat) (zs : List Int), k ≤ xs.length ∧ o13 = .int .i64 (k : Int) ∧ wr.ownsRow w1.heap.size 5 1 (.slice (some ⟨gc, 0, none⟩) xs.length capc) xs.length (iv zs) ∧ Rr wr b1 g1 bs ∧ Rr wr b2 g2 bs ∧ Chg (fun _ => False) w wr) (fun o13 _ => xs.length - (intOf o13).toNat)
      case atStart => exact ⟨0, xs.map fun n : Nat => (n : Int), Nat.zero_le _, rfl, by rw [← bv_iv]; exact ho4, r4, r4', hc4'⟩
      case round =>
        obtain ⟨k, zs, hk, rfl, ho, r, r', hc⟩ := hrel
        clear ho4 r4 r4' hc4'
        by_cases hlt : k < xs.length
        · have hzl : zs.length = xs.length := by have := ho.1; rw [iv_length] at this; omega
          obtain ⟨z, hz⟩ : ∃ z, zs.getD k 0 = z := ⟨_, rfl⟩
          have hcell := ho.cellAt k (by omega)
          rw [iv_get zs k (by omega), hz] at hcell
          have hfr := ho.frozenAt k
          have hst := ho.stored k (.int .u8 (bits .xor .u8 z (x : Int)))
          have hgl := ho.lt gc rfl
          rw [iv_set] at hst
          have HST := Lib.hid hst.1
          have HCS := Lib.hid (Chg.setCell wr ⟨gc, k, none⟩ (.int .u8 (bits .xor .u8 z (x : Int))))
          clear hst hz ho
          go_wp2
          go_roundw
          case rel => exact ⟨k + 1, _, by omega, by go_num, HST.out, r.kept HCS.out (fun h => HD.out.1 h.symm) (fun h => HD.out.2.1 h.symm), r'.kept HCS.out (fun h => HD.out.2.2.1 h.symm) (fun h => HD.out.2.2.2 h.symm), hc.trans HCS.out (fun i hi h => by have := HZ.out; have h' : i = gc := h; omega)⟩
          case measure => simp [intOf]; omega
        · obtain rfl : k = xs.length := by omega
          clear ho
          by_cases hml : m ≤ bs.length
          · go_wp2_with fail
            refine (take_in b1 g1 bs (m : Int) wr r (by omega) (by omega) (by omega)).mono ?_
            rintro e w5 ⟨rfl, r5, hc5⟩
            have r5' := r'.kept hc5 HDD.out.2.2.1 HDD.out.2.2.2.1
            have hc5' := hc.trans hc5 (S := fun _ => False) (fun i hi h => by have := HDD.out; omega)
            clear r r' hc5 hc
            go_wp2_with fail
            refine (take_in b2 g2 bs (m : Int) w5 r5' (by omega) (by omega) (by omega)).mono ?_
            rintro e w6 ⟨rfl, r6', hc6⟩
            have r6 := r5.kept hc6 HDD.out.1 HDD.out.2.1
            have hc6' := hc5'.trans hc6 (S := fun _ => False) (fun i hi h => by have := HDD.out; omega)
            clear r5 r5' hc6 hc5'
            rw [Int.toNat_natCast] at r6 r6' ⊢
            generalize takeR bs m = rest at *
            generalize takeV bs m = vv at *
            go_wp2_with fail
            refine (left_any b1 g1 _ w6 r6).mono ?_
            rintro e w7 ⟨rfl, rfl⟩
            go_wp2_with fail
            refine (left_any b2 g2 _ w6 r6').mono ?_
            rintro e w7 ⟨rfl, rfl⟩
            go_wp2
            go_ret
            exact ⟨rfl, hc6'⟩
          · go_wp2_with fail
            refine (take_no b1 g1 bs (m : Int) wr r (by omega)).mono ?_
            rintro e w5 ⟨rfl, rfl⟩
            go_wp2_with fail
            refine (take_no b2 g2 bs (m : Int) wr r' (by omega)).mono ?_
            rintro e w5 ⟨rfl, rfl⟩
            go_wp2_with fail
            refine (left_any b1 g1 _ wr r).mono ?_
            rintro e w7 ⟨rfl, rfl⟩
            go_wp2_with fail
            refine (left_any b2 g2 _ wr r').mono ?_
            rintro e w7 ⟨rfl, rfl⟩
            go_wp2
            go_ret
            exact ⟨rfl, hc⟩
    · go_wp2_with fail
      refine (rnew_no _ xs w2 h2 hmk (by omega)).mono ?_
      rintro e w3 ⟨rfl, rfl⟩
      go_wp2_with fail
      refine (rnew_no _ xs w2 rc2 hmk (by omega)).mono ?_
      rintro e w3 ⟨rfl, rfl⟩
      have ho4 := ho2
      have hc4' := hc2'
      clear ho2 hc2' rc2 h2 hgl2
      go_wp2
      go_loopw [13] (fun o13 wr => ∃ (k : Nat) (zs : List Int), k ≤ xs.length ∧ o13 = .int .i64 (k : Int) ∧ wr.ownsRow w1.heap.size 5 1 (.slice (some ⟨gc, 0, none⟩) xs.length capc) xs.length (iv zs) ∧ Chg (fun _ => False) w wr) (fun o13 _ => xs.length - (intOf o13).toNat)
      case atStart => exact ⟨0, xs.map fun n : Nat => (n : Int), Nat.zero_le _, rfl, by rw [← bv_iv]; exact ho4, hc4'⟩
      case round =>
        obtain ⟨k, zs, hk, rfl, ho, hc⟩ := hrel
        clear ho4 hc4'
        by_cases hlt : k < xs.length
        · have hzl : zs.length = xs.length := by have := ho.1; rw [iv_length] at this; omega
          obtain ⟨z, hz⟩ : ∃ z, zs.getD k 0 = z := ⟨_, rfl⟩
          have hcell := ho.cellAt k (by omega)
          rw [iv_get zs k (by omega), hz] at hcell
          have hfr := ho.frozenAt k
          have hst := ho.stored k (.int .u8 (bits .xor .u8 z (x : Int)))
          have hgl := ho.lt gc rfl
          rw [iv_set] at hst
          have HST := Lib.hid hst.1
          have HCS := Lib.hid (Chg.setCell wr ⟨gc, k, none⟩ (.int .u8 (bits .xor .u8 z (x : Int))))
          clear hst hz ho
          go_wp2
          go_roundw
          case rel => exact ⟨k + 1, _, by omega, by go_num, HST.out, hc.trans HCS.out (fun i hi h => by have := HZ.out; have h' : i = gc := h; omega)⟩
          case measure => simp [intOf]; omega
        · obtain rfl : k = xs.length := by omega
          clear ho
          go_wp2
          go_ret
          exact ⟨rfl, hc⟩

theorem rown_any (v : Value) (xs : List Nat) (x n : Nat) (w : World) (h : RdB w v xs) (hxs : ∀ y ∈ xs, y < 256) (hx : x < 256) (hn : n < 256) :
    Calls Try.prog 7 #[v, .int .u8 (x : Int), .int .u8 (n : Int)] w fun e w' => Says w e w' := by
  by_cases hne : xs = []
  · subst hne; exact rown_empty v x n w h hn hx
  · exact rown_full v xs x n w h hxs hne hn hx

end Go.Proofs.Ytdejfoemofhpdaa
