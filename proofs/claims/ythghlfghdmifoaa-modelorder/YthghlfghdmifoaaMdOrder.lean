/- ModelOrder: the list of all hangs on no order of the bytes; bytes that each stand twice in a row have lists that know themselves. -/
import Derived.Test.YthghlfghdmifoaaMdOrdA
namespace Go.Proofs.Ythghlfghdmifoaa
open Go.RowKit

/-- two models of the same bytes, in the blocks g and g9 -/
def TwoAt (m : Md) (W0 : World) (g g9 : Nat) (wx : World) : Prop := (∃ a n p, Mb wx g m.log m.one (.slice a n p) ∧ RdLL wx (.slice a n p) m.cs) ∧ (∃ a n p, Mb wx g9 m.log m.one (.slice a n p) ∧ RdLL wx (.slice a n p) m.cs) ∧ Chg (fun _ => False) W0 wx

theorem mb_new (w : World) : Mb (w.alloc (.cells #[.int .i64 0, .bool false, .slice none 0 0] 26)) w.heap.size 0 false (.slice none 0 0) := heap_alloc_new w _

section
variable {W2 w10 : World} {g B : Nat} {lz : Int} {oz : Bool} {cz : List (List Int)} {a2 a10 : Option Addr} {n2 p2 n10 p10 : Nat}
theorem twoA (hmb : Mb W2 g lz oz (.slice a2 n2 p2)) (hl : RdLL W2 (.slice a2 n2 p2) cz) (hc : Chg (fun _ => False) W2 w10) (hm : RdMF B w10 (.agg #[.int .i64 lz, .bool oz, .slice a10 n10 p10]) ⟨lz, oz, cz⟩) :
    TwoAt ⟨lz, oz, cz⟩ W2 g w10.heap.size (w10.alloc (.cells #[.int .i64 lz, .bool oz, .slice a10 n10 p10] 26)) := by
  have c1 := Chg.alloc (fun _ => False) w10 (.cells #[.int .i64 lz, .bool oz, .slice a10 n10 p10] 26)
  have hcc := hc.trans c1 fun _ _ h => h
  obtain ⟨cv, he, hl10⟩ := hm.rd
  simp [mdv] at he
  subst he
  exact ⟨⟨a2, n2, p2, hmb.kept hcc (fun h => h), hl.kept hcc⟩, ⟨a10, n10, p10, heap_alloc_new w10 _, hl10.kept c1⟩, hcc⟩
theorem twoB {g9 : Nat} (hmb : Mb W2 g lz oz (.slice a2 n2 p2)) (hl : RdLL W2 (.slice a2 n2 p2) cz) (hc : Chg (fun _ => False) W2 w10) (hm : RdMF B w10 (.agg #[.int .i64 lz, .bool oz, .slice a10 n10 p10]) ⟨lz, oz, cz⟩) (hx : Mb w10 g9 0 false (.slice none 0 0)) (hg : W2.heap.size ≤ g9) (hB : g9 < B) :
    TwoAt ⟨lz, oz, cz⟩ W2 g g9 (((w10.setCell ⟨g9, 0, none⟩ (.int .i64 lz)).setCell ⟨g9, 1, none⟩ (.bool oz)).setCell ⟨g9, 2, none⟩ (.slice a10 n10 p10)) := by
  have c1 := W3_chg w10 g9 lz oz (.slice a10 n10 p10)
  have hcc : Chg (fun _ => False) W2 (W3 w10 g9 lz oz (.slice a10 n10 p10)) := hc.trans c1 fun k hk he => by omega
  obtain ⟨cv, he, hl10⟩ := hm _ _ c1 (fun k hk he => by omega)
  simp [mdv] at he
  subst he
  exact ⟨⟨a2, n2, p2, hmb.kept hcc (fun h => h), hl.kept hcc⟩, ⟨a10, n10, p10, (W3_cells hx lz oz (.slice a10 n10 p10)).2.2.2, hl10⟩, hcc⟩
end

set_option maxHeartbeats 8000000 in
theorem morder_any (v : Value) (xs : List Nat) (by' : Nat) (w : World) (h : RdB w v xs) (hx : ∀ x ∈ xs, x < 256) (hr : RoomOk v) (hb8 : by' < 256) :
    Calls Try.prog 7 #[v, .int .u8 (by' : Int)] w fun e w' => Says w e w' := by
  have HAW := Lib.hid (awake16_any w)
  obtain ⟨ao, cap, rfl⟩ := h.form
  have H := Lib.hid h; have HX := Lib.hid hx; have HRM := Lib.hid hr
  have hroom : xs.length ≤ cap := hr _ _ _ rfl
  clear h hx hr
  go_enter Try.func7, Try.ntmps7
  go_wp2_with fail
  refine HAW.out.mono ?_
  rintro e w1 ⟨rfl, hc1⟩
  have HC1 := Lib.hid hc1
  clear hc1 HAW
  by_cases hbig : 40 < xs.length
  · have d1 : decide (40 < (xs.length : Int)) = true := decide_eq_true (by omega)
    go_wp2
    go_ret
    exact ⟨rfl, HC1.out⟩
  have d1 : decide (40 < (xs.length : Int)) = false := decide_eq_false (by omega)
  by_cases h0 : xs.length = 0
  · rw [h0]
    go_wp2
    go_ret
    exact ⟨rfl, HC1.out⟩
  have hpos : 0 < xs.length := by omega
  have hne : xs ≠ [] := fun he => by rw [he] at h0; simp at h0
  have hcn : by' % xs.length < xs.length := Nat.mod_lt by' hpos
  have hcI : (by' : Int) % (xs.length : Int) = ((by' % xs.length : Nat) : Int) := by simp
  obtain ⟨k, hk⟩ : ∃ k, by' % xs.length = k := ⟨_, rfl⟩
  rw [hk] at hcn hcI
  have hcT : (by' : Int).tmod (xs.length : Int) = (k : Int) := by rw [Int.tmod_eq_emod_of_nonneg (by omega)]; exact hcI
  obtain ⟨af, cf, hsf, hrf⟩ := mslice_from H.out (q := k) (by omega) hroom
  obtain ⟨hsu, hru⟩ := mslice_upto H.out (n := k) (by omega) hroom
  have hzt := zero_turn xs k (by omega)
  have hlt2 : ∀ y ∈ xs.drop k ++ xs.take k, y < 256 := fun y hy => by
    rcases List.mem_append.1 hy with h1 | h1
    · exact HX.out y (List.mem_of_mem_drop h1)
    · exact HX.out y (List.mem_of_mem_take h1)
  have hne2 : xs.drop k ++ xs.take k ≠ [] := fun he => by
    have := congrArg List.length he
    simp at this; omega
  have hll2 : (xs.drop k ++ xs.take k).length = xs.length := by simp; omega
  have hzz := fun W hW => mzero_any (.slice ao xs.length cap) xs W hW HX.out (by omega) HRM.out
  rw [if_neg hne, if_neg hne] at hzz
  have hzy := fun W u hW hrm => mzero_any u (xs.drop k ++ xs.take k) W hW hlt2 (by rw [hll2]; omega) hrm
  rw [if_neg hne2, if_neg hne2, hzt] at hzy
  have hfz := (zero_right xs HX.out (by omega) hpos).fit64
  obtain ⟨mz, hmz⟩ : ∃ mz, zeroM xs = mz := ⟨_, rfl⟩
  rw [hmz] at hzz hzy hfz
  obtain ⟨N, hN⟩ : ∃ N, xs.length = N := ⟨_, rfl⟩
  have HN := Lib.hid hN
  rw [hN] at H HRM hbig d1 h0 hpos hcn hcI hcT hsf hrf hsu hru hzz ⊢
  have hne0 : ((N : Int) == 0) = false := by simp; omega
  have hNI : (N : Int) ≤ 40 := by omega
  have hnz : ((N : Int) = 0) = False := by simp; omega
  obtain ⟨lz, oz, cz⟩ := mz
  have HZZ := Lib.hid hzz; have HZY := Lib.hid hzy; have HFZ := Lib.hid hfz; have HRF := Lib.hid hrf; have HRU := Lib.hid hru; have HLL2 := Lib.hid hll2
  clear hzz hzy hfz hrf hru hll2 hne hne2 hlt2 hzt hmz hN hk hroom
  go_wp2_with fail
  refine (HZZ.out w1 (H.out.kept HC1.out (by simp))).mono ?_
  rintro e w2 ⟨u, rfl, hm2, hc2⟩
  obtain ⟨a2, p2, rfl, hl2⟩ := hm2.rd.form
  simp only [] at hl2 ⊢
  obtain ⟨n2, hn2⟩ : ∃ n2, cz.length = n2 := ⟨_, rfl⟩
  have HN2 := Lib.hid hn2
  rw [hn2] at hl2 ⊢
  have hca := Chg.alloc (fun _ => False) w2 (.cells #[.int .i64 lz, .bool oz, .slice a2 n2 p2] 26)
  have hmb : Mb _ _ lz oz (.slice a2 n2 p2) := heap_alloc_new w2 (.cells #[.int .i64 lz, .bool oz, .slice a2 n2 p2] 26)
  obtain ⟨W2, hW2⟩ : ∃ W2, w2.alloc (.cells #[.int .i64 lz, .bool oz, .slice a2 n2 p2] 26) = W2 := ⟨_, rfl⟩
  rw [hW2] at hca hmb
  have hcw := (HC1.out.trans hc2 fun _ _ h => h).trans hca fun _ _ h => h
  have HMB := Lib.hid hmb; have HCW := Lib.hid hcw; have HL2 := Lib.hid (hl2.kept hca)
  have hzm := zeroModel
  -- what stands ahead of the second making
  have HO1 := Lib.hid (show ((W2.alloc (.cells #[.int .i64 0, .bool false, .slice none 0 0] 26)).alloc (.cells #[] 5)).drew.ownsRow W2.heap.size 5 1 (.slice (some ⟨W2.heap.size + 1, 0, none⟩) 0 0) ([] : List Nat).length (bv []) from by
    have h := own_empty (W2.alloc (.cells #[.int .i64 0, .bool false, .slice none 0 0] 26))
    rw [show (W2.alloc (.cells #[.int .i64 0, .bool false, .slice none 0 0] 26)).heap.size = W2.heap.size + 1 by simp] at h
    exact ownsRow_mono h (by omega))
  have HO2 := Lib.hid (show ((W2.alloc (.cells #[] 5)).alloc (.cells #[.int .i64 0, .bool false, .slice none 0 0] 26)).drew.ownsRow W2.heap.size 5 1 (.slice (some ⟨W2.heap.size, 0, none⟩) 0 0) ([] : List Nat).length (bv []) from ((own_empty W2).alloc _).drew)
  have HO3 := Lib.hid (show (W2.alloc (.cells #[] 5)).drew.ownsRow W2.heap.size 5 1 (.slice (some ⟨W2.heap.size, 0, none⟩) 0 0) ([] : List Nat).length (bv []) from (own_empty W2).drew)
  have HK1 := Lib.hid (show Chg (fun _ => False) W2 ((W2.alloc (.cells #[.int .i64 0, .bool false, .slice none 0 0] 26)).alloc (.cells #[] 5)).drew from ((Chg.alloc (fun _ => False) W2 _).trans (Chg.alloc (fun _ => False) _ _) fun _ _ h => h).drew)
  have HK2 := Lib.hid (show Chg (fun _ => False) W2 ((W2.alloc (.cells #[] 5)).alloc (.cells #[.int .i64 0, .bool false, .slice none 0 0] 26)).drew from ((Chg.alloc (fun _ => False) W2 _).trans (Chg.alloc (fun _ => False) _ _) fun _ _ h => h).drew)
  have HK3 := Lib.hid (show Chg (fun _ => False) W2 (W2.alloc (.cells #[] 5)).drew from (Chg.alloc (fun _ => False) W2 _).drew)
  have HMA := Lib.hid (show Mb ((W2.alloc (.cells #[.int .i64 0, .bool false, .slice none 0 0] 26)).alloc (.cells #[] 5)).drew W2.heap.size 0 false (.slice none 0 0) from heap_alloc2_old W2 (.cells #[.int .i64 0, .bool false, .slice none 0 0] 26) (.cells #[] 5))
  have HMBB := Lib.hid (show Mb ((W2.alloc (.cells #[] 5)).alloc (.cells #[.int .i64 0, .bool false, .slice none 0 0] 26)).drew (W2.heap.size + 1) 0 false (.slice none 0 0) from heap_alloc2_new W2 (.cells #[] 5) (.cells #[.int .i64 0, .bool false, .slice none 0 0] 26))
  have HRD := Lib.hid (show ∀ W, Chg (fun _ => False) W2 W → RdB W (.slice af (N - k) cf) (xs.drop k) from fun W hW => HRF.out W ((H.out.kept HCW.out (by simp)).kept hW (by simp)))
  have HRT := Lib.hid (show ∀ W, Chg (fun _ => False) W2 W → RdB W (.slice ao k cap) (xs.take k) from fun W hW => HRU.out W ((H.out.kept HCW.out (by simp)).kept hW (by simp)))
  have HLA := Lib.hid (show ([] : List Nat).length + (xs.drop k).length < 100000000000 by rw [List.length_drop, HN.out]; simp; omega)
  have HLB := Lib.hid (show (xs.drop k).length + (xs.take k).length < 100000000000 by rw [List.length_drop, List.length_take, HN.out]; omega)
  clear hm2 hl2 hc2 hca hmb hcw hn2 HZZ HC1
  go_upto_region 6 with fail
  clear hW2
  go_cut [9, 10] from 36 to 48 (fun s9 s10 wx => ∃ g9, s9 = .pointer (some ⟨g9, 0, none⟩) ∧ s10 = .int .i64 0 ∧ TwoAt ⟨lz, oz, cz⟩ W2 w2.heap.size g9 wx)
  case first =>
    go_region_held3 (fun _ => True) (trivial) (first
      | (refine step_append_bytes rfl (.tmp 37) (.tmp 40) rfl W2.heap.size _ [] rfl HO1.out _ (xs.drop k) rfl (HRD.out _ HK1.out) HK1.out.size HLA.out ?_; intro v8 w8 ho8 hc8; have HC8 := Lib.hid (own_chg HK1.out HO1.out hc8); have HM8 := Lib.hid (HMA.out.row HO1.out hc8); have HO8 := Lib.hid ho8; clear ho8 hc8)
      | (refine step_append_bytes rfl (.tmp 37) (.tmp 40) rfl W2.heap.size _ [] rfl HO2.out _ (xs.drop k) rfl (HRD.out _ HK2.out) HK2.out.size HLA.out ?_; intro v8 w8 ho8 hc8; have HC8 := Lib.hid (own_chg HK2.out HO2.out hc8); have HM8 := Lib.hid (HMBB.out.row HO2.out hc8); have HO8 := Lib.hid ho8; clear ho8 hc8)
      | (refine step_append_bytes rfl (.tmp 37) (.tmp 40) rfl W2.heap.size _ [] rfl HO3.out _ (xs.drop k) rfl (HRD.out _ HK3.out) HK3.out.size HLA.out ?_; intro v8 w8 ho8 hc8; have HC8 := Lib.hid (own_chg HK3.out HO3.out hc8); have HO8 := Lib.hid ho8; clear ho8 hc8)
      | (refine step_append_bytes rfl (.tmp 41) (.tmp 44) rfl W2.heap.size v8 (xs.drop k) rfl HO8.out _ (xs.take k) rfl (HRT.out w8 HC8.out) HC8.out.size HLB.out ?_; intro v9 w9 ho9 hc9; have HC9 := Lib.hid (own_chg HC8.out HO8.out hc9); (try have HM9 := Lib.hid (HM8.out.row HO8.out hc9)); have HO9 := Lib.hid ho9; clear ho9 hc9)
      | (refine step_append_bytes rfl (.tmp 41) (.tmp 44) rfl W2.heap.size v8 (xs.drop k) rfl (HO8.out.alloc (.cells #[.int .i64 0, .bool false, .slice none 0 0] 26)) _ (xs.take k) rfl (HRT.out (w8.alloc (.cells #[.int .i64 0, .bool false, .slice none 0 0] 26)) (HC8.out.trans (Chg.alloc (fun _ => False) w8 (.cells #[.int .i64 0, .bool false, .slice none 0 0] 26)) fun _ _ h => h)) (HC8.out.trans (Chg.alloc (fun _ => False) w8 (.cells #[.int .i64 0, .bool false, .slice none 0 0] 26)) fun _ _ h => h).size HLB.out ?_; intro v9 w9 ho9 hc9; have HC9 := Lib.hid (own_chg (HC8.out.trans (Chg.alloc (fun _ => False) w8 (.cells #[.int .i64 0, .bool false, .slice none 0 0] 26)) fun _ _ h => h) (HO8.out.alloc (.cells #[.int .i64 0, .bool false, .slice none 0 0] 26)) hc9); have HM9 := Lib.hid ((mb_new w8).row (HO8.out.alloc (.cells #[.int .i64 0, .bool false, .slice none 0 0] 26)) hc9); have HO9 := Lib.hid ho9; clear ho9 hc9)
      | (go_at_call 9; with_reducible refine Calls.mono (HZY.out w9 v9 (RdB.of_own HO9.out) (own_roomOk HO9.out)) ?_; rintro e w10 ⟨u, rfl, hm10, hc10⟩; obtain ⟨a10, p10, rfl, hl10⟩ := hm10.rd.form; have HC10 := Lib.hid (HC9.out.trans hc10 fun _ _ h => h); have HM10 := Lib.hid hm10; (try have HMX := Lib.hid (HM9.out.kept hc10 (by simp))); (try obtain ⟨⟨x0, x1, x2⟩, ⟨y0, y1, y2⟩, s0, s1, s2, t0, t1, t2⟩ := HMX.out.more); clear hl10 hc10 hm10)
      | (go_at_call 9; refine (HZY.out (w9.alloc (.cells #[.int .i64 0, .bool false, .slice none 0 0] 26)) v9 ((RdB.of_own HO9.out).kept (Chg.alloc (fun _ => False) w9 (.cells #[.int .i64 0, .bool false, .slice none 0 0] 26)) (fun _ _ h => h)) (own_roomOk HO9.out)).mono ?_; rintro e w10 ⟨u, rfl, hm10, hc10⟩; obtain ⟨a10, p10, rfl, hl10⟩ := hm10.rd.form; have HC10 := Lib.hid ((HC9.out.trans (Chg.alloc (fun _ => False) w9 (.cells #[.int .i64 0, .bool false, .slice none 0 0] 26)) fun _ _ h => h).trans hc10 fun _ _ h => h); have HM10 := Lib.hid hm10; have HMX := Lib.hid ((mb_new w9).kept hc10 (fun h => h)); obtain ⟨⟨x0, x1, x2⟩, ⟨y0, y1, y2⟩, s0, s1, s2, t0, t1, t2⟩ := HMX.out.more; clear hl10 hc10 hm10))
    all_goals (go_wp2_with fail; go_meet; first
      | exact ⟨_, rfl, rfl, twoA HMB.out HL2.out HC10.out HM10.out⟩
      | exact ⟨_, rfl, rfl, twoB HMB.out HL2.out HC10.out HM10.out HMX.out (Nat.le_refl _) HM9.out.lt⟩
      | exact ⟨_, rfl, rfl, twoB HMB.out HL2.out HC10.out HM10.out HMX.out (Nat.le_succ _) HM9.out.lt⟩
      | exact ⟨_, rfl, rfl, twoB HMB.out HL2.out HC10.out HM10.out HMX.out HC8.out.size HM9.out.lt⟩
      | exact ⟨_, rfl, rfl, twoB HMB.out HL2.out HC10.out HM10.out HMX.out HC9.out.size (mb_new w9).lt⟩)
  case rest =>
  obtain ⟨g9, rfl, rfl, ⟨ax, nx, px, hmx, hlx⟩, ⟨ay, ny, py, hmy, hly⟩, hcx⟩ := hcut
  simp only [] at hmx hlx hmy hly
  have hcw := HCW.out.trans hcx fun _ _ h => h
  have HS0 := Lib.hid (show Mb wc w2.heap.size lz oz (.slice ax nx px) ∧ Mb wc g9 lz oz (.slice ay ny py) ∧ RdLL wc (.slice ax nx px) cz ∧ RdLL wc (.slice ay ny py) cz ∧ Chg (fun _ => False) w wc from ⟨hmx, hmy, hlx, hly, hcw⟩)
  have HKP := Lib.hid (show ∀ W W' : World, (Mb W w2.heap.size lz oz (.slice ax nx px) ∧ Mb W g9 lz oz (.slice ay ny py) ∧ RdLL W (.slice ax nx px) cz ∧ RdLL W (.slice ay ny py) cz ∧ Chg (fun _ => False) w W) → Chg (fun _ => False) W W' → (Mb W' w2.heap.size lz oz (.slice ax nx px) ∧ Mb W' g9 lz oz (.slice ay ny py) ∧ RdLL W' (.slice ax nx px) cz ∧ RdLL W' (.slice ay ny py) cz ∧ Chg (fun _ => False) w W') from fun W W' ⟨h1, h2, h3, h4, h5⟩ hc => ⟨h1.kept hc (fun h => h), h2.kept hc (fun h => h), h3.kept hc, h4.kept hc, h5.trans hc fun _ _ h => h⟩)
  clear hmx hlx hmy hly hcx hcw HMB HL2 HO1 HO2 HO3 HK1 HK2 HK3 HMA HMBB HRD HRT HLA HLB HRF HRU HZY hsu hsf HCW HRM HN2 HLL2 hcI hcT hnz
  go_wp2
  go_loopw [11, 12] (fun o11 o12 wr => ∃ (i : Nat) (u : Value), i ≤ N ∧ o12 = .int .i64 (i : Int) ∧ u = o11 ∧ wr.ownsRow wc.heap.size 5 1 u (twice (xs.take i)).length (bv (twice (xs.take i))) ∧ Chg (fun _ => False) wc wr) (fun _ o12 _ => N - (intOf o12).toNat)
  case atStart => exact ⟨0, _, Nat.zero_le _, rfl, rfl, World.ownsRow_nil _ _ _ _, Chg.refl _ _⟩
  case round =>
    obtain ⟨i, u, hi, rfl, rfl, hown, hc⟩ := hrel
    by_cases hlt : i < N
    · have hrb := (H.out.kept (HS0.out.2.2.2.2.trans hc fun _ _ h => h) (by simp))
      obtain ⟨gb, ob, rfl, hbc⟩ := hrb.at i (by rw [HN.out]; exact hlt)
      have htw := twice_take xs i (by rw [HN.out]; exact hlt)
      obtain ⟨y, hy⟩ : ∃ y, xs.getD i 0 = y := ⟨_, rfl⟩
      rw [hy] at hbc htw
      have HFAR := Lib.hid (show ¬ some gb = u.ownBlock from fun he => by
        have h1 := (hown.lt gb he.symm).1
        obtain ⟨g', o', he', hc'⟩ := (H.out.kept HS0.out.2.2.2.2 (by simp)).at i (by rw [HN.out]; exact hlt)
        simp only [Option.some.injEq, Addr.mk.injEq] at he'
        have h2 : g' < wc.heap.size := block_lt_of_cell hc'
        have h3 := he'.1
        omega)
      have hln : (twice (xs.take i)).length ≤ 80 := by rw [twice_length, List.length_take]; omega
      have hca := (Chg.alloc (fun _ => False) wr (.cells #[.int .u8 (y : Int), .int .u8 (y : Int)] 5)).drew
      have hrd : RdB (wr.alloc (.cells #[.int .u8 (y : Int), .int .u8 (y : Int)] 5)).drew (.slice (some ⟨wr.heap.size, 0, none⟩) 2 2) [y, y] := rdb_new wr [y, y] #[.int .u8 (y : Int), .int .u8 (y : Int)] 2 (0, 0) rfl rfl
      have hoa := hca.own hown (by simp)
      have hcd := hc.trans hca fun _ _ h => h
      have hkp : (wr.alloc (.cells #[.int .u8 (y : Int), .int .u8 (y : Int)] 5)).drew.cell? ⟨gb, ob + i, none⟩ = some (.int .u8 (y : Int)) := (World.cell?_of_block (hca.block gb (block_lt_of_cell hbc) (by simp))).trans hbc
      have HOA := Lib.hid hoa; have HRDB := Lib.hid hrd; have HCD := Lib.hid hcd; have HTW := Lib.hid htw; have HLN := Lib.hid (show (twice (xs.take i)).length + [y, y].length < 100000000000 by simp; omega); have HKC := Lib.hid hkp
      have hin : (i : Int) < (N : Int) := by omega
      clear hrb hy htw hln hca hrd hoa hcd hown hc hkp
      go_wp2
      go_region_held3 (fun W => W.cell? ⟨gb, ob + i, none⟩ = some (.int .u8 (y : Int))) (first | assumption | (dsimp only; assumption) | exact HKC.out | exact HKD.out) (first
        | (refine step_append_bytes rfl (.tmp 55) (.tmp 64) rfl wc.heap.size u (twice (xs.take i)) rfl HOA.out _ [y, y] rfl HRDB.out HCD.out.size HLN.out ?_; intro v7 w7 ho7 hc7; have HO7 := Lib.hid ho7; have HC7 := Lib.hid (own_chg HCD.out HOA.out hc7); have HKD := Lib.hid (show w7.cell? ⟨gb, ob + i, none⟩ = some (.int .u8 (y : Int)) from (World.cell?_of_block (hc7.block gb (block_lt_of_cell HKC.out) (fun he => HFAR.out he))).trans HKC.out); clear ho7 hc7))
      go_wp2
      go_roundw
      case rel => exact ⟨i + 1, v7, by omega, by go_num, rfl, by rw [HTW.out]; exact HO7.out, HC7.out.drewN 0⟩
      case measure => simp [intOf]; omega
    · obtain rfl : i = N := by omega
      rw [List.take_of_length_le (by rw [HN.out]; exact Nat.le_refl _)] at hown
      have HS1 := Lib.hid (HKP.out _ _ HS0.out hc)
      have hne2 : twice xs ≠ [] := fun he => by
        have := congrArg List.length he
        rw [twice_length, HN.out] at this
        simp at this; omega
      have htl : (twice xs).length ≤ 80 := by rw [twice_length, HN.out]; omega
      have hff := mfirst_any u (twice xs) wr (RdB.of_own hown) (twice_lt HX.out) (by omega) (own_roomOk hown)
      rw [if_neg hne2, if_neg hne2] at hff
      have hpos2 : 0 < (twice xs).length := by rw [twice_length, HN.out]; omega
      have fri := first_right (twice xs) (twice_lt HX.out) (by omega) hpos2
      have hL8 := getD_lt xs HX.out k
      have fat := first_at (twice xs) (twice_lt HX.out) (by omega) hpos2 (xs.getD k 0) hL8
      have hon := twice_own xs k (by rw [HN.out]; exact hcn)
      obtain ⟨L, hL⟩ : ∃ L, xs.getD k 0 = L := ⟨_, rfl⟩
      rw [hL] at hL8 fat hon
      have fok := first_ok (twice xs) (twice_lt HX.out) (by omega) L hL8 (List.length_pos_of_mem hon)
      have fps := (normR_pos fok L hL8).1.2 hon
      have frt := (normR_right fok).1.1
      unfold ctxL at fat
      rw [if_pos (List.length_pos_of_mem hon)] at fat
      obtain ⟨Q, hQ⟩ : ∃ Q, normR (cnt (sel (twice xs) (L : Int))) (firstLog (twice xs)) = Q := ⟨_, rfl⟩
      rw [hQ] at fat fps frt
      obtain ⟨mf, hmf⟩ : ∃ mf, firstM (twice xs) = mf := ⟨_, rfl⟩
      rw [hmf] at hff fri fat
      obtain ⟨lf, of, cf'⟩ := mf
      obtain ⟨au, cu, hu⟩ : ∃ au cu, u = .slice au (twice xs).length cu := (RdB.of_own hown).form
      subst hu
      obtain ⟨T2, hT2⟩ : ∃ T2, (twice xs).length = T2 := ⟨_, rfl⟩
      rw [hT2] at hff ⊢
      have HFF := Lib.hid hff
      have HMAT := Lib.hid (show ∀ W a p, RdLL W (.slice a cf'.length p) cf' → Calls Try.prog 18 #[.agg #[.int .i64 lf, .bool of, .slice a cf'.length p], .int .i64 (L : Int)] W fun e w' => ∃ u, e = .returned u ∧ RdI w' u Q ∧ Chg (fun _ => False) W w' from fun W a p hW => by
        have := mat_any _ ⟨lf, of, cf'⟩ (L : Int) W ⟨_, rfl, hW⟩ fri.fit64 (by omega)
        rw [fat] at this
        exact this)
      obtain ⟨n5, hn5⟩ : ∃ n5, cf'.length = n5 := ⟨_, rfl⟩
      rw [hn5] at HMAT
      have HFPS := Lib.hid fps; have HFRT := Lib.hid frt; have HL := Lib.hid hL; have HN5 := Lib.hid hn5
      have hLI : (L : Int) < 256 := by omega
      clear hff fri fat hon fok fps frt hQ hmf hL hn5 hown hc hne2 htl hpos2 hT2 hlt hi
      go_wp2_with fail
      refine HFF.out.mono ?_
      rintro e w5 ⟨u5, rfl, hm5, hc5⟩
      obtain ⟨a5, p5, rfl, hl5⟩ := hm5.rd.form
      simp only [] at hl5 ⊢
      rw [HN5.out] at hl5 ⊢
      have hca := Chg.alloc (fun _ => False) w5 (.cells #[.int .i64 lf, .bool of, .slice a5 n5 p5] 26)
      have hmb5 : Mb _ _ lf of (.slice a5 n5 p5) := heap_alloc_new w5 (.cells #[.int .i64 lf, .bool of, .slice a5 n5 p5] 26)
      obtain ⟨W5, hW5⟩ : ∃ W5, w5.alloc (.cells #[.int .i64 lf, .bool of, .slice a5 n5 p5] 26) = W5 := ⟨_, rfl⟩
      rw [hW5] at hca hmb5
      have HS5 := Lib.hid (HKP.out _ _ HS1.out (hc5.trans hca fun _ _ h => h))
      obtain ⟨gb, ob, rfl, hbc⟩ := (H.out.kept HS5.out.2.2.2.2 (by simp)).at k (by rw [HN.out]; exact hcn)
      rw [HL.out] at hbc
      obtain ⟨b0, b1, b2⟩ := hmb5.cells
      have HM5 := Lib.hid hmb5; have HL5 := Lib.hid (hl5.kept hca)
      have hkN : (k : Int) < (i : Int) := by omega
      have e3 : IntKind.i64.wrap (L : Int) = (L : Int) := by rw [IntKind.wrap_i64]; omega
      clear hm5 hl5 hc5 hca hmb5 HFF HS1
      go_wp2
      go_region_held3 (fun W => (W.cell? ⟨w5.heap.size, 0, none⟩ = some (.int .i64 lf) ∧ W.cell? ⟨w5.heap.size, 1, none⟩ = some (.bool of) ∧ W.cell? ⟨w5.heap.size, 2, none⟩ = some (.slice a5 n5 p5)) ∧ W.cell? ⟨gb, ob + k, none⟩ = some (.int .u8 (L : Int))) (first | exact ⟨⟨b0, b1, b2⟩, hbc⟩ | exact ⟨HM6.out.cells, hbc6⟩) (first
        | (go_at_call 18; refine (HMAT.out W5.drew _ _ (HL5.out.kept ((Chg.refl (fun _ => False) W5).drew))).mono ?_; rintro e w6 ⟨q6, rfl, hq6, hc6⟩; have HC6 := Lib.hid ((Chg.refl (fun _ => False) W5).drew.trans hc6 fun _ _ h => h); have HM6 := Lib.hid (HM5.out.kept HC6.out (fun h => h)); have hbc6 : w6.cell? ⟨gb, ob + k, none⟩ = some (.int .u8 (L : Int)) := (World.cell?_of_block (HC6.out.block gb (block_lt_of_cell hbc) (fun h => h))).trans hbc; obtain ⟨aq, pq, rfl⟩ := hq6.form; have HQ6 := Lib.hid hq6; clear hc6 hq6))
      have HS6 := Lib.hid (HKP.out _ _ HS5.out HC6.out)
      rw [HFRT.out]
      obtain ⟨gq, oq, rfl, hqc⟩ := HQ6.out.at L (by rw [HFRT.out]; exact hL8)
      obtain ⟨z, hz⟩ : ∃ z, Q.getD L 0 = z := ⟨_, rfl⟩
      have hzp := HFPS.out
      rw [hz] at hqc hzp
      have hzd : decide (0 < z) = true := decide_eq_true hzp
      obtain ⟨c0, c1, c2⟩ := HS6.out.1.cells
      obtain ⟨f0, f1, f2⟩ := HS6.out.2.1.cells
      have hsm := r16same_any _ _ ⟨lz, oz, cz⟩ ⟨lz, oz, cz⟩ w6 (RdLL.rdm (m := ⟨lz, oz, cz⟩) HS6.out.2.2.1 rfl rfl) (RdLL.rdm (m := ⟨lz, oz, cz⟩) HS6.out.2.2.2.1 rfl rfl) HFZ.out HFZ.out
      rw [decide_eq_true rfl] at hsm
      have HSM := Lib.hid hsm
      have HKB := Lib.hid (show ∀ W, Chg (fun _ => False) w6 W → W.cell? ⟨gb, ob + k, none⟩ = some (.int .u8 (L : Int)) ∧ W.cell? ⟨gq, oq + L, none⟩ = some (.int .i64 z) from fun W hW => ⟨(World.cell?_of_block (hW.block gb (block_lt_of_cell hbc6) (fun h => h))).trans hbc6, (World.cell?_of_block (hW.block gq (block_lt_of_cell hqc) (fun h => h))).trans hqc⟩)
      clear hsm hz hzp HQ6 HM5 HM6 HL5 b0 b1 b2 hbc hW5
      go_wp2_with fail
      refine HSM.out.mono ?_
      rintro e w8 ⟨rfl, hc8⟩
      obtain ⟨q1, q2⟩ := HKB.out w8 hc8
      have HC8 := Lib.hid (HS6.out.2.2.2.2.trans hc8 fun _ _ h => h)
      clear hc8 hbc6 hqc c0 c1 c2 f0 f1 f2
      go_wp2
      go_ret
      exact ⟨rfl, HC8.out⟩

end Go.Proofs.Ythghlfghdmifoaa
