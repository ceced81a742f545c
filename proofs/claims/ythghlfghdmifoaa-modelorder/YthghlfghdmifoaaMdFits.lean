/- ModelFits: what is made of bytes is right, and fits them, and their beginnings; with a byte more it fits just if that has a count behind the last one. -/
import Derived.Test.YthghlfghdmifoaaMdMakes
import Derived.Test.YthghlfghdmifoaaBase4
import Derived.Test.YthghlfghdmifoaaSlUpto
import Derived.Deep.CutRange
namespace Go.Proofs.Ythghlfghdmifoaa
open Go.RowKit

/-- of either kind -/
def madeM (xs : List Nat) (one : Bool) : Md := if one then zeroM xs else firstM xs
theorem made_right (xs : List Nat) (one : Bool) (hx : ∀ x ∈ xs, x < 256) (hl : xs.length ≤ 1073741824) (h0 : 0 < xs.length) : (madeM xs one).right := by
  unfold madeM; split
  · exact zero_right xs hx hl h0
  · exact first_right xs hx hl h0
theorem made_fits (xs : List Nat) (one : Bool) (hx : ∀ x ∈ xs, x < 256) (hl : xs.length ≤ 1073741824) (h0 : 0 < xs.length) : (madeM xs one).fits xs := by
  unfold madeM; split
  · exact zero_fits xs hx hl h0
  · exact first_fits xs hx hl h0
theorem atL_nonneg (m : Md) (c : Int) (x : Nat) : 0 ≤ (m.atL c).getD x 0 := by
  by_cases he : m.atL c = []
  · rw [he]; simp
  · have h256 := atL_len m c he
    by_cases hr : m.right ∧ 0 ≤ c ∧ c ≤ 255
    · have hl : ∀ j, j < m.cs.length → m.cs.getD j [] ≠ [] → isRight (m.cs.getD j []) := fun j hj hne => by
        rcases hr.1.at j hj with ⟨h1, _⟩ | h1
        · exact absurd h1 hne
        · exact (log_right (by have := hr.1.1; omega)).1
      have hri : isRight (m.atL c) := by
        unfold Md.atL at he ⊢
        rw [if_pos hr] at he ⊢
        have hlen := hr.1.2.1
        by_cases ho : m.one = true
        · rw [if_pos ho] at he hlen ⊢
          exact hl 0 (by omega) he
        · rw [if_neg ho] at he hlen ⊢
          exact hl _ (by omega) he
      by_cases hx : x < 256
      · exact (hri.one x (by omega)).1
      · rw [List.getD_eq_getElem?_getD, List.getElem?_eq_none (by omega)]; simp
    · exact absurd (atL_not hr) he

/-- a model of the bytes lies in the block g -/
def MadeAt (w : World) (xs : List Nat) (one : Bool) (g : Nat) (wx : World) : Prop := ∃ ac nc pc, Mb wx g (madeM xs one).log (madeM xs one).one (.slice ac nc pc) ∧ RdLL wx (.slice ac nc pc) (madeM xs one).cs ∧ Chg (fun _ => False) w wx ∧ w.heap.size ≤ g

set_option maxHeartbeats 8000000 in
theorem mfits16_any (v : Value) (xs : List Nat) (x n : Nat) (one : Bool) (w : World) (h : RdB w v xs) (hx : ∀ x ∈ xs, x < 256) (hr : RoomOk v) (hx8 : x < 256) (hn8 : n < 256) :
    Calls Try.prog 5 #[v, .int .u8 (x : Int), .bool one, .int .u8 (n : Int)] w fun e w' => Says w e w' := by
  have HAW := Lib.hid (awake16_any w)
  obtain ⟨ao, cap, rfl⟩ := h.form
  have H := Lib.hid h; have HX := Lib.hid hx; have HRM := Lib.hid hr
  have hroom : xs.length ≤ cap := hr _ _ _ rfl
  clear h hx hr
  go_enter Try.func5, Try.ntmps5
  go_wp2_with fail
  refine HAW.out.mono ?_
  rintro e w1 ⟨rfl, hc1⟩
  have HC1 := Lib.hid hc1
  clear hc1 HAW
  by_cases hbig : 80 < xs.length
  · have d1 : decide (80 < (xs.length : Int)) = true := decide_eq_true (by omega)
    go_wp2
    go_ret
    exact ⟨rfl, HC1.out⟩
  have d1 : decide (80 < (xs.length : Int)) = false := decide_eq_false (by omega)
  by_cases h0 : xs.length = 0
  · rw [h0]
    go_wp2
    go_ret
    exact ⟨rfl, HC1.out⟩
  have hpos : 0 < xs.length := by omega
  have hne : xs ≠ [] := fun he => by rw [he] at h0; simp at h0
  have hff := mfirst_any _ xs w1 (H.out.kept HC1.out (by simp)) HX.out (by omega) HRM.out
  rw [if_neg hne, if_neg hne] at hff
  have hzz := fun W hW => mzero_any (.slice ao xs.length cap) xs W hW HX.out (by omega) HRM.out
  rw [if_neg hne, if_neg hne] at hzz
  have HFF := Lib.hid hff; have HZZ := Lib.hid hzz
  obtain ⟨N, hN⟩ : ∃ N, xs.length = N := ⟨_, rfl⟩
  have HN := Lib.hid hN
  rw [hN] at H HRM hroom hbig d1 h0 hpos HFF HZZ ⊢
  have hne0 : ((N : Int) == 0) = false := by simp; omega
  have hNI : (N : Int) ≤ 80 := by omega
  clear hff hzz hne hN
  obtain ⟨mf, hmf⟩ : ∃ mf, firstM xs = mf := ⟨_, rfl⟩
  rw [hmf] at HFF
  obtain ⟨lf, of, cf⟩ := mf
  have HMF := Lib.hid hmf
  clear hmf
  go_upto_if 30 with (first | (go_at_call 10; refine HFF.out.mono ?_; rintro e w2 ⟨u, rfl, hm2, hc2⟩; obtain ⟨a2, p2, rfl, hl2⟩ := hm2.rd.form; simp only [] at hl2; obtain ⟨n2, hn2⟩ : ∃ n2, cf.length = n2 := ⟨_, rfl⟩; simp only []; rw [hn2] at hl2; rw [hn2]))
  have hca := Chg.alloc (fun _ => False) w2 (.cells #[.int .i64 lf, .bool of, .slice a2 n2 p2] 26)
  have hmb : Mb _ _ lf of (.slice a2 n2 p2) := heap_alloc_new w2 (.cells #[.int .i64 lf, .bool of, .slice a2 n2 p2] 26)
  obtain ⟨W2, hW2⟩ : ∃ W2, w2.alloc (.cells #[.int .i64 lf, .bool of, .slice a2 n2 p2] 26) = W2 := ⟨_, rfl⟩
  rw [hW2] at hca hmb ⊢
  have hcw := (HC1.out.trans hc2 fun _ _ h => h).trans hca fun _ _ h => h
  have hgw : w.heap.size ≤ w2.heap.size := Nat.le_trans HC1.out.size hc2.size
  have HMB := Lib.hid hmb; have HCW := Lib.hid hcw; have HL2 := Lib.hid (hl2.kept hca); have HGW := Lib.hid hgw
  clear hm2 hl2 hc2 hca hmb hcw hgw hn2 hW2 HFF HC1
  go_cut [11] from 31 to 35 (fun s11 wx => s11 = .int .i64 0 ∧ MadeAt w xs one w2.heap.size wx)
  case first =>
    cases one with
    | false =>
      go_wp2
      go_meet
      refine ⟨rfl, a2, n2, p2, ?_, ?_, HCW.out, HGW.out⟩
      · unfold madeM; rw [if_neg (by simp), HMF.out]; exact HMB.out
      · unfold madeM; rw [if_neg (by simp), HMF.out]; exact HL2.out
    | true =>
      obtain ⟨mz, hmz⟩ : ∃ mz, zeroM xs = mz := ⟨_, rfl⟩
      have hzz := HZZ.out
      rw [hmz] at hzz
      have HZ2 := Lib.hid hzz
      obtain ⟨lz, oz, cz⟩ := mz
      have HMZ := Lib.hid hmz
      clear hzz hmz
      go_wp2_with fail
      refine (HZ2.out W2 (H.out.kept HCW.out (by simp))).mono ?_
      rintro e w3 ⟨u, rfl, hm3, hc3⟩
      obtain ⟨a3, p3, rfl, hl3⟩ := hm3.rd.form
      simp only [] at hl3 hm3 ⊢
      obtain ⟨n3, hn3⟩ : ∃ n3, cz.length = n3 := ⟨_, rfl⟩
      rw [hn3] at hl3 hm3 ⊢
      have hmb3 := HMB.out.kept hc3 (by simp)
      obtain ⟨z0, z1, z2⟩ := hmb3.cells
      have f0 := frozen_of_row w3 w2.heap.size 0 _ _ hmb3
      have f1 := frozen_of_row w3 w2.heap.size 1 _ _ hmb3
      have f2 := frozen_of_row w3 w2.heap.size 2 _ _ hmb3
      obtain ⟨y0, y1, y2, hmb7⟩ := W3_cells hmb3 lz oz (.slice a3 n3 p3)
      have hc7 := W3_chg w3 w2.heap.size lz oz (.slice a3 n3 p3)
      obtain ⟨cv', hcv, hl7⟩ := hm3 _ _ hc7 (fun k hk he => by have := HMB.out.lt; omega)
      have hcv' : cv' = .slice a3 n3 p3 := by simp [mdv] at hcv; exact hcv.symm
      rw [hcv'] at hl7
      simp only [] at hl7
      have HF := Lib.hid (show MadeAt w xs true w2.heap.size (W3 w3 w2.heap.size lz oz (.slice a3 n3 p3)) from by
        refine ⟨a3, n3, p3, ?_, ?_, (HCW.out.trans hc3 fun _ _ h => h).trans hc7 fun k hk he => by have := HGW.out; omega, HGW.out⟩
        · unfold madeM; rw [if_pos rfl, HMZ.out]; exact hmb7
        · unfold madeM; rw [if_pos rfl, HMZ.out]; exact hl7)
      unfold W3 at y2 HF
      clear hm3 hl3 hc3 hn3 hmb3 hmb7 hc7 hl7 hcv hcv' y0 y1 y2
      go_wp2
      go_meet
      exact ⟨rfl, HF.out⟩
  case rest =>
  obtain ⟨rfl, ac, nc, pc, hmb, hll, hcw, hgg⟩ := hcut
  have hri := made_right xs one HX.out (by rw [HN.out]; omega) (by rw [HN.out]; exact hpos)
  have hfi := made_fits xs one HX.out (by rw [HN.out]; omega) (by rw [HN.out]; exact hpos)
  have hmo := fits_more hfi (by rw [HN.out]; exact hpos) x
  have htk := hfi.take (n % N)
  have hL8 := getD_lt xs HX.out (N - 1)
  rw [HN.out] at hmo
  have hsl := mslice_upto (w := w) (ao := ao) (cap := cap) (n := n % N) (xs := xs) (by rw [HN.out]; exact H.out) (by rw [HN.out]; exact Nat.le_of_lt (Nat.mod_lt n hpos)) (by rw [HN.out]; exact hroom)
  rw [HN.out] at hsl
  obtain ⟨hsl1, hsl2⟩ := hsl
  have hcn : n % N < N := Nat.mod_lt n hpos
  have hcI : (n : Int) % (N : Int) = ((n % N : Nat) : Int) := by simp
  obtain ⟨k, hk⟩ : ∃ k, n % N = k := ⟨_, rfl⟩
  rw [hk] at hsl1 hsl2 htk hcn hcI
  have hcT : (n : Int).tmod (N : Int) = (k : Int) := by rw [Int.tmod_eq_emod_of_nonneg (by omega)]; exact hcI
  obtain ⟨L, hL⟩ : ∃ L, xs.getD (N - 1) 0 = L := ⟨_, rfl⟩
  rw [hL] at hmo hL8
  obtain ⟨mm, hmm⟩ : ∃ mm, madeM xs one = mm := ⟨_, rfl⟩
  rw [hmm] at hmb hll hri hfi hmo htk
  have hatl := atL_len mm (L : Int)
  have hatn := atL_nonneg mm (L : Int) x
  obtain ⟨Q, hQ⟩ : ∃ Q, mm.atL (L : Int) = Q := ⟨_, rfl⟩
  rw [hQ] at hmo hatl hatn
  obtain ⟨lg, on, cs⟩ := mm
  simp only [] at hmb hll
  have HMR := Lib.hid (show ∀ W, RdLL W (.slice ac nc pc) cs → Calls Try.prog 15 #[.agg #[.int .i64 lg, .bool on, .slice ac nc pc]] W fun e w' => e = .returned (.bool true) ∧ Chg (fun _ => False) W w' from fun W hW => by
    have := mright_any _ ⟨lg, on, cs⟩ W ⟨_, rfl, hW⟩ hri.fit64
    rw [decide_eq_true hri] at this
    exact this)
  have HMA := Lib.hid (show ∀ W, RdLL W (.slice ac nc pc) cs → Calls Try.prog 18 #[.agg #[.int .i64 lg, .bool on, .slice ac nc pc], .int .i64 (L : Int)] W fun e w' => ∃ u, e = .returned u ∧ RdI w' u Q ∧ Chg (fun _ => False) W w' from fun W hW => by
    have := mat_any _ ⟨lg, on, cs⟩ (L : Int) W ⟨_, rfl, hW⟩ hri.fit64 (by omega)
    rw [hQ] at this
    exact this)
  have HMF := Lib.hid (show ∀ W u (ys : List Nat), RdLL W (.slice ac nc pc) cs → RdB W u ys → (∀ y ∈ ys, y < 256) → ys.length < 1000000 → Calls Try.prog 20 #[.agg #[.int .i64 lg, .bool on, .slice ac nc pc], u] W fun e w' => e = .returned (.bool (decide (Md.fits ⟨lg, on, cs⟩ ys))) ∧ Chg (fun _ => False) W w' from fun W u ys hW hb hy hl => mfits_any _ _ ⟨lg, on, cs⟩ ys W ⟨_, rfl, hW⟩ hri.fit64 hb hy hl)
  have HMF0 := HMF
  have HXT := Lib.hid (show ∀ y ∈ xs.take k, y < 256 from fun y hy => HX.out y (List.mem_of_mem_take hy))
  have HXM := Lib.hid (snoc_lt HX.out hx8)
  have HFI := Lib.hid hfi; have HTK := Lib.hid htk; have HMO := Lib.hid hmo; have HATL := Lib.hid hatl; have HATN := Lib.hid hatn; have HSL2 := Lib.hid hsl2; have HL := Lib.hid hL
  have HK := Lib.hid (show ∀ W W' : World, (Mb W w2.heap.size lg on (.slice ac nc pc) ∧ RdLL W (.slice ac nc pc) cs ∧ RdB W (.slice ao N cap) xs ∧ Chg (fun _ => False) w W) → Chg (fun _ => False) W W' → (Mb W' w2.heap.size lg on (.slice ac nc pc) ∧ RdLL W' (.slice ac nc pc) cs ∧ RdB W' (.slice ao N cap) xs ∧ Chg (fun _ => False) w W') from fun W W' ⟨h1, h2, h3, h4⟩ hc => ⟨h1.kept hc (by simp), h2.kept hc, h3.kept hc (by simp), h4.trans hc fun _ _ h => h⟩)
  have HS := Lib.hid (show Mb wc w2.heap.size lg on (.slice ac nc pc) ∧ RdLL wc (.slice ac nc pc) cs ∧ RdB wc (.slice ao N cap) xs ∧ Chg (fun _ => False) w wc from ⟨hmb, hll, H.out.kept hcw (by simp), hcw⟩)
  clear hri hfi hmo htk hatl hatn hsl2 hL hQ hmm hk hmb hll hcw HMB HCW HL2 HZZ HRM hroom
  have hca := Chg.alloc (fun _ => False) wc (.cells #[] 5)
  have HSA := Lib.hid (HK.out _ _ HS.out hca)
  clear hca
  have HB1 := Lib.hid (show wc.heap.size ≤ (wc.alloc (.cells #[] 5)).heap.size by simp); have HB2 := Lib.hid (show ([] : List Nat).length + xs.length < 100000000000 by rw [HN.out]; simp; omega)
  go_wp2_with (at_builtin; refine wpList_append_bytes rfl (.tmp 36) (.tmp 37) rfl wc.heap.size _ [] rfl (own_empty wc) _ xs rfl HSA.out.2.2.1 HB1.out HB2.out ?_)
  intro v4 w4 ho4 hc4
  have hcf : Chg (fun _ => False) wc w4 := (Chg.alloc (fun _ => False) wc (.cells #[] 5)).trans hc4 (fun q hq he => by simp [Value.ownBlock] at he; omega)
  have HS4 := Lib.hid (HK.out _ _ HS.out hcf)
  have hca := Chg.alloc (fun _ => False) w4 (.cells #[.int .u8 (x : Int)] 5)
  have hrd := rdb_new w4 [x] #[.int .u8 (x : Int)] 1 (0, 0) rfl rfl
  have HRD := Lib.hid hrd; have HO4 := Lib.hid (hca.own ho4 (by simp)); have HLT4 := Lib.hid ho4.lt; have HCF := Lib.hid hcf; have HCA := Lib.hid hca
  have HB3 := Lib.hid (show wc.heap.size ≤ (w4.alloc (.cells #[.int .u8 (x : Int)] 5)).heap.size from Nat.le_trans hcf.size hca.size); have HB4 := Lib.hid (show xs.length + [x].length < 100000000000 by rw [HN.out]; simp; omega)
  clear hca hrd ho4 hc4 hcf HSA HB1 HB2
  go_wp2_with (at_builtin; refine wpList_append_bytes rfl (.tmp 38) (.tmp 40) rfl wc.heap.size v4 xs rfl HO4.out _ [x] rfl HRD.out HB3.out HB4.out ?_)
  intro v5 w5 ho5 hc5
  have hc45 : Chg (fun _ => False) wc w5 := (HCF.out.trans HCA.out fun _ _ h => h).trans hc5 (fun q hq he => by have := (HLT4.out q he.symm).1; omega)
  have HS5 := Lib.hid (HK.out _ _ HS.out hc45)
  have HR5 := Lib.hid (RdB.of_own (show w5.ownsRow wc.heap.size 5 1 v5 (xs ++ [x]).length (bv (xs ++ [x])) by simpa using ho5))
  obtain ⟨a5, p5, hv5⟩ := HR5.out.form
  rw [show (xs ++ [x]).length = N + 1 by simp [HN.out]] at hv5
  subst hv5
  obtain ⟨b0, b1, b2⟩ := HS5.out.1.cells
  have hbx := HS5.out.2.2.1
  obtain ⟨gb, ob, rfl, hbc⟩ := hbx.at (N - 1) (by rw [HN.out]; omega)
  clear hbx
  rw [HL.out] at hbc
  obtain ⟨N1, hN1⟩ : ∃ N1, N - 1 = N1 := ⟨_, rfl⟩
  rw [hN1] at hbc
  have e1 : IntKind.i64.wrap ((N : Int) - 1) = (N1 : Int) := by rw [IntKind.wrap_i64]; omega
  have e2 : (N1 : Int) < (N : Int) := by omega
  have e3 : IntKind.i64.wrap (L : Int) = (L : Int) := by rw [IntKind.wrap_i64]; omega
  have HSD := Lib.hid (HK.out _ _ HS5.out ((Chg.refl (fun _ => False) w5).drew))
  have HR5D := Lib.hid (HR5.out.kept ((Chg.refl (fun _ => False) w5).drew) (by simp))
  clear ho5 hc5 hc45 hN1 HS HS4 HCF HCA HLT4 HRD HO4 HB3 HB4
  go_wp2
  go_region_held3 (fun W => (W.cell? ⟨w2.heap.size, 0, none⟩ = some (.int .i64 lg) ∧ W.cell? ⟨w2.heap.size, 1, none⟩ = some (.bool on) ∧ W.cell? ⟨w2.heap.size, 2, none⟩ = some (.slice ac nc pc)) ∧ W.cell? ⟨gb, ob + N1, none⟩ = some (.int .u8 (L : Int))) (first | exact ⟨⟨b0, b1, b2⟩, hbc⟩ | exact ⟨HS6.out.1.cells, hbc6⟩) (first
    | (go_at_call 18; refine (HMA.out _ HSD.out.2.1).mono ?_; rintro e w6 ⟨q6, rfl, hq6, hc6⟩; have HS6 := Lib.hid (HK.out _ w6 HSD.out hc6); have hbc6 : w6.cell? ⟨gb, ob + N1, none⟩ = some (.int .u8 (L : Int)) := (World.cell?_of_block (hc6.block gb (block_lt_of_cell hbc) (by simp))).trans hbc; have HR6 := Lib.hid (HR5D.out.kept hc6 (by simp)); obtain ⟨aq, pq, rfl⟩ := hq6.form; have HQ6 := Lib.hid hq6; clear hc6 hq6))
  have HF1 := Lib.hid (show ∀ W, RdLL W (.slice ac nc pc) cs → RdB W (.slice (some ⟨gb, ob, none⟩) N cap) xs → Calls Try.prog 20 #[.agg #[.int .i64 lg, .bool on, .slice ac nc pc], .slice (some ⟨gb, ob, none⟩) N cap] W fun e w' => e = .returned (.bool true) ∧ Chg (fun _ => False) W w' from fun W h1 h2 => by
    have := HMF.out W _ xs h1 h2 HX.out (by rw [HN.out]; omega)
    rw [decide_eq_true HFI.out] at this
    exact this)
  have HF2 := Lib.hid (show ∀ W, RdLL W (.slice ac nc pc) cs → RdB W (.slice (some ⟨gb, ob, none⟩) k cap) (xs.take k) → Calls Try.prog 20 #[.agg #[.int .i64 lg, .bool on, .slice ac nc pc], .slice (some ⟨gb, ob, none⟩) k cap] W fun e w' => e = .returned (.bool true) ∧ Chg (fun _ => False) W w' from fun W h1 h2 => by
    have := HMF.out W _ (xs.take k) h1 h2 HXT.out (by rw [List.length_take]; omega)
    rw [decide_eq_true HTK.out] at this
    exact this)
  have HSE := Lib.hid (HK.out _ _ HS6.out ((Chg.refl (fun _ => False) w6).drew))
  have HR6D := Lib.hid (HR6.out.kept ((Chg.refl (fun _ => False) w6).drew) (by simp))
  obtain ⟨k0, k1, k2⟩ := HS6.out.1.cells
  have hnz : ((N : Int) = 0) = False := by simp; omega
  have hwk : IntKind.i64.wrap (k : Int) = (k : Int) := by rw [IntKind.wrap_i64]; omega
  have hwn : IntKind.i64.wrap (n : Int) = (n : Int) := by rw [IntKind.wrap_i64]; omega
  have hkN : k ≤ N := by omega
  clear b0 b1 b2 hbc hbc6 HSD HR5D HS5 HR5 HMA HMF HFI HTK HXT e1 e2 e3 hL8 hcI
  by_cases hqz : Q = []
  · have hD : decide (Md.fits ⟨lg, on, cs⟩ (xs ++ [x])) = false := decide_eq_false fun hh => (HMO.out.1 hh).1 hqz
    have HF3 := Lib.hid (show ∀ W, RdLL W (.slice ac nc pc) cs → RdB W (.slice a5 (N + 1) p5) (xs ++ [x]) → Calls Try.prog 20 #[.agg #[.int .i64 lg, .bool on, .slice ac nc pc], .slice a5 (N + 1) p5] W fun e w' => e = .returned (.bool false) ∧ Chg (fun _ => False) W w' from fun W h1 h2 => by
      have := HMF0.out W _ (xs ++ [x]) h1 h2 HXM.out (by simp [HN.out]; omega)
      rw [hD] at this
      exact this)
    subst hqz
    clear hD
    go_wp2
    go_region_held3 (fun W => W.cell? ⟨w2.heap.size, 0, none⟩ = some (.int .i64 lg) ∧ W.cell? ⟨w2.heap.size, 1, none⟩ = some (.bool on) ∧ W.cell? ⟨w2.heap.size, 2, none⟩ = some (.slice ac nc pc)) (first | exact ⟨k0, k1, k2⟩ | exact HS7.out.1.cells | exact HS8.out.1.cells | exact HS9.out.1.cells | exact HS10.out.1.cells) (first
      | (go_at_call 15; refine (HMR.out _ HSE.out.2.1).mono ?_; rintro e w7 ⟨rfl, hc7⟩; have HS7 := Lib.hid (HK.out _ w7 HSE.out hc7); have HR7 := Lib.hid (HR6D.out.kept hc7 (by simp)); clear hc7)
      | (go_at_call 20; with_reducible refine Calls.mono (HF1.out w7 HS7.out.2.1 HS7.out.2.2.1) ?_; rintro e w8 ⟨rfl, hc8⟩; have HS8 := Lib.hid (HK.out _ w8 HS7.out hc8); have HR8 := Lib.hid (HR7.out.kept hc8 (by simp)); clear hc8)
      | (go_at_call 20; with_reducible refine Calls.mono (HF2.out w8 HS8.out.2.1 (HSL2.out _ HS8.out.2.2.1)) ?_; rintro e w9 ⟨rfl, hc9⟩; have HS9 := Lib.hid (HK.out _ w9 HS8.out hc9); have HR9 := Lib.hid (HR8.out.kept hc9 (by simp)); clear hc9)
      | (go_at_call 20; with_reducible refine Calls.mono (HF3.out w9 HS9.out.2.1 HR9.out) ?_; rintro e w10 ⟨rfl, hc10⟩; have HS10 := Lib.hid (HK.out _ w10 HS9.out hc10); clear hc10))
    go_wp2
    go_ret
    exact ⟨rfl, HS10.out.2.2.2⟩
  · have h256 := HATL.out hqz
    obtain ⟨gq, oq, rfl, hqc⟩ := HQ6.out.at x (by rw [h256]; exact hx8)
    rw [h256]
    obtain ⟨z, hz⟩ : ∃ z, Q.getD x 0 = z := ⟨_, rfl⟩
    have hzn := HATN.out
    rw [hz] at hqc hzn
    have hD : decide (Md.fits ⟨lg, on, cs⟩ (xs ++ [x])) = decide (0 < z) := decide_eq_decide.2 ⟨fun hh => by have := (HMO.out.1 hh).2; rw [hz] at this; omega, fun hh => HMO.out.2 ⟨hqz, by rw [hz]; omega⟩⟩
    obtain ⟨D, hDD⟩ : ∃ D, decide (0 < z) = D := ⟨_, rfl⟩
    rw [hDD] at hD
    have HF3 := Lib.hid (show ∀ W, RdLL W (.slice ac nc pc) cs → RdB W (.slice a5 (N + 1) p5) (xs ++ [x]) → Calls Try.prog 20 #[.agg #[.int .i64 lg, .bool on, .slice ac nc pc], .slice a5 (N + 1) p5] W fun e w' => e = .returned (.bool D) ∧ Chg (fun _ => False) W w' from fun W h1 h2 => by
      have := HMF0.out W _ (xs ++ [x]) h1 h2 HXM.out (by simp [HN.out]; omega)
      rw [hD] at this
      exact this)
    have hxI : (x : Int) < 256 := by omega
    have hDq : (D == D) = true := by simp
    clear hD h256 hqz hz hzn
    go_wp2
    go_region_held3 (fun W => W.cell? ⟨w2.heap.size, 0, none⟩ = some (.int .i64 lg) ∧ W.cell? ⟨w2.heap.size, 1, none⟩ = some (.bool on) ∧ W.cell? ⟨w2.heap.size, 2, none⟩ = some (.slice ac nc pc)) (first | exact ⟨k0, k1, k2⟩ | exact HS7.out.1.cells | exact HS8.out.1.cells | exact HS9.out.1.cells | exact HS10.out.1.cells) (first
      | (go_at_call 15; refine (HMR.out _ HSE.out.2.1).mono ?_; rintro e w7 ⟨rfl, hc7⟩; have HS7 := Lib.hid (HK.out _ w7 HSE.out hc7); have HR7 := Lib.hid (HR6D.out.kept hc7 (by simp)); clear hc7)
      | (go_at_call 20; with_reducible refine Calls.mono (HF1.out w7 HS7.out.2.1 HS7.out.2.2.1) ?_; rintro e w8 ⟨rfl, hc8⟩; have HS8 := Lib.hid (HK.out _ w8 HS7.out hc8); have HR8 := Lib.hid (HR7.out.kept hc8 (by simp)); clear hc8)
      | (go_at_call 20; with_reducible refine Calls.mono (HF2.out w8 HS8.out.2.1 (HSL2.out _ HS8.out.2.2.1)) ?_; rintro e w9 ⟨rfl, hc9⟩; have HS9 := Lib.hid (HK.out _ w9 HS8.out hc9); have HR9 := Lib.hid (HR8.out.kept hc9 (by simp)); clear hc9)
      | (go_at_call 20; with_reducible refine Calls.mono (HF3.out w9 HS9.out.2.1 HR9.out) ?_; rintro e w10 ⟨rfl, hc10⟩; have HS10 := Lib.hid (HK.out _ w10 HS9.out hc10); clear hc10))
    go_wp2
    go_ret
    exact ⟨rfl, HS10.out.2.2.2⟩

end Go.Proofs.Ythghlfghdmifoaa
