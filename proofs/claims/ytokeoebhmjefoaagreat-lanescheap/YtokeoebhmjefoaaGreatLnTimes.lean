/- What the document's own lanes (puncheonref17) tell: times and above, of words of 16 bits. -/
import Derived.Test.YtokeoebhmjefoaaGreatLnBig
import Derived.Test.YtokeoebhmjefoaaGreatBase6
import Derived.BigQuiet
namespace Go.Proofs.YtokeoebhmjefoaaGreat
open Go.RowKit

/-- words as numbers of the program -/
def nI (a : List Nat) : List Int := a.map fun x : Nat => (x : Int)
theorem nI_length (a : List Nat) : (nI a).length = a.length := by simp [nI]
theorem nI_append (a b : List Nat) : nI (a ++ b) = nI a ++ nI b := by simp [nI]
theorem nI_get (a : List Nat) (j : Nat) (h : j < a.length) : (nI a).getD j 0 = ((a.getD j 0 : Nat) : Int) := by
  simp [nI, List.getD_eq_getElem?_getD, h]
theorem timesC_drop (k : Nat) (a : List Nat) (j c : Nat) (h : j < a.length) : timesC k (a.drop j) c = (a.getD j 0 * k + c) % 65536 :: timesC k (a.drop (j + 1)) ((a.getD j 0 * k + c) / 65536) := by
  rw [List.drop_eq_getElem_cons h]
  simp only [timesC]
  rw [List.getD_eq_getElem?_getD, List.getElem?_eq_getElem h]; rfl
theorem digs_len : ∀ c, c < 65536 → (digs c).length ≤ 1 := fun c hc => by
  by_cases h : c = 0
  · subst h; rw [digs_zero]; simp
  · rw [digs_pos h, show c / 65536 = 0 by omega, digs_zero]; simp
theorem carry_lt {x k c : Nat} (hx : x < 65536) (hc : c < k) : (x * k + c) / 65536 < k := by
  rw [Nat.div_lt_iff_lt_mul (by omega)]
  have : x * k ≤ 65535 * k := Nat.mul_le_mul_right _ (by omega)
  omega
theorem times_len {k : Nat} (hk : k ≤ 65536) (a : List Nat) (ha : ∀ x ∈ a, x < 65536) (c : Nat) (hc : c < k) : (timesC k a c).length ≤ a.length + 1 := by
  induction a generalizing c with
  | nil => simp only [timesC]; have := digs_len c (by omega); simpa using this
  | cons x r ih =>
    have h1 := ih (fun y hy => ha y (by simp [hy])) _ (carry_lt (ha x (by simp)) hc)
    simp only [timesC, List.length_cons]
    omega

set_option maxHeartbeats 2000000 in
theorem r17times_any (v : Value) (a : List Nat) (k : Nat) (w : World) (h : RdI w v (nI a)) (ha : ∀ x ∈ a, x < 65536) (hk : 1 ≤ k) (hk2 : k ≤ 65536) (hl : a.length ≤ 1000000) :
    Calls Tryz.prog 15 #[v, .int .i64 (k : Int)] w fun e w' => ∃ u, e = .returned u ∧ RdI w' u (nI (timesC k a 0)) ∧ Chg (fun _ => False) w w' := by
  obtain ⟨ao, cap, rfl⟩ := h.form
  rw [nI_length] at h ⊢
  have H := Lib.hid h; have HA := Lib.hid ha
  obtain ⟨N, hN⟩ : ∃ N, a.length = N := ⟨_, rfl⟩
  rw [hN] at H hl ⊢
  have HN := Lib.hid hN
  have hkI : (k : Int) ≤ 65536 := by omega
  have hNI : (N : Int) ≤ 1000000 := by omega
  clear h ha hN
  go_enter Tryz.func15, Tryz.ntmps15
  go_wp2
  go_loopw [5, 6, 7] (fun o5 o6 o7 wr => ∃ (j c c5 : Nat) (o : List Nat) (a5 : Option Addr), j ≤ N ∧ o7 = .int .i64 (j : Int) ∧ o6 = .int .i64 (c : Int) ∧ c < k ∧ o5 = .slice a5 o.length c5 ∧ wr.ownsRow w.heap.size 3 1 (.slice a5 o.length c5) (nI o).length (iw (nI o)) ∧ Chg (fun _ => False) w wr ∧ o.length = j ∧ timesC k a 0 = o ++ timesC k (a.drop j) c) (fun _ _ o7 _ => N - (intOf o7).toNat)
  case atStart => exact ⟨0, 0, 0, [], none, Nat.zero_le _, rfl, rfl, by omega, rfl, nil_owns _ _, Chg.refl _ _, rfl, rfl⟩
  case round =>
    obtain ⟨j, c, c5, o, a5, hj, rfl, rfl, hck, rfl, hown, hc, hol, hrest⟩ := hrel
    by_cases hlt : j < N
    · obtain ⟨g, off, rfl, hcell⟩ := (H.out.kept hc (by simp)).at j (by rw [nI_length, HN.out]; exact hlt)
      rw [nI_get a j (by rw [HN.out]; exact hlt)] at hcell
      rw [timesC_drop k a j c (by rw [HN.out]; exact hlt)] at hrest
      have hxl : a.getD j 0 < 65536 := by
        rw [List.getD_eq_getElem?_getD, List.getElem?_eq_getElem (by rw [HN.out]; exact hlt)]
        exact HA.out _ (List.getElem_mem _)
      have hcl := carry_lt hxl hck
      obtain ⟨x, hx⟩ : ∃ x, a.getD j 0 = x := ⟨_, rfl⟩
      rw [hx] at hcell hrest hxl hcl
      have hxk : x * k ≤ 65535 * 65536 := Nat.mul_le_mul (by omega) hk2
      obtain ⟨P, hP⟩ : ∃ P, x * k = P := ⟨_, rfl⟩
      have hPI : (x : Int) * (k : Int) = (P : Int) := by rw [← hP]; simp
      rw [hP] at hrest hcl hxk
      obtain ⟨r, hr⟩ : ∃ r, (P + c) % 65536 = r := ⟨_, rfl⟩
      obtain ⟨d, hd⟩ : ∃ d, (P + c) / 65536 = d := ⟨_, rfl⟩
      rw [hr, hd] at hrest
      rw [hd] at hcl
      have hrI : ((P : Int) + (c : Int)) % 65536 = (r : Int) := by omega
      have hrT : ((P : Int) + (c : Int)).tmod 65536 = (r : Int) := by rw [Int.tmod_eq_emod_of_nonneg (by omega)]; exact hrI
      have hdI : ((P : Int) + (c : Int)) / 65536 = (d : Int) := by omega
      have hdT : ((P : Int) + (c : Int)).tdiv 65536 = (d : Int) := by rw [Int.tdiv_eq_ediv_of_nonneg (by omega)]; exact hdI
      have hxI : (x : Int) < 65536 := by omega
      have hcI : (c : Int) < 65536 := by omega
      have hPb : (P : Int) ≤ 4294901760 := by omega
      have hrb : (r : Int) < 65536 := by omega
      have hdb : (d : Int) < 65536 := by omega
      have hca := Chg.alloc (fun _ => False) wr (.cells #[.int .i64 (r : Int)] 3)
      have hrd := rdi_new wr [(r : Int)] #[.int .i64 (r : Int)] 1 (0, 0) rfl rfl
      have hoa := hca.own hown (by simp)
      have hz : w.heap.size ≤ (wr.alloc (.cells #[.int .i64 (r : Int)] 3)).heap.size := Nat.le_trans hc.size hca.size
      have HCA := Lib.hid hca; have HRD := Lib.hid hrd; have HOA := Lib.hid hoa; have HZ := Lib.hid hz; have HC := Lib.hid hc; have HREST := Lib.hid hrest; have HOL := Lib.hid hol; have HOWN := Lib.hid hown
      have hje : (j : Int) < (N : Int) := by omega
      clear hca hrd hoa hz hc hrest hol hown hx hP hr hd hxl hxk
      go_wp2_with (at_builtin; refine wpList_append_ints rfl (.tmp 23) (.tmp 26) rfl w.heap.size (.slice a5 o.length c5) (nI o) rfl HOA.out _ [(r : Int)] rfl HRD.out HZ.out (by rw [nI_length]; have := HOL.out; simp; omega) ?_)
      intro v2 w2 hown2 hc2
      have hown3 : w2.ownsRow w.heap.size 3 1 v2 (nI (o ++ [r])).length (iw (nI (o ++ [r]))) := by rw [nI_append, show nI [r] = [(r : Int)] from rfl]; simpa using hown2
      obtain ⟨a6, c6, hv⟩ : ∃ a c, v2 = .slice a (o ++ [r]).length c := by
        rcases hown3.2 with ⟨h1, h2⟩ | ⟨g', cap', _, h1, _⟩
        · exact ⟨none, 0, by rw [nI_length] at h2; rw [h1, h2]⟩
        · exact ⟨_, _, by rw [h1, nI_length]⟩
      subst hv
      have hc3 : Chg (fun _ => False) w w2 := (HC.out.trans HCA.out fun _ _ h => h).trans hc2 fun q hq he => by
        have := HOWN.out
        rcases this.2 with ⟨h1, h2⟩ | ⟨g', cap', _, h1, h2, _⟩
        · rw [h1] at he; simp [Value.ownBlock] at he
        · rw [h1] at he; simp only [Value.ownBlock, Option.some.injEq] at he; omega
      have HS := Lib.hid (show w2.ownsRow w.heap.size 3 1 (.slice a6 (o ++ [r]).length c6) (nI (o ++ [r])).length (iw (nI (o ++ [r]))) ∧ Chg (fun _ => False) w w2 ∧ (o ++ [r]).length = j + 1 ∧ timesC k a 0 = (o ++ [r]) ++ timesC k (a.drop (j + 1)) d from ⟨hown3, hc3, by rw [List.length_append, HOL.out]; rfl, by rw [HREST.out]; simp⟩)
      clear hown2 hown3 hc2 hc3 HOA HRD HZ HCA HOWN
      go_wp2
      go_roundw
      case rel => exact ⟨j + 1, d, c6, o ++ [r], a6, by omega, by go_num, by go_num, hcl, rfl, HS.out⟩
      case measure => simp [intOf]; omega
    · have hjN : j = N := by omega
      have hrest2 : timesC k a 0 = o ++ digs c := by rw [hrest, List.drop_of_length_le (by rw [HN.out, hjN]; omega)]; rfl
      have HR0 := Lib.hid (show wr.ownsRow w.heap.size 3 1 (.slice a5 o.length c5) (nI o).length (iw (nI o)) ∧ Chg (fun _ => False) w wr ∧ o.length ≤ 1000000 ∧ timesC k a 0 = o ++ digs c from ⟨hown, hc, by omega, hrest2⟩)
      have hcI : c < 65536 := by omega
      clear hown hc hol hrest hrest2
      go_wp2
      go_loopw [5, 6] (fun o5 o6 wr => ∃ (c c5 : Nat) (o : List Nat) (a5 : Option Addr), o6 = .int .i64 (c : Int) ∧ c < 65536 ∧ o5 = .slice a5 o.length c5 ∧ wr.ownsRow w.heap.size 3 1 (.slice a5 o.length c5) (nI o).length (iw (nI o)) ∧ Chg (fun _ => False) w wr ∧ o.length + (if c = 0 then 0 else 1) ≤ 1000001 ∧ timesC k a 0 = o ++ digs c) (fun _ o6 _ => (intOf o6).toNat)
      case atStart => exact ⟨c, c5, o, a5, rfl, hcI, rfl, HR0.out.1, HR0.out.2.1, by have := HR0.out.2.2.1; split <;> omega, HR0.out.2.2.2⟩
      case round =>
        clear HR0
        obtain ⟨c, c5, o, a5, rfl, hcI, rfl, hown, hc, hol, hrest⟩ := hrel
        by_cases hc0 : c = 0
        · subst hc0
          rw [digs_zero, List.append_nil] at hrest
          have HREST := Lib.hid hrest; have HOWN := Lib.hid hown; have HC := Lib.hid hc
          clear hrest hown hc
          go_wp2
          go_ret
          exact ⟨_, rfl, by rw [HREST.out]; exact RdI.of_own HOWN.out, HC.out⟩
        · rw [digs_pos hc0, show c / 65536 = 0 by omega, Nat.mod_eq_of_lt hcI, digs_zero] at hrest
          have hrI : (c : Int) % 65536 = (c : Int) := by omega
          have hrT : (c : Int).tmod 65536 = (c : Int) := by rw [Int.tmod_eq_emod_of_nonneg (by omega)]; exact hrI
          have hdI : (c : Int) / 65536 = 0 := by omega
          have hdT : (c : Int).tdiv 65536 = 0 := by rw [Int.tdiv_eq_ediv_of_nonneg (by omega)]; exact hdI
          have hpos : (0 : Int) < (c : Int) := by omega
          rw [if_neg hc0] at hol
          have hca := Chg.alloc (fun _ => False) wr (.cells #[.int .i64 (c : Int)] 3)
          have hrd := rdi_new wr [(c : Int)] #[.int .i64 (c : Int)] 1 (0, 0) rfl rfl
          have hoa := hca.own hown (by simp)
          have hz : w.heap.size ≤ (wr.alloc (.cells #[.int .i64 (c : Int)] 3)).heap.size := Nat.le_trans hc.size hca.size
          have HCA := Lib.hid hca; have HRD := Lib.hid hrd; have HOA := Lib.hid hoa; have HZ := Lib.hid hz; have HC := Lib.hid hc; have HREST := Lib.hid hrest; have HOL := Lib.hid hol; have HOWN := Lib.hid hown
          clear hca hrd hoa hz hc hrest hol hown hc0
          go_wp2_with (at_builtin; refine wpList_append_ints rfl (.tmp 32) (.tmp 35) rfl w.heap.size (.slice a5 o.length c5) (nI o) rfl HOA.out _ [(c : Int)] rfl HRD.out HZ.out (by rw [nI_length]; have := HOL.out; simp; omega) ?_)
          intro v2 w2 hown2 hc2
          have hown3 : w2.ownsRow w.heap.size 3 1 v2 (nI (o ++ [c])).length (iw (nI (o ++ [c]))) := by rw [nI_append, show nI [c] = [(c : Int)] from rfl]; simpa using hown2
          obtain ⟨a6, c6, hv⟩ : ∃ a d, v2 = .slice a (o ++ [c]).length d := by
            rcases hown3.2 with ⟨h1, h2⟩ | ⟨g', cap', _, h1, _⟩
            · exact ⟨none, 0, by rw [nI_length] at h2; rw [h1, h2]⟩
            · exact ⟨_, _, by rw [h1, nI_length]⟩
          subst hv
          have hc3 : Chg (fun _ => False) w w2 := (HC.out.trans HCA.out fun _ _ h => h).trans hc2 fun q hq he => by
            have := HOWN.out
            rcases this.2 with ⟨h1, h2⟩ | ⟨g', cap', _, h1, h2, _⟩
            · rw [h1] at he; simp [Value.ownBlock] at he
            · rw [h1] at he; simp only [Value.ownBlock, Option.some.injEq] at he; omega
          have HS := Lib.hid (show w2.ownsRow w.heap.size 3 1 (.slice a6 (o ++ [c]).length c6) (nI (o ++ [c])).length (iw (nI (o ++ [c]))) ∧ Chg (fun _ => False) w w2 ∧ (o ++ [c]).length + (if (0 : Nat) = 0 then 0 else 1) ≤ 1000001 ∧ timesC k a 0 = (o ++ [c]) ++ digs 0 from ⟨hown3, hc3, by have := HOL.out; simp; omega, by rw [HREST.out, digs_zero]; simp⟩)
          clear hown2 hown3 hc2 hc3 HOA HRD HZ HCA HOWN
          go_wp2
          go_roundw
          case rel => exact ⟨0, by go_num, by omega, c6, o ++ [c], a6, ⟨rfl, by simp, rfl⟩, HS.out⟩
          case measure => simp [intOf]; omega

set_option maxHeartbeats 2000000 in
theorem r17above_any (v u : Value) (a b : List Nat) (w : World) (h : RdI w v (nI a)) (g : RdI w u (nI b)) (hl : a.length ≤ 1000000) (hl2 : b.length ≤ 1000000) :
    Calls Tryz.prog 19 #[v, u] w fun e w' => e = .returned (.bool (aboveW a b)) ∧ Chg (fun _ => False) w w' := by
  obtain ⟨ao, cap, rfl⟩ := h.form
  obtain ⟨bo, cbp, rfl⟩ := g.form
  rw [nI_length] at h g ⊢
  rw [nI_length]
  have H := Lib.hid h; have G := Lib.hid g
  obtain ⟨N, hN⟩ : ∃ N, a.length = N := ⟨_, rfl⟩
  obtain ⟨M, hM⟩ : ∃ M, b.length = M := ⟨_, rfl⟩
  have HD := Lib.hid (show aboveW a b = if N = M then aboveF a b N else decide (M < N) from by unfold aboveW; rw [hN, hM])
  rw [hN] at H hl ⊢
  rw [hM] at G hl2 ⊢
  have HN := Lib.hid hN; have HM := Lib.hid hM
  clear h g hN hM
  by_cases hne : N = M
  · subst hne
    have HD1 := Lib.hid (show aboveW a b = aboveF a b N from by rw [HD.out, if_pos rfl])
    clear HD
    have hNI : (N : Int) ≤ 1000000 := by omega
    go_enter Tryz.func19, Tryz.ntmps19
    go_wp2
    go_loopw [5] (fun o5 wr => ∃ j : Nat, j ≤ N ∧ o5 = .int .i64 ((j : Int) - 1) ∧ aboveF a b N = aboveF a b j ∧ Chg (fun _ => False) w wr) (fun o5 _ => (intOf o5 + 1).toNat)
    case atStart => exact ⟨N, Nat.le_refl _, rfl, rfl, Chg.refl _ _⟩
    case round =>
      obtain ⟨j, hj, rfl, hab, hc⟩ := hrel
      by_cases hj0 : j = 0
      · subst hj0
        have HE := Lib.hid (show aboveW a b = false from by rw [HD1.out, hab]; rfl)
        have HC := Lib.hid hc
        rw [show ((0 : Nat) : Int) - 1 = -1 by omega]
        clear hab hc
        go_wp2
        go_ret
        exact ⟨by rw [HE.out]; rfl, HC.out⟩
      · obtain ⟨i, rfl⟩ : ∃ i, j = i + 1 := ⟨j - 1, by omega⟩
        rw [show ((i + 1 : Nat) : Int) - 1 = (i : Int) by omega]
        obtain ⟨ga, oa, rfl, hca⟩ := (H.out.kept hc (by simp)).at i (by rw [nI_length, HN.out]; omega)
        obtain ⟨gb, ob, rfl, hcb⟩ := (G.out.kept hc (by simp)).at i (by rw [nI_length, HM.out]; omega)
        rw [nI_get a i (by rw [HN.out]; omega)] at hca
        rw [nI_get b i (by rw [HM.out]; omega)] at hcb
        have hst : aboveF a b (i + 1) = if a.getD i 0 = b.getD i 0 then aboveF a b i else decide (b.getD i 0 < a.getD i 0) := rfl
        obtain ⟨x, hx⟩ : ∃ x, a.getD i 0 = x := ⟨_, rfl⟩
        obtain ⟨y, hy⟩ : ∃ y, b.getD i 0 = y := ⟨_, rfl⟩
        rw [hx] at hca hst
        rw [hy] at hcb hst
        rw [hst] at hab
        have hiN : (i : Int) < (N : Int) := by omega
        have HC := Lib.hid hc
        have HAB := Lib.hid hab
        clear hx hy hc hst hab
        by_cases hxy : x = y
        · subst hxy
          have hab2 := HAB.out
          rw [if_pos rfl] at hab2
          have HAB2 := Lib.hid hab2
          clear hab2 HAB
          go_wp2
          go_quiet (fail)
          go_wp2
          go_roundw
          case rel => exact ⟨i, by omega, by go_num, HAB2.out, HC.out.drewN _⟩
          case measure => simp [intOf]
        · have hab2 := HAB.out
          rw [if_neg hxy] at hab2
          have HE := Lib.hid (show aboveW a b = decide (y < x) from by rw [HD1.out, hab2])
          have hne1 : ((x : Int) == (y : Int)) = false := by simp; omega
          have hne2 : ((x : Int) != (y : Int)) = true := by simp; omega
          clear hab2 HAB
          go_wp2
          go_quiet (fail)
          go_wp2
          go_quiet (fail)
          go_wp2
          go_ret
          exact ⟨by rw [HE.out]; rfl, (HC.out.drewN _).drewN _⟩
  · have HE := Lib.hid (show aboveW a b = decide (M < N) from by rw [HD.out, if_neg hne])
    have hne1 : ((N : Int) == (M : Int)) = false := by simp; omega
    have hne2 : ((N : Int) != (M : Int)) = true := by simp; omega
    go_enter Tryz.func19, Tryz.ntmps19
    go_wp2
    go_ret
    exact ⟨by rw [HE.out]; rfl, Chg.refl _ _⟩

end Go.Proofs.YtokeoebhmjefoaaGreat
