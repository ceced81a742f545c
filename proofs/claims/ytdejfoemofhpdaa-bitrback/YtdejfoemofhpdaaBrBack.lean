/- The walk of BitrBack. -/
import Derived.Test.YtdejfoemofhpdaaBrSplits
import Derived.Test.YtdejfoemofhpdaaBwMany
namespace Go.Proofs.Ytdejfoemofhpdaa
open Go.RowKit

def pv : List (Nat × Int) → List Value
  | [] => []
  | p :: r => .int .u32 (p.1 : Int) :: .int .i64 p.2 :: pv r

theorem pv_length (ps : List (Nat × Int)) : (pv ps).length = ps.length * 2 := by
  induction ps with
  | nil => rfl
  | cons p r ih => simp [pv, ih]; omega

theorem pv_append (a b : List (Nat × Int)) : pv (a ++ b) = pv a ++ pv b := by
  induction a with
  | nil => rfl
  | cons p r ih => simp [pv, ih]

theorem pv_get (ps : List (Nat × Int)) (i : Nat) (h : i < ps.length) : (pv ps)[i * 2]? = some (.int .u32 (ps[i].1 : Int)) ∧ (pv ps)[i * 2 + 1]? = some (.int .i64 ps[i].2) := by
  induction ps generalizing i with
  | nil => simp at h
  | cons p r ih =>
    cases i with
    | zero => exact ⟨rfl, rfl⟩
    | succ i =>
      have := ih i (by simpa using h)
      rw [show (i + 1) * 2 = i * 2 + 2 from by omega]
      exact this

def okP (p : Nat × Int) : Bool := decide (0 ≤ p.2 ∧ p.2 ≤ 24)

theorem putAll_filter (bs : List Bool) (ps : List (Nat × Int)) : putAll bs (ps.filter okP) = putAll bs ps := by
  induction ps generalizing bs with
  | nil => rfl
  | cons p r ih =>
    by_cases hp : okP p = true
    · rw [List.filter_cons_of_pos hp]; exact ih _
    · rw [List.filter_cons_of_neg hp]
      have e : putB bs p.1 p.2 = bs := by
        unfold putB; rw [if_neg (by simpa [okP] using hp)]
      rw [ih]; show putAll bs r = putAll (putB bs p.1 p.2) r; rw [e]

theorem filter_succ (ps : List (Nat × Int)) (k : Nat) (h : k < ps.length) : (ps.take (k + 1)).filter okP = (ps.take k).filter okP ++ (if okP ps[k] then [ps[k]] else []) := by
  rw [List.take_succ_eq_append_getElem h, List.filter_append]
  congr 1
  by_cases hp : okP ps[k] <;> simp [hp]

theorem Try.infoPart : (Try.prog.info? 44).map (fun i => (i.zero, i.size, i.bytes)) = some (some (.agg #[.int .u32 0, .int .i64 0]), 2, 16) := by kernel_rfl

theorem row_ne {w : World} {base size n b : Nat} {e t : TypeId} {v : Value} {xs : List Value} {cs : Array Value} {z : Nat × Nat} (h : w.ownsRow base e size v n xs) (hb : w.heap[b]? = some (.cells cs t z)) (hne : e ≠ t) : ∀ k, v.ownBlock = some k → k ≠ b := by
  intro k hk
  rcases h.2 with ⟨rfl, _⟩ | ⟨q, cap, cur, rfl, _, hq, _⟩
  · simp [Value.ownBlock] at hk
  · simp only [Value.ownBlock, Option.some.injEq] at hk
    subst hk
    rintro rfl
    rw [hb] at hq
    simp only [Option.some.injEq, Obj.cells.injEq] at hq
    exact hne hq.2.1.symm

theorem parts_apart {w : World} {base n b : Nat} {v : Value} {xs : List Value} {o : Option Nat} {bs : List Bool} (h : w.ownsRow base 44 2 v n xs) (hw : Wr w b o bs) : ∀ k, v.ownBlock = some k → ¬ (k = b ∨ some k = o) := by
  intro k hk
  obtain ⟨v2, hb, ho, hown⟩ := hw
  rintro (hx | hx)
  · exact row_ne h hb (by decide) k hk hx
  · rcases hown.2 with ⟨rfl, _⟩ | ⟨g2, cap2, cur2, rfl, _, hg2, _⟩
    · rw [← hx] at ho; simp [Value.ownBlock] at ho
    · rw [← hx] at ho
      simp only [Value.ownBlock, Option.some.injEq] at ho
      exact row_ne h hg2 (by decide) k hk ho.symm

theorem mask_eq (u n : Nat) (hu : u < 4294967296) (hn : n ≤ 24) : ((u : Int) % 2 ^ n != bits BinOp.and IntKind.u32 (u : Int) ((2 ^ n - 1) % 4294967296)) = false := by
  have hp : 2 ^ n ≤ 2 ^ 24 := Nat.pow_le_pow_right (by omega) hn
  have hp1 : 0 < 2 ^ n := Nat.pow_pos (by omega)
  have e : ((2 : Int) ^ n - 1) % 4294967296 = 2 ^ n - 1 := by
    have e1 : ((2 : Int) ^ n) = ((2 ^ n : Nat) : Int) := by simp
    rw [e1]
    generalize 2 ^ n = z at *
    omega
  have h := bits_mask .u32 32 (by decide) wraps_u32 n (by omega) (u : Int) (by omega) (by omega)
  rw [e, h]
  simp

theorem okP_false {p : Nat × Int} (h : okP p = false) : decide (0 ≤ p.2 ∧ p.2 ≤ 24) = false := h
theorem okP_true {p : Nat × Int} (h : okP p = true) : decide (0 ≤ p.2 ∧ p.2 ≤ 24) = true := h

set_option maxHeartbeats 4000000 in
set_option maxRecDepth 100000 in
theorem rback_any (v : Value) (ps : List (Nat × Int)) (w : World) (h : RdP w v ps) : Calls Try.prog 4 #[v] w fun e w' => Says w e w' := by
  obtain ⟨ao, cap, hv, hao⟩ := h.form
  subst hv
  have HA := Lib.hid hao
  clear hao
  by_cases hbig : 60 < ps.length
  · clear h
    go_enter Try.func4, Try.ntmps4
    go_wp2_with fail
    refine (awake2_any w).mono ?_
    rintro e w1 ⟨rfl, hc1⟩
    go_wp2
    go_ret
    exact ⟨rfl, hc1⟩
  · obtain ⟨i, hi, hz0, hz1, hz2⟩ := info_parts Try.infoPart
    have H := Lib.hid h
    clear h
    go_enter Try.func4, Try.ntmps4
    go_wp2_with fail
    refine (awake2_any w).mono ?_
    rintro e w1 ⟨rfl, hc1⟩
    have z1 := hc1.size
    go_wp2_with fail
    refine (new_wr w1).mono ?_
    rintro e w2 ⟨rfl, hw2, hc2⟩
    have hc2' := hc1.trans hc2 (fun _ _ h => h)
    clear hc1 hc2
    go_wp2
    go_loopw [5, 6] (fun o5 o6 wr => ∃ (k : Nat) (o : Option Nat), k ≤ ps.length ∧ o6 = .int .i64 (k : Int) ∧ Wr wr w1.heap.size o (putAll [] (ps.take k)) ∧ Above w1.heap.size w1.heap.size o ∧ wr.ownsRow w1.heap.size 44 2 o5 ((ps.take k).filter okP).length (pv ((ps.take k).filter okP)) ∧ Chg (fun _ => False) w wr) (fun _ o6 _ => ps.length - (intOf o6).toNat)
    case atStart => exact ⟨0, none, Nat.zero_le _, rfl, hw2, ⟨Nat.le_refl _, by simp⟩, by simpa [pv] using World.ownsRow_nil w2 w1.heap.size 44 2, hc2'⟩
    case round =>
      obtain ⟨k, o, hk, rfl, hwr, hab, ho, hcr⟩ := hrel
      clear hw2 hc2'
      by_cases hlt : k < ps.length
      · obtain ⟨g, off, hao⟩ := HA.out (by omega)
        subst hao
        have hkept := H.out.kept hcr (fun _ _ => by simp)
        obtain ⟨q0, q1⟩ := hkept.cells g off _ _ rfl k hlt
        have hpl := putAll_length [] (ps.take k)
        have htl : (ps.take k).length ≤ k := List.length_take_le _ _
        have hwf := H.out.wf ps[k] (List.getElem_mem hlt)
        have hsz := hcr.size
        go_wp2
        go_still_tail 11, (by kernel_rfl)
        change wpList _ _ _ _ _ wr.drew
        go_wp2_with fail
        refine (put_any w1.heap.size o (putAll [] (ps.take k)) ps[k].1 ps[k].2 _ hwr.drew (by simp at hpl; omega) hwf).mono ?_
        rintro e w3 ⟨rfl, o3, hw3, hc3, ho3⟩
        have hap := parts_apart ho hwr
        have ho3' := hc3.own (show wr.drew.ownsRow _ _ _ _ _ _ from ho) (fun q hq => hap q hq)
        have hcr3 := hcr.drew.trans hc3 (S := fun _ => False) (fun q hq hx => by
          rcases hx with hx | hx
          · omega
          · have := hab.2 q hx.symm; omega)
        have hab3 := hab.step (w := wr.drew) (by show w1.heap.size ≤ wr.heap.size; have := hwr.lt.1; omega) ho3
        rw [← putAll_succ [] ps k hlt] at hw3
        have hkept3 := H.out.kept hcr3 (fun _ _ => by simp)
        obtain ⟨s0, s1⟩ := hkept3.cells g off _ _ rfl k hlt
        have hfs := filter_succ ps k hlt
        have hfl : ((ps.take k).filter okP).length ≤ 60 := by have := List.length_filter_le okP (ps.take k); omega
        have hw3z := hw3.lt.1
        have HFS := Lib.hid hfs; have HW3 := Lib.hid hw3; have HAB3 := Lib.hid hab3; have HC3 := Lib.hid hcr3
        clear hap hc3 ho3 hfs hw3 hab3 hcr3 hkept3 hkept hwr hcr hab ho q0 q1 hpl htl hwf
        by_cases hok : okP ps[k] = true
        · rw [okP_true hok]
          rw [if_pos hok] at HFS
          generalize hF : (ps.take k).filter okP = F at *
          clear hF
          generalize hP : ps[k] = p at *
          go_wp2_with (at_builtin; refine wpList_append_own _ rfl (.tmp 42) (.tmp 47) 39 rfl w1.heap.size 44 i (.agg #[.int .u32 0, .int .i64 0]) 2 16 Try.underlying39 hi hz0 hz1 hz2 rfl (by decide) _ F.length _ rfl (ho3'.alloc _) ⟨w3.heap.size, 0, none⟩ 1 1 _ rfl rfl (cell_two_new _ _ _ _) ?_ (by unfold maxLen; omega) (by omega) (by simp; omega) ?_)
          · intro x hx; simp at hx; rcases hx with rfl | rfl <;> rfl
          intro v' w5 ho5 hg5 _
          have hapn := parts_apart ho3' HW3.out
          have hcg : Chg (fun q => some q = u5.ownBlock) w3 w5 := (Chg.alloc _ w3 _).trans (Chg.of_grown hg5) (fun _ _ hx => hx)
          have hw5 := HW3.out.kept hcg (fun hx => hapn _ hx.symm (.inl rfl)) (fun q hq hx => hapn q hx.symm (.inr hq.symm))
          have hc5 := HC3.out.trans hcg (S := fun _ => False) (fun q hq hx => by have := (ho3'.lt q hx.symm).1; omega)
          have hab5 := HAB3.out
          rw [show pv F ++ [Value.int .u32 (p.1 : Int), .int .i64 p.2] = pv (F ++ [p]) from by rw [pv_append]; rfl, show F.length + 1 = (F ++ [p]).length from by simp, ← HFS.out] at ho5
          clear hcg hg5 hapn ho3' HW3 HC3 HAB3 s0 s1 HFS
          go_wp2
          go_roundw
          case rel => exact ⟨k + 1, o3, by omega, by go_num, hw5, hab5, ho5, hc5⟩
          case measure => simp [intOf]; omega
        · have hok' : okP ps[k] = false := by simpa using hok
          rw [okP_false hok']
          rw [if_neg hok, List.append_nil] at HFS
          rw [← HFS.out] at ho3'
          clear s0 s1 HFS
          go_wp2
          go_roundw
          case rel => exact ⟨k + 1, o3, by omega, by go_num, HW3.out, HAB3.out, ho3', HC3.out⟩
          case measure => simp [intOf]; omega
      · obtain rfl : k = ps.length := by omega
        rw [List.take_length] at hwr ho
        have hfl : (ps.filter okP).length ≤ 60 := by have := List.length_filter_le okP ps; omega
        have hbl := (putAll_length [] ps).2
        have hfa := putAll_filter [] ps
        have hFok : ∀ p ∈ ps.filter okP, okP p = true := fun p hp => (List.mem_filter.1 hp).2
        have hFwf : ∀ p ∈ ps.filter okP, p.1 < 4294967296 := fun p hp => H.out.wf p (List.mem_filter.1 hp).1
        obtain ⟨F, hF⟩ : ∃ F, ps.filter okP = F := ⟨_, rfl⟩
        obtain ⟨bs, hbs⟩ : ∃ bs, putAll [] ps = bs := ⟨_, rfl⟩
        rw [hF] at ho hfl hfa hFok hFwf
        rw [hbs] at hwr hbl hfa
        have hbl' : bs.length < 2000 := by simp at hbl; omega
        have HFA := Lib.hid hfa; have HOK := Lib.hid hFok; have HWF := Lib.hid hFwf
        clear hF hbs hbl hfa hFok hFwf hk hlt
        obtain ⟨ao5, cap5, hv5, -⟩ : ∃ ao cap, u5 = .slice ao F.length cap ∧ True := by
          rcases ho.2 with ⟨rfl, h0⟩ | ⟨g, cap, cur, rfl, _⟩
          · exact ⟨none, 0, by rw [h0], trivial⟩
          · exact ⟨_, cap, rfl, trivial⟩
        subst hv5
        obtain ⟨wa, hwa⟩ : ∃ wa, wa = wr := ⟨_, rfl⟩
        subst hwa
        have HAB := Lib.hid hab
        clear hab
        go_wp2_with fail
        refine (close_any w1.heap.size o bs wa hwr (by omega)).mono ?_
        rintro e w3 ⟨g3, cap3, rfl, hr3, hc3⟩
        have hw3 := hwr.kept hc3 (by simp) (by simp)
        have ho3 := hc3.own ho (by simp)
        have hc3' := hcr.trans hc3 (fun _ _ h => h)
        have rd3 := RdB.of_own hr3
        obtain ⟨el, hl, h0⟩ := close_last bs
        have HMK := Lib.hid (show Marked (pack (bs ++ [true])) from ⟨h0, hl⟩)
        rw [el]
        rw [el] at rd3
        have z3 := hc3'.size
        have HEL := Lib.hid el
        clear hc3 hr3 hwr ho hcr hl h0 el
        go_wp2_with fail
        refine (rnew_ok _ _ w3 rd3 HMK.out (by rw [HEL.out]; omega) (pack_lt _)).mono ?_
        rintro e w4 ⟨b, g, rfl, r4, zb, zg, hc4⟩
        rw [openB_close] at r4
        have hw4 := hw3.kept hc4 (by simp) (by simp)
        have ho4 := hc4.own ho3 (by simp)
        have hc4' := hc3'.trans hc4 (fun _ _ h => h)
        have HB : Hid (w.heap.size ≤ b) := Lib.hid (by omega)
        clear hc4 hw3 ho3 hc3' rd3 zb zg HMK HEL z3
        go_wp2_with fail
        refine (left_any b g bs w4 r4).mono ?_
        rintro e w5 ⟨rfl, rfl⟩
        go_wp2_with fail
        refine (bits_any w1.heap.size o bs w4 hw4).mono ?_
        rintro e w5 ⟨rfl, rfl⟩
        clear hw4
        rw [← HFA.out] at r4
        go_wp2
        go_loopw [10] (fun o10 wr => ∃ j : Nat, j ≤ F.length ∧ o10 = .int .i64 ((j : Int) - 1) ∧ Rr wr b g (putAll [] (F.take j)) ∧ wr.ownsRow w1.heap.size 44 2 (.slice ao5 F.length cap5) F.length (pv F) ∧ Chg (fun _ => False) w wr) (fun o10 _ => (intOf o10 + 1).toNat)
        case atStart => exact ⟨F.length, Nat.le_refl _, rfl, by simpa using r4, ho4, hc4'⟩
        case round =>
          obtain ⟨j, hj, rfl, r, ho, hc⟩ := hrel
          clear r4 ho4 hc4'
          rcases j with _ | j
          · go_wp2_with fail
            refine (take_no b g [] 1 wr r (by simp)).mono ?_
            rintro e w5 ⟨rfl, rfl⟩
            go_wp2_with fail
            refine (left_any b g [] wr r).mono ?_
            rintro e w5 ⟨rfl, rfl⟩
            clear r ho
            go_wp2
            go_ret
            exact ⟨rfl, hc⟩
          · have hij : (((j + 1 : Nat) : Int) - 1) = (j : Int) := by omega
            rw [hij]
            obtain ⟨gl, capl, hvl⟩ : ∃ gl capl, (Value.slice ao5 F.length cap5) = .slice (some ⟨gl, 0, none⟩) F.length capl := by
              rcases ho.2 with ⟨hx, h0⟩ | ⟨g, cap, cur, hx, _⟩
              · omega
              · exact ⟨g, cap, hx⟩
            simp only [Value.slice.injEq, true_and] at hvl
            obtain ⟨rfl, rfl⟩ := hvl
            have hpl := pv_length F
            have hcells := ho.cells (g := gl) rfl
            have hc0 := hcells (j * 2) _ (pv_get F j (by omega)).1
            have hc1 := hcells (j * 2 + 1) _ (pv_get F j (by omega)).2
            rw [show (⟨gl, 0, none⟩ : Addr).add (j * 2) = ⟨gl, 0 + j * 2, none⟩ from by unfold Addr.add; split <;> simp_all, Nat.zero_add] at hc0
            rw [show (⟨gl, 0, none⟩ : Addr).add (j * 2 + 1) = ⟨gl, 0 + (j * 2 + 1), none⟩ from by unfold Addr.add; split <;> simp_all, Nat.zero_add] at hc1
            rw [putAll_succ [] F j (by omega)] at r
            have hok := HOK.out F[j] (List.getElem_mem _)
            have hwf := HWF.out F[j] (List.getElem_mem _)
            obtain ⟨⟨u, n0⟩, hp⟩ : ∃ p, F[j] = p := ⟨_, rfl⟩
            rw [hp] at hc0 hc1 r hok hwf
            simp only [okP, decide_eq_true_eq] at hok
            obtain ⟨n, rfl⟩ := Int.eq_ofNat_of_zero_le hok.1
            rw [show putB (putAll [] (F.take j)) u (n : Int) = putAll [] (F.take j) ++ bitsOf u n from by unfold putB; rw [if_pos hok]; rfl] at r
            obtain ⟨B, hB⟩ : ∃ B, putAll [] (F.take j) = B := ⟨_, rfl⟩
            rw [hB] at r
            have hap : gl ≠ b := by
              obtain ⟨ys, -, -, -, -, hb, hg⟩ := r
              exact row_ne ho hb (by decide) gl rfl
            have h24 : ¬ 24 < (n : Int) := by omega
            have HBB := Lib.hid hB
            clear hp hB hcells hpl hok
            simp only at hc0 hc1 hwf
            go_wp2_with fail
            refine (take_in b g (B ++ bitsOf u n) (n : Int) wr r (by omega) (by omega) (by simp [bitsOf_length]; omega)).mono ?_
            rintro e w5 ⟨rfl, r5, hc5⟩
            rw [Int.toNat_natCast] at r5 ⊢
            rw [(take_put B u n).1]
            rw [(take_put B u n).2] at r5
            have ho5 := hc5.own ho (fun q hq hx => by simp [Value.ownBlock] at hq; omega)
            have hb := HB.out
            have hc5' := hc.trans hc5 (S := fun _ => False) (fun q hq hx => by omega)
            have d0 : w5.cell? ⟨gl, j * 2, none⟩ = some (.int .u32 (u : Int)) := by rw [World.cell?_of_block (w := wr) (a := ⟨gl, j * 2, none⟩) (hc5.block gl (block_lt_of_cell hc0) hap)]; exact hc0
            have d1 : w5.cell? ⟨gl, j * 2 + 1, none⟩ = some (.int .i64 (n : Int)) := by rw [World.cell?_of_block (w := wr) (a := ⟨gl, j * 2 + 1, none⟩) (hc5.block gl (block_lt_of_cell hc0) hap)]; exact hc1
            clear hc5 r ho hc hc0 hc1
            go_wp2
            go_quiet (fail)
            have hmask := mask_eq u n hwf (by omega)
            go_wp2
            go_roundw
            case rel => exact ⟨j, by omega, rfl, by rw [HBB.out]; exact r5, ho5, hc5'.drewN nq⟩
            case measure => simp [intOf]

end Go.Proofs.Ytdejfoemofhpdaa
