/- What the document's own Counts (puncheonref08) tells: the walk. -/
import Derived.Test.YtnijfkbnggdbnaaNmRefB
namespace Go.Proofs.Ytnijfkbnggdbnaa
open Go.RowKit

/-- the sum of a row of numbers in memory -/
def sumAt (w : World) (g : Nat) : Int := match w.heap[g]? with
  | some (.cells a _ _) => tot (a.toList.map intOf)
  | _ => 0
theorem RowI.sumAt {w : World} {g : Nat} {t : TypeId} {zs : List Int} (h : RowI w g t zs) : sumAt w g = tot zs := by
  unfold Go.Proofs.Ytnijfkbnggdbnaa.sumAt
  rw [show w.heap[g]? = _ from h]
  simp only [iw, List.map_map]
  congr 1
  rw [show (intOf ∘ fun z => Value.int IntKind.i64 z) = id from rfl, List.map_id]

def fQ (c : List Int) (S n : Int) (i : Nat) : Int := if c.getD i 0 * S / n = 0 then min (c.getD i 0) 1 else c.getD i 0 * S / n
def fR (c : List Int) (S n : Int) (i : Nat) : Int := c.getD i 0 * S % n
def fH (c : List Int) (S n : Int) (i : Nat) : Bool := decide (c.getD i 0 * S / n = 0)

theorem base_bound {c : List Int} {S : Int} (h : Fit c S) (hS : S ≤ 4096) (s : Nat) (hs : s < 256) : 0 ≤ (qBase c S (tot c)).getD s 0 ∧ (qBase c S (tot c)).getD s 0 ≤ 4096 := by
  have hl : s < c.length := by rw [h.len]; exact hs
  rw [base_at s hl]
  have hx := h.at s hs
  have hn := h.some
  have hle : c.getD s 0 ≤ tot c := by
    have h1 := tot_take_le c (s + 1) h.low
    rw [tot_take_succ c s hl] at h1
    have := tot_nonneg (c.take s) (fun y hy => h.low y (List.mem_of_mem_take hy))
    omega
  have d := div_parts (c.getD s 0) S (tot c) hn hx h.sz
  have h2 : c.getD s 0 * S / tot c ≤ S := by
    refine Int.ediv_le_of_le_mul hn ?_
    have := Int.mul_le_mul_of_nonneg_right hle (show 0 ≤ S by have := h.sz; omega)
    rw [Int.mul_comm S]; exact this
  split <;> omega

theorem mem_bound {l : List Int} {lo hi : Int} (hl : l.length = 256) (h : ∀ s, s < 256 → lo ≤ l.getD s 0 ∧ l.getD s 0 ≤ hi) : ∀ z ∈ l, lo ≤ z ∧ z ≤ hi := by
  intro z hz
  obtain ⟨i, hi', rfl⟩ := List.mem_iff_getElem.1 hz
  have := h i (by omega)
  rwa [List.getD_eq_getElem?_getD, List.getElem?_eq_getElem hi'] at this

theorem give_bound {c : List Int} {S : Int} (h : Fit c S) (hS : S ≤ 4096) {k : Nat} {p : List Int × List Bool} (g : Gave (rest0 c S (tot c)) (qBase c S (tot c)) (had0 c S (tot c)) k p) : ∀ z ∈ p.1, 0 ≤ z ∧ z ≤ 4294967296 := by
  refine mem_bound g.len1 fun s hs => ?_
  have h1 := g.val s hs
  have h2 := base_bound h hS s hs
  rw [h1]
  split <;> omega

theorem r8richest_l (g h o cap : Nat) (t : TypeId) (q c : List Int) (w : World) (hr : RowI w g t q) (hh : RdI w (.slice (some ⟨h, o, none⟩) c.length cap) c) (hl : q.length = 256) (hl2 : c.length = 256) :
    Calls Try.prog 29 #[.slice (some ⟨g, 0, none⟩) 256 256, .slice (some ⟨h, o, none⟩) c.length cap] w fun e w' => e = .returned (.int .i64 ((richTo q c 255 : Nat) : Int)) ∧ ∃ m, w' = w.drewN m := by
  rw [hl2] at hh ⊢
  exact r8richest_any g h o cap t q c w hr hh hl hl2

set_option maxHeartbeats 8000000 in
set_option maxRecDepth 100000 in
theorem r8counts_any (v : Value) (c : List Int) (r : Int) (w : World) (h : RdI w v c) (hb : ∀ z ∈ c, -9223372036854775808 ≤ z ∧ z ≤ 9223372036854775807) (hl : c.length < 100000000000) (hr : -9223372036854775808 ≤ r ∧ r ≤ 9223372036854775807) :
    Calls Try.prog 11 #[v, .int .i64 r] w fun e w' => NormSays w c r e w' := by
  have HT := Lib.hid (r5total_any v c w h hb hl); have HM := Lib.hid (r5many_any v c w h hb hl)
  obtain ⟨ao, cap, rfl⟩ := h.form
  have H := Lib.hid h; have HB := Lib.hid hb
  clear h hb
  by_cases h0 : totalI c = 0
  · have hno : ¬ normOk c r := fun hk => (total_pos.1 h0) ⟨hk.1, hk.2.1⟩
    have HNO := Lib.hid hno
    rw [h0] at HT
    clear hno h0
    go_enter Try.func11, Try.ntmps11
    go_wp2_with fail
    refine HT.out.mono ?_
    rintro e w' ⟨rfl, rfl⟩
    go_wp2
    go_ret2
    exact ⟨_, by rw [if_neg HNO.out]; rfl, fun hk => absurd hk HNO.out, fun _ => .inl ⟨rfl, _, _, rfl⟩, Chg.refl _ _⟩
  have hpos : isRight c ∧ 0 < tot c := by
    rcases Decidable.em (isRight c ∧ 0 < tot c) with hh | hh
    · exact hh
    · exact absurd (total_pos.2 hh) h0
  have htn : totalI c = tot c := by unfold totalI; rw [if_pos hpos.1]
  have hmn : manyI c = pos c := by unfold manyI; rw [if_pos hpos.1]
  rw [htn] at HT h0
  rw [hmn] at HM
  have hn1 : 0 < tot c := hpos.2
  have hn2 : tot c ≤ 1073741824 := hpos.1.2.2
  have hp256 : pos c ≤ 256 := by have := pos_le c; rw [hpos.1.1] at this; exact this
  obtain ⟨n, hn⟩ : ∃ n, tot c = n := ⟨_, rfl⟩
  rw [hn] at HT hn1 hn2 h0
  have hn0 : (n == 0) = false := by simp; omega
  by_cases hr1 : r < 1
  · have HNO := Lib.hid (show ¬ normOk c r from fun hk => by have := hk.2.2.1; omega)
    clear hpos htn hmn
    go_enter Try.func11, Try.ntmps11
    go_wp2_with fail
    refine HT.out.mono ?_
    rintro e w' ⟨rfl, rfl⟩
    go_wp2
    go_ret2
    exact ⟨_, by rw [if_neg HNO.out]; rfl, fun hk => absurd hk HNO.out, fun _ => .inl ⟨rfl, _, _, rfl⟩, Chg.refl _ _⟩
  by_cases hr2 : 12 < r
  · have HNO := Lib.hid (show ¬ normOk c r from fun hk => by have := hk.2.2.2.1; omega)
    clear hpos htn hmn
    go_enter Try.func11, Try.ntmps11
    go_wp2_with fail
    refine HT.out.mono ?_
    rintro e w' ⟨rfl, rfl⟩
    go_wp2
    go_ret2
    exact ⟨_, by rw [if_neg HNO.out]; rfl, fun hk => absurd hk HNO.out, fun _ => .inl ⟨rfl, _, _, rfl⟩, Chg.refl _ _⟩
  obtain ⟨k, rfl⟩ : ∃ k : Nat, r = (k : Int) := ⟨r.toNat, by omega⟩
  have hk12 : k ≤ 12 := by omega
  have HPW := Lib.hid (r8power_any k w (by omega))
  have hS := pow12 hk12
  have hS1 := Nat.two_pow_pos k
  obtain ⟨S, hSe⟩ : ∃ S, 2 ^ k = S := ⟨_, rfl⟩
  rw [hSe] at HPW hS hS1
  have hokI : normOk c (k : Int) ↔ (pos c : Int) ≤ (S : Int) := by
    unfold normOk
    rw [Int.toNat_natCast, hSe]
    exact ⟨fun hh => hh.2.2.2.2, fun hh => ⟨hpos.1, hpos.2, by omega, by omega, hh⟩⟩
  have hnr : normR c (k : Int) = normC c (S : Int) := by unfold normR; rw [Int.toNat_natCast, hSe]
  by_cases hmany : (S : Int) < (pos c : Int)
  · have HNO := Lib.hid (show ¬ normOk c (k : Int) from fun hk => by have := hokI.1 hk; omega)
    obtain ⟨p, hp⟩ : ∃ p, pos c = p := ⟨_, rfl⟩
    rw [hp] at hmany HM
    have hmany' : S < p := by omega
    clear hpos htn hmn hokI hnr hp hp256 hn hSe
    go_enter Try.func11, Try.ntmps11
    go_wp2_with fail
    refine HT.out.mono ?_
    rintro e w' ⟨rfl, rfl⟩
    go_wp2_with fail
    refine HPW.out.mono ?_
    rintro e w' ⟨rfl, rfl⟩
    go_wp2_with fail
    refine HM.out.mono ?_
    rintro e w' ⟨rfl, rfl⟩
    go_wp2
    go_ret2
    exact ⟨_, by rw [if_neg HNO.out]; rfl, fun hk => absurd hk HNO.out, fun _ => .inl ⟨rfl, _, _, rfl⟩, Chg.refl _ _⟩
  have HOK := Lib.hid (show normOk c (k : Int) from hokI.2 (by omega))
  have hfit : Fit c (S : Int) := by have := HOK.out.fit; rw [Int.toNat_natCast, hSe] at this; exact this
  have HFIT := Lib.hid hfit; have HNR := Lib.hid hnr; have HNN := Lib.hid hn
  obtain ⟨p, hp⟩ : ∃ p, pos c = p := ⟨_, rfl⟩
  rw [hp] at hmany HM
  have hmany' : ¬ S < p := by omega
  have HLEN := Lib.hid hpos.1.1
  have HRG := Lib.hid hpos.1
  have hSI : (S : Int) ≤ 4096 := by omega
  clear hpos htn hmn hokI hnr hp hp256 hn hSe hfit
  go_enter Try.func11, Try.ntmps11
  go_wp2_with fail
  refine HT.out.mono ?_
  rintro e w' ⟨rfl, rfl⟩
  go_wp2_with fail
  refine HPW.out.mono ?_
  rintro e w' ⟨rfl, rfl⟩
  go_wp2_with fail
  refine HM.out.mono ?_
  rintro e w' ⟨rfl, rfl⟩
  clear HT HPW HM
  obtain ⟨w2, hw2⟩ : ∃ w2, w2 = w' := ⟨_, rfl⟩
  subst hw2
  go_wp2_with (at_make; refine wpList_make_ints rfl _ _ rfl 256 256 256 rfl rfl rfl rfl (by omega) (fillI (fQ c S n) 0) (fillI_zero _) ?_)
  intro w3 q3 c3
  go_wp2_with (at_make; refine wpList_make_ints rfl _ _ rfl 256 256 256 rfl rfl rfl rfl (by omega) (fillI (fR c S n) 0) (fillI_zero _) ?_)
  intro w4 q4 c4
  go_wp2_with (at_make; refine wpList_make_bools rfl _ _ rfl 256 256 256 rfl rfl rfl rfl (by omega) (fillB (fH c S n) 0) (fillB_zero _) ?_)
  intro w5 q5 c5
  obtain ⟨gq, hgq⟩ : ∃ gq, gq = w2.heap.size := ⟨_, rfl⟩
  obtain ⟨gr, hgr⟩ : ∃ gr, gr = w3.heap.size := ⟨_, rfl⟩
  obtain ⟨gh, hgh⟩ : ∃ gh, gh = w4.heap.size := ⟨_, rfl⟩
  rw [← hgq] at q3 ⊢
  rw [← hgr] at q4 ⊢
  rw [← hgh] at q5 ⊢
  have l1 : gq < gr := by rw [hgr]; exact q3.lt
  have l2 : gr < gh := by rw [hgh]; exact q4.lt
  have Q5 := Lib.hid ((q3.kept c4 (by simp)).kept c5 (by simp)); have R5 := Lib.hid (q4.kept c5 (by simp)); have T5 := Lib.hid q5
  have C5 := Lib.hid ((c3.trans c4 (fun _ _ h => h)).trans c5 (fun _ _ h => h))
  have LQ := Lib.hid (show w2.heap.size ≤ gq by omega); have L1 := Lib.hid l1; have L2 := Lib.hid l2
  clear q3 q4 q5 c3 c4 c5 l1 l2 hgq hgr hgh
  go_wp2
  go_loopw [11] (fun o11 wr => ∃ s : Nat, s ≤ 256 ∧ o11 = .int .i64 (s : Int) ∧ RowI wr gq 3 (fillI (fQ c S n) s) ∧ RowI wr gr 3 (fillI (fR c S n) s) ∧ RowT wr gh 4 (fillB (fH c S n) s) ∧ Chg (fun _ => False) w2 wr) (fun o11 _ => 256 - (intOf o11).toNat)
  case atStart => exact ⟨0, Nat.zero_le _, rfl, Q5.out, R5.out, T5.out, C5.out⟩
  case round =>
    obtain ⟨s, hs, rfl, rq, rr, rt, hc⟩ := hrel
    clear Q5 R5 T5 C5
    by_cases hlt : s < 256
    · have hsl : s < c.length := by rw [HLEN.out]; exact hlt
      obtain ⟨g0, o0, rfl, hx0⟩ := H.out.at s hsl
      have hg0 : g0 < w2.heap.size := block_lt_of_cell hx0
      have hlq := LQ.out; have hl1 := L1.out; have hl2 := L2.out
      have hxw : wr.cell? ⟨g0, o0 + s, none⟩ = some (.int .i64 (c.getD s 0)) := by rw [World.cell?_of_block (w := w2) (hc.block g0 hg0 (by simp))]; exact hx0
      have hone := HRG.out.one s hsl
      have eQ : fQ c S n s = if c.getD s 0 * (S : Int) / n = 0 then min (c.getD s 0) 1 else c.getD s 0 * (S : Int) / n := rfl
      have eR : fR c S n s = c.getD s 0 * (S : Int) % n := rfl
      have eH : fH c S n s = decide (c.getD s 0 * (S : Int) / n = 0) := rfl
      have fsQ := fillI_set (fQ c S n) s hlt
      have fsR := fillI_set (fR c S n) s hlt
      have fsH := fillB_set (fH c S n) s hlt
      have fkH := fillB_skip (fH c S n) s hlt
      obtain ⟨x, hx⟩ : ∃ x, c.getD s 0 = x := ⟨_, rfl⟩
      rw [hx] at hxw hone eQ eR eH
      obtain ⟨hx1, hx2⟩ := hone
      have hP0 : 0 ≤ x * (S : Int) := Int.mul_nonneg hx1 (by omega)
      have hP1 : x * (S : Int) ≤ 1073741824 * 4096 := Int.mul_le_mul hx2 (by omega) (by omega) (by omega)
      obtain ⟨P, hP⟩ : ∃ P, x * (S : Int) = P := ⟨_, rfl⟩
      rw [hP] at hP0 hP1 eQ eR eH
      have hP2 : P ≤ 4398046511104 := by omega
      have dQ := Int.ediv_nonneg hP0 (show 0 ≤ n by omega)
      have dQ2 := Int.ediv_le_self n hP0
      have dR := Int.emod_nonneg P (show n ≠ 0 by omega)
      have dR2 := Int.emod_lt_of_pos P hn1
      have tq : P.tdiv n = P / n := Int.tdiv_eq_ediv_of_nonneg hP0
      have tr : P.tmod n = P % n := Int.tmod_eq_emod_of_nonneg hP0
      obtain ⟨Q, hQ⟩ : ∃ Q, P / n = Q := ⟨_, rfl⟩
      obtain ⟨R, hR⟩ : ∃ R, P % n = R := ⟨_, rfl⟩
      rw [hQ] at eQ eH dQ dQ2 tq
      rw [hR] at eR dR dR2 tr
      have hwP : IntKind.i64.wrap P = P := by rw [IntKind.wrap_i64]; omega
      have hwQ : IntKind.i64.wrap Q = Q := by rw [IntKind.wrap_i64]; omega
      have hwR : IntKind.i64.wrap R = R := by rw [IntKind.wrap_i64]; omega
      have s1 := Chg.setCell wr ⟨gq, s, none⟩ (.int .i64 Q)
      have rq1 := rq.set s Q
      have rr1 := rr.kept s1 (by simp; omega)
      have rt1 := rt.kept s1 (by simp; omega)
      obtain ⟨W1, hW1⟩ : ∃ W1, wr.setCell ⟨gq, s, none⟩ (.int .i64 Q) = W1 := ⟨_, rfl⟩
      rw [hW1] at s1 rq1 rr1 rt1
      have s2 := Chg.setCell W1 ⟨gr, s, none⟩ (.int .i64 R)
      have rr2 := rr1.set s R
      have rq2 := rq1.kept s2 (by simp; omega)
      have rt2 := rt1.kept s2 (by simp; omega)
      obtain ⟨W2, hW2⟩ : ∃ W2, W1.setCell ⟨gr, s, none⟩ (.int .i64 R) = W2 := ⟨_, rfl⟩
      rw [hW2] at s2 rr2 rq2 rt2
      have c2 : Chg (fun _ => False) w2 W2 := (hc.trans s1 (S := fun _ => False) (fun q hq hh => by simp at hh; omega)).trans s2 (fun q hq hh => by simp at hh; omega)
      have a0 := rq.cell s (by rw [fillI_length]; exact hlt)
      have f0 := rq.free s
      have a1 := rr1.cell s (by rw [fillI_length]; exact hlt)
      have f1 := rr1.free s
      have kx1 : W1.cell? ⟨g0, o0 + s, none⟩ = some (.int .i64 x) := by rw [World.cell?_of_block (w := wr) (s1.block g0 (by have := hc.size; omega) (by simp; omega))]; exact hxw
      have aq2 := rq2.cell s (by rw [List.length_set, fillI_length]; exact hlt)
      rw [iset_getD _ _ _ _ (by rw [fillI_length]; exact hlt), if_pos rfl] at aq2
      have hsI : (s : Int) < 256 := by omega
      have hslI : (s : Int) < (c.length : Int) := by omega
      have d8 : decide ((s : Int) < 256) = true := by simp; omega
      generalize (fillI (fQ c S n) s).getD s 0 = ov at a0
      generalize (fillI (fR c S n) s).getD s 0 = ov2 at a1
      rw [eR] at fsR
      have FSR := Lib.hid fsR
      rw [← eR] at fsR
      by_cases hQ0 : Q = 0
      · subst hQ0
        rw [if_pos rfl] at eQ
        rw [eH, decide_eq_true rfl] at fsH
        rw [eQ] at fsQ
        have s3 := Chg.setCell W2 ⟨gh, s, none⟩ (.bool true)
        have rt3 := rt2.set s true
        have rq3 := rq2.kept s3 (by simp; omega)
        have rr3 := rr2.kept s3 (by simp; omega)
        have at2 := rt2.cell s (by rw [fillB_length]; exact hlt)
        have ft2 := rt2.free s
        obtain ⟨W3, hW3⟩ : ∃ W3, W2.setCell ⟨gh, s, none⟩ (.bool true) = W3 := ⟨_, rfl⟩
        rw [hW3] at s3 rt3 rq3 rr3
        have c3 : Chg (fun _ => False) w2 W3 := c2.trans s3 (fun q hq hh => by simp at hh; omega)
        have kx3 : W3.cell? ⟨g0, o0 + s, none⟩ = some (.int .i64 x) := by rw [World.cell?_of_block (w := w2) (c3.block g0 hg0 (by simp))]; rw [hx0, hx]
        have aq3 := rq3.cell s (by rw [List.length_set, fillI_length]; exact hlt)
        have fq3 := rq3.free s
        have rq4 : ∀ M, RowI (W3.setCell ⟨gq, s, none⟩ (.int .i64 M)) gq 3 ((fillI (fQ c S n) s).set s M) := fun M => by have := rq3.set s M; rw [setset] at this; exact this
        have s4 : ∀ M, Chg (fun k => k = gq) W3 (W3.setCell ⟨gq, s, none⟩ (.int .i64 M)) := fun M => Chg.setCell W3 ⟨gq, s, none⟩ _
        rw [fsH] at rt3
        rw [FSR.out] at rr3
        generalize (fillB (fH c S n) s).getD s false = ob at at2
        generalize ((fillI (fQ c S n) s).set s 0).getD s 0 = ov3 at aq3
        have RQ4 := Lib.hid rq4; have S4 := Lib.hid s4; have RR3 := Lib.hid rr3; have RT3 := Lib.hid rt3; have C3 := Lib.hid c3; have FSQ := Lib.hid fsQ; have TQ := Lib.hid tq; have TR := Lib.hid tr
        clear rq4 s4 rr3 rt3 c3 fsQ fsR fsH fkH rq rr rt hc rq1 rr1 rt1 rr2 rq2 rt2 rq3 s1 s2 s3 c2 eQ eR eH hx hx0 hQ hR FSR
        rcases (show x = 0 ∨ x = 1 ∨ 2 ≤ x by omega) with hx' | hx' | hx'
        · subst hx'
          go_wp2
          all_goals first
            | (exfalso; omega)
            | (go_roundw
               case rel => exact ⟨s + 1, by omega, by go_num, by rw [← FSQ.out]; exact RQ4.out 0, RR3.out.kept (S4.out 0) (by have := L1.out; omega), RT3.out.kept (S4.out 0) (by have := L1.out; have := L2.out; omega), C3.out.trans (S4.out 0) (fun q hq hh => by have := LQ.out; omega)⟩
               case measure => simp [intOf]; omega)
        · subst hx'
          go_wp2
          all_goals first
            | (exfalso; omega)
            | (go_roundw
               case rel => exact ⟨s + 1, by omega, by go_num, by rw [← FSQ.out]; exact RQ4.out 1, RR3.out.kept (S4.out 1) (by have := L1.out; omega), RT3.out.kept (S4.out 1) (by have := L1.out; have := L2.out; omega), C3.out.trans (S4.out 1) (fun q hq hh => by have := LQ.out; omega)⟩
               case measure => simp [intOf]; omega)
        · have hmin : min x 1 = 1 := by omega
          rw [hmin] at FSQ
          go_wp2
          all_goals first
            | (exfalso; omega)
            | (go_roundw
               case rel => exact ⟨s + 1, by omega, by go_num, by rw [← FSQ.out]; exact RQ4.out 1, RR3.out.kept (S4.out 1) (by have := L1.out; omega), RT3.out.kept (S4.out 1) (by have := L1.out; have := L2.out; omega), C3.out.trans (S4.out 1) (fun q hq hh => by have := LQ.out; omega)⟩
               case measure => simp [intOf]; omega)
      · rw [if_neg hQ0] at eQ
        have fkH' := fkH (by rw [eH]; exact decide_eq_false hQ0)
        rw [eQ] at fsQ
        have hQb : (Q == 0) = false := by simp [hQ0]
        rw [fsQ] at rq2
        rw [FSR.out] at rr2
        rw [fkH'] at rt2
        have RQ2 := Lib.hid rq2; have RR2 := Lib.hid rr2; have RT2 := Lib.hid rt2; have C2 := Lib.hid c2
        clear rq2 rr2 rt2 c2 fsQ fsR fsH fkH fkH' rq rr rt hc rq1 rr1 rt1 s1 s2 eQ eR eH hx hx0 hQ hR FSR
        go_wp2
        go_roundw
        case rel => exact ⟨s + 1, by omega, by go_num, RQ2.out, RR2.out, RT2.out, C2.out⟩
        case measure => simp [intOf]; omega
    · have hse : s = 256 := by omega
      have hsI : (s : Int) = 256 := by omega
      rw [hse] at rq rr rt
      rw [hsI]
      clear hse hsI hs hlt
      have hlenc := HLEN.out
      rw [fillI_all (fQ c S n) (qBase c S n) (by simp [qBase, hlenc]) (fun u hu => base_at u (by omega))] at rq
      rw [fillI_all (fR c S n) (rest0 c S n) (by simp [rest0, hlenc]) (fun u hu => rest_at u (by omega))] at rr
      rw [fillB_all (fH c S n) (had0 c S n) (by simp [had0, hlenc]) (fun u hu => had_at u (by omega))] at rt
      have hfit := HFIT.out
      have hroom := give_room (size := (S : Int)) hfit.low rfl hfit.some
      have hgave : ∀ j, j ≤ cntN (rest0 c S (tot c)) (had0 c S (tot c)) → Gave (rest0 c S (tot c)) (qBase c S (tot c)) (had0 c S (tot c)) j (giveN (rest0 c S (tot c)) j (qBase c S (tot c)) (had0 c S (tot c))) := fun j hj =>
        Go.Proofs.Ytnijfkbnggdbnaa.gave (by simp [rest0, hlenc]) (by simp [qBase, hlenc]) (by simp [had0, hlenc]) j hj
      have hgs := hfit.gaveSum
      have hgc : gaveC c S (tot c) = (giveN (rest0 c S (tot c)) ((S : Int) - tot (qBase c S (tot c))).toNat (qBase c S (tot c)) (had0 c S (tot c))).1 := rfl
      have hbnd : ∀ j, j ≤ cntN (rest0 c S (tot c)) (had0 c S (tot c)) → ∀ z ∈ (giveN (rest0 c S (tot c)) j (qBase c S (tot c)) (had0 c S (tot c))).1, 0 ≤ z ∧ z ≤ 4294967296 := fun j hj => give_bound hfit hSI (hgave j hj)
      rw [← HNN.out] at rq rr rt
      have hrl : (rest0 c S (tot c)).length = 256 := by simp [rest0, hlenc]
      obtain ⟨rs, hrs⟩ : ∃ rs, rest0 c S (tot c) = rs := ⟨_, rfl⟩
      obtain ⟨qb, hqb⟩ : ∃ qb, qBase c S (tot c) = qb := ⟨_, rfl⟩
      obtain ⟨hd, hhd⟩ : ∃ hd, had0 c S (tot c) = hd := ⟨_, rfl⟩
      rw [hrs] at rr hroom hgave hgc hbnd hrl
      rw [hqb] at rq hroom hgave hgc hbnd hgs
      rw [hhd] at rt hroom hgave hgc hbnd
      obtain ⟨D, hD⟩ : ∃ D, ((S : Int) - tot qb).toNat = D := ⟨_, rfl⟩
      rw [hD] at hroom hgc
      obtain ⟨tB, htB⟩ : ∃ tB, tot qb = tB := ⟨_, rfl⟩
      rw [htB] at hD hgs
      have HROOM := Lib.hid hroom; have HGAVE := Lib.hid hgave; have HGS := Lib.hid hgs; have HGC := Lib.hid hgc; have HBND := Lib.hid hbnd; have HRL := Lib.hid hrl; have HD := Lib.hid hD; have HTB := Lib.hid htB
      have RQ := Lib.hid rq; have RR := Lib.hid rr; have RT := Lib.hid rt; have CC := Lib.hid hc
      clear hroom hgave hgs hgc hbnd hrl hD htB rq rr rt hc hrs hqb hhd hlenc hfit
      go_wp2
      go_loopw [12] (fun _ wr => ∃ j : Nat, j ≤ D ∧ RowI wr gq 3 (giveN rs j qb hd).1 ∧ RowI wr gr 3 rs ∧ RowT wr gh 4 (giveN rs j qb hd).2 ∧ Chg (fun _ => False) w2 wr) (fun _ wr => ((S : Int) - sumAt wr gq).toNat)
      case atStart => exact ⟨0, Nat.zero_le _, RQ.out, RR.out, RT.out, CC.out⟩
      case round =>
        obtain ⟨j, hj, rq, rr, rt, hc⟩ := hrel
        clear RQ RR RT CC
        have g := HGAVE.out j (by have := HROOM.out; omega)
        have hsum := g.sum
        rw [HTB.out] at hsum
        have rd := rq.rd 256
        rw [g.len1] at rd
        have hs1 := rq.sumAt
        rw [hsum] at hs1
        have hDe := HD.out
        by_cases hjD : j < D
        · obtain ⟨s, hn, hs256, hps, g2⟩ := gave_step HRL.out g (by have := HROOM.out; omega)
          have hgn : giveN rs (j + 1) qb hd = ((giveN rs j qb hd).1.set s ((giveN rs j qb hd).1.getD s 0 + 1), (giveN rs j qb hd).2.set s true) := by rw [giveN_succ, giveStep_some hn]
          have hzb := HBND.out j (by have := HROOM.out; omega) _ (getD_mem (cs := (giveN rs j qb hd).1) (k := s) (by rw [g.len1]; exact hs256))
          have aq := rq.cell s (by rw [g.len1]; exact hs256)
          have fq := rq.free s
          have at1 := rt.cell s (by rw [g.len2]; exact hs256)
          have ft1 := rt.free s
          have BND := Lib.hid (HBND.out j (by have := HROOM.out; omega))
          have HNE := Lib.hid (r8neediest_any gr gh _ _ rs (giveN rs j qb hd).2 wr rr rt HRL.out g.len2)
          have l1 := g.len1
          have hl1 := L1.out; have hl2 := L2.out; have hlq := LQ.out
          obtain ⟨z, hz⟩ : ∃ z, (giveN rs j qb hd).1.getD s 0 = z := ⟨_, rfl⟩
          rw [hz] at hgn hzb aq
          have st1 := Chg.setCell wr ⟨gh, s, none⟩ (.bool true)
          have rt1 := rt.set s true
          have rq1 := rq.kept st1 (by simp; omega)
          have rr1 := rr.kept st1 (by simp; omega)
          have c1 : Chg (fun _ => False) w2 _ := hc.trans st1 (S := fun _ => False) (fun q hq hh => by simp at hh; omega)
          have st2 := Chg.setCell (wr.setCell ⟨gh, s, none⟩ (.bool true)) ⟨gq, s, none⟩ (.int .i64 (z + 1))
          have rq2 := rq1.set s (z + 1)
          have rr2 := rr1.kept st2 (by simp; omega)
          have rt2 := rt1.kept st2 (by simp; omega)
          have c2 : Chg (fun _ => False) w2 _ := c1.trans st2 (S := fun _ => False) (fun q hq hh => by simp at hh; omega)
          have aq1 := rq1.cell s (by rw [l1]; exact hs256)
          have fq1 := rq1.free s
          rw [hz] at aq1
          have eq1 : (giveN rs (j + 1) qb hd).1 = (giveN rs j qb hd).1.set s (z + 1) := by rw [hgn]
          have eq2 : (giveN rs (j + 1) qb hd).2 = (giveN rs j qb hd).2.set s true := by rw [hgn]
          rw [← eq1] at rq2
          rw [← eq2] at rt2
          have g3 := HGAVE.out (j + 1) (by have := HROOM.out; omega)
          have hsum3 := g3.sum
          rw [HTB.out] at hsum3
          have hs3 := rq2.sumAt
          rw [hsum3] at hs3
          rw [hn] at HNE
          have hlt : tB + (j : Int) < (S : Int) := by omega
          have RD := Lib.hid rd; have HS := Lib.hid hsum; have RQ2 := Lib.hid rq2; have RR2 := Lib.hid rr2; have RT2 := Lib.hid rt2; have C2 := Lib.hid c2; have HS1 := Lib.hid hs1; have HS3 := Lib.hid hs3
          have hsI : (s : Int) < 256 := by omega
          obtain ⟨hz0, hz1⟩ := hzb
          generalize (giveN rs j qb hd).2.getD s false = ob at at1
          have L1000 := Lib.hid (show (giveN rs j qb hd).1.length ≤ 1000 by rw [l1]; omega)
          clear rd hsum rq2 rr2 rt2 c2 hs1 hs3 rq rr rt hc g g2 g3 hgn eq1 eq2 rq1 rr1 rt1 st1 st2 c1 hsum3 hn hz l1 hps
          go_wp2_with fail
          refine (r8sum_any _ _ wr RD.out BND.out L1000.out).mono ?_
          rintro e w6 ⟨rfl, rfl⟩
          rw [HS.out]
          go_wp2_with fail
          refine HNE.out.mono ?_
          rintro e w7 ⟨rfl, m, rfl⟩
          simp only [idx]
          clear HNE
          go_wp2
          go_roundw
          case rel => exact ⟨j + 1, by omega, RowI.kept (w := (w6.setCell ⟨gh, s, none⟩ (.bool true)).setCell ⟨gq, s, none⟩ (.int .i64 (z + 1))) RQ2.out ((Chg.refl (fun _ => False) _).drewN m) (by simp), RowI.kept (w := (w6.setCell ⟨gh, s, none⟩ (.bool true)).setCell ⟨gq, s, none⟩ (.int .i64 (z + 1))) RR2.out ((Chg.refl (fun _ => False) _).drewN m) (by simp), RowT.kept (w := (w6.setCell ⟨gh, s, none⟩ (.bool true)).setCell ⟨gq, s, none⟩ (.int .i64 (z + 1))) RT2.out ((Chg.refl (fun _ => False) _).drewN m) (by simp), C2.out.drewN m⟩
          case measure =>
            show ((S : Int) - sumAt ((w6.setCell ⟨gh, s, none⟩ (.bool true)).setCell ⟨gq, s, none⟩ (.int .i64 (z + 1))) gq).toNat < ((S : Int) - sumAt w6 gq).toNat
            rw [HS1.out, HS3.out]; omega
        · obtain rfl : j = D := by omega
          have hge : ¬ tB + (j : Int) < (S : Int) := by omega
          have BND := Lib.hid (HBND.out j (by have := HROOM.out; omega))
          have L1000 := Lib.hid (show (giveN rs j qb hd).1.length ≤ 1000 by rw [g.len1]; omega)
          have RD := Lib.hid rd; have HS := Lib.hid hsum
          have eg : (giveN rs j qb hd).1 = gaveC c S (tot c) := HGC.out.symm
          have RQ := Lib.hid rq; have CC := Lib.hid hc; have HGE := Lib.hid hge; have EG := Lib.hid eg
          clear rd hsum rq rr rt hc g hs1 eg
          go_wp2_with fail
          refine (r8sum_any _ _ wr RD.out BND.out L1000.out).mono ?_
          rintro e w6 ⟨rfl, rfl⟩
          rw [HS.out]
          have hfit := HFIT.out
          have hgs := HGS.out
          have hmn := hfit.many
          obtain ⟨G, hG⟩ : ∃ G, gaveC c S (tot c) = G := ⟨_, rfl⟩
          have htook : ∀ i : Nat, (i : Int) ≤ tot G - (S : Int) → Took c G i (takeN c i G) := fun i hi => by
            have t0 := hfit.took0
            rw [hG] at t0
            exact Go.Proofs.Ytnijfkbnggdbnaa.took hfit.len t0 i (by omega)
          have hnc : normC c (S : Int) = takeN c (tot G - (S : Int)).toNat G := by unfold normC; rw [hG]
          have hGb : ∀ s, s < 256 → G.getD s 0 ≤ 4294967296 := fun s hs => by
            have h1 := EG.out
            rw [hG] at h1
            have h2 := BND.out _ (getD_mem (cs := (giveN rs j qb hd).1) (k := s) (by have := (HGAVE.out j HROOM.out).len1; omega))
            rw [h1] at h2
            exact h2.2
          have rq := RQ.out
          rw [EG.out, hG] at rq
          rw [hG] at hgs
          obtain ⟨tG, htG⟩ : ∃ tG, tot G = tG := ⟨_, rfl⟩
          rw [htG] at hgs htook hnc
          obtain ⟨T, hT⟩ : ∃ T, (tG - (S : Int)).toNat = T := ⟨_, rfl⟩
          rw [hT] at hnc
          have HTOOK := Lib.hid htook; have HNC := Lib.hid hnc; have HGB := Lib.hid hGb; have HTG := Lib.hid htG; have HTT := Lib.hid (show (T : Int) = tG - (S : Int) by omega); have RQ2 := Lib.hid rq
          clear htook hnc hGb rq hG htG hT hgs hmn hfit HGC RQ RD BND L1000 HS HGAVE HBND HGS EG HROOM HD hDe hjD hj
          obtain ⟨g0, o0, rfl, hx0⟩ := H.out.at 0 (by rw [HLEN.out]; omega)
          clear hx0
          go_wp2
          go_loopw [92] (fun _ wr => ∃ i : Nat, i ≤ T ∧ RowI wr gq 3 (takeN c i G) ∧ Chg (fun _ => False) w2 wr) (fun _ wr => (sumAt wr gq - (S : Int)).toNat)
          case atStart => exact ⟨0, Nat.zero_le _, RQ2.out, CC.out⟩
          case round =>
            obtain ⟨i, hi, rq, hc⟩ := hrel
            clear RQ2 CC
            have htt := HTT.out
            have t := HTOOK.out i (by omega)
            have hsum := t.sum
            rw [HTG.out] at hsum
            have rd := rq.rd 256
            rw [t.len] at rd
            have hs1 := rq.sumAt
            rw [hsum] at hs1
            have BND := Lib.hid (mem_bound (lo := 0) (hi := 4294967296) t.len (fun s hs => ⟨(t.low s hs).1, Int.le_trans (t.top s hs) (HGB.out s hs)⟩))
            have L1000 := Lib.hid (show (takeN c i G).length ≤ 1000 by rw [t.len]; omega)
            have RD := Lib.hid rd; have HS := Lib.hid hsum
            by_cases hiT : i < T
            · have hmany2 := HFIT.out.many
              obtain ⟨hb256, hz1, t2⟩ := took_step HLEN.out t (by rw [hsum]; omega)
              have HRI := Lib.hid (r8richest_l gq g0 o0 cap 3 (takeN c i G) c wr rq (H.out.kept hc (by simp)) t.len HLEN.out)
              have hst : takeN c (i + 1) G = (takeN c i G).set (richTo (takeN c i G) c 255) ((takeN c i G).getD (richTo (takeN c i G) c 255) 0 - 1) := by rw [takeN_succ]; rfl
              have hzt := t.top (richTo (takeN c i G) c 255) hb256
              have hzg := HGB.out (richTo (takeN c i G) c 255) hb256
              obtain ⟨b, hb⟩ : ∃ b, richTo (takeN c i G) c 255 = b := ⟨_, rfl⟩
              rw [hb] at hb256 hz1 hst HRI hzt hzg
              have aq := rq.cell b (by rw [t.len]; exact hb256)
              have fq := rq.free b
              obtain ⟨z, hz⟩ : ∃ z, (takeN c i G).getD b 0 = z := ⟨_, rfl⟩
              rw [hz] at hz1 hst aq hzt
              have rq1 := rq.set b (z - 1)
              rw [← hst] at rq1
              have c1 : Chg (fun _ => False) w2 (wr.setCell ⟨gq, b, none⟩ (.int .i64 (z - 1))) := hc.trans (Chg.setCell wr ⟨gq, b, none⟩ _) (fun q hq hh => by have := LQ.out; simp at hh; omega)
              have t3 := HTOOK.out (i + 1) (by omega)
              have hsum3 := t3.sum
              rw [HTG.out] at hsum3
              have hs3 := rq1.sumAt
              rw [hsum3] at hs3
              have hgt : (S : Int) < tG - (i : Int) := by omega
              have hbI : (b : Int) < 256 := by omega
              have hz2 : z ≤ 4294967296 := by omega
              have RQ1 := Lib.hid rq1; have C1 := Lib.hid c1; have HS1 := Lib.hid hs1; have HS3 := Lib.hid hs3; have HTT2 := Lib.hid htt
              clear rq1 c1 hs1 hs3 t3 hsum3 t t2 hst hz hb rq hc rd hsum hzt hzg hmany2
              go_wp2_with fail
              refine (r8sum_any _ _ wr RD.out BND.out L1000.out).mono ?_
              rintro e w7 ⟨rfl, rfl⟩
              rw [HS.out]
              clear htt
              go_wp2_with fail
              refine HRI.out.mono ?_
              rintro e w8 ⟨rfl, m, rfl⟩
              clear HRI
              go_wp2
              go_roundw
              case rel => exact ⟨i + 1, by omega, RowI.kept (w := w7.setCell ⟨gq, b, none⟩ (.int .i64 (z - 1))) RQ1.out ((Chg.refl (fun _ => False) _).drewN m) (by simp), C1.out.drewN m⟩
              case measure =>
                show (sumAt (w7.setCell ⟨gq, b, none⟩ (.int .i64 (z - 1))) gq - (S : Int)).toNat < (sumAt w7 gq - (S : Int)).toNat
                have := HTT2.out
                rw [HS1.out, HS3.out]; omega
            · obtain rfl : i = T := by omega
              have hle : ¬ (S : Int) < tG - (i : Int) := by omega
              rw [← HNC.out] at rq
              have hnl := norm_len HFIT.out
              have own := rq.own 256 w2.heap.size LQ.out
              rw [hnl, ← HNR.out] at own
              have OWN := Lib.hid own; have CC := Lib.hid hc
              clear rq own hnl hc t hs1 htt rd hsum
              go_wp2_with fail
              refine (r8sum_any _ _ wr RD.out BND.out L1000.out).mono ?_
              rintro e w7 ⟨rfl, rfl⟩
              rw [HS.out]
              go_wp2
              go_ret2
              exact ⟨_, by rw [if_pos HOK.out]; rfl, fun _ => OWN.out, fun hk => absurd HOK.out hk, CC.out⟩

end Go.Proofs.Ytnijfkbnggdbnaa
