/- Plain: shares of counts, and what a heap of them gives out. -/
import Derived.Test.YtnijfkbnggdbnaaNqBase
import Derived.Test.YtnijfkbnggdbnaaNmMathB
namespace Go.Proofs.Ytnijfkbnggdbnaa
open Go

/-- the share of the value i, whose count is x -/
def mkSh (size n : Int) (i : Nat) (x : Int) : Sh := if x * size / n = 0 then ⟨(i : Int), x, 1, x * size % n, true⟩ else ⟨(i : Int), x, x * size / n, x * size % n, false⟩
/-- the shares of the values below k -/
def shTo (c : List Int) (size n : Int) : Nat → List Sh
  | 0 => []
  | k + 1 => if c.getD k 0 = 0 then shTo c size n k else shTo c size n k ++ [mkSh size n k (c.getD k 0)]
theorem shTo_skip {c : List Int} {size n : Int} {k : Nat} (h : c.getD k 0 = 0) : shTo c size n (k + 1) = shTo c size n k := by simp only [shTo, if_pos h]
theorem shTo_more {c : List Int} {size n : Int} {k : Nat} (h : ¬ c.getD k 0 = 0) : shTo c size n (k + 1) = shTo c size n k ++ [mkSh size n k (c.getD k 0)] := by simp only [shTo, if_neg h]
theorem mkSh_sym (size n : Int) (i : Nat) (x : Int) : (mkSh size n i x).sym = (i : Int) := by unfold mkSh; split <;> rfl
theorem mkSh_cnt (size n : Int) (i : Nat) (x : Int) : (mkSh size n i x).cnt = x := by unfold mkSh; split <;> rfl
theorem mkSh_lft (size n : Int) (i : Nat) (x : Int) : (mkSh size n i x).lft = x * size % n := by unfold mkSh; split <;> rfl
theorem mkSh_rai (size n : Int) (i : Nat) (x : Int) : (mkSh size n i x).rai = decide (x * size / n = 0) := by
  unfold mkSh; split
  · next h => simp [h]
  · next h => simp [h]
theorem mkSh_plc (size n : Int) (i : Nat) (x : Int) : (mkSh size n i x).plc = if x * size / n = 0 then 1 else x * size / n := by unfold mkSh; split <;> rfl

theorem shTo_length (c : List Int) (size n : Int) (k : Nat) : (shTo c size n k).length ≤ k := by
  induction k with
  | zero => simp [shTo]
  | succ k ih =>
    by_cases h : c.getD k 0 = 0
    · rw [shTo_skip h]; omega
    · rw [shTo_more h]; simp; omega
theorem mem_shTo (c : List Int) (size n : Int) (k : Nat) (y : Sh) : y ∈ shTo c size n k ↔ ∃ i, i < k ∧ c.getD i 0 ≠ 0 ∧ y = mkSh size n i (c.getD i 0) := by
  induction k with
  | zero => simp [shTo]
  | succ k ih =>
    by_cases h : c.getD k 0 = 0
    · rw [shTo_skip h, ih]
      constructor
      · rintro ⟨i, h1, h2, h3⟩; exact ⟨i, by omega, h2, h3⟩
      · rintro ⟨i, h1, h2, h3⟩
        by_cases hik : i = k
        · subst hik; exact absurd h h2
        · exact ⟨i, by omega, h2, h3⟩
    · rw [shTo_more h, List.mem_append, ih, List.mem_singleton]
      constructor
      · rintro (⟨i, h1, h2, h3⟩ | rfl)
        · exact ⟨i, by omega, h2, h3⟩
        · exact ⟨k, by omega, h, rfl⟩
      · rintro ⟨i, h1, h2, h3⟩
        by_cases hik : i = k
        · subst hik; exact .inr h3
        · exact .inl ⟨i, by omega, h2, h3⟩
theorem shTo_nodup (c : List Int) (size n : Int) (k : Nat) : (shTo c size n k).Nodup := by
  induction k with
  | zero => simp [shTo]
  | succ k ih =>
    by_cases h : c.getD k 0 = 0
    · rw [shTo_skip h]; exact ih
    · rw [shTo_more h, List.nodup_append]
      refine ⟨ih, by simp, ?_⟩
      intro a ha b hb he
      rw [List.mem_singleton] at hb
      obtain ⟨i, h1, h2, h3⟩ := (mem_shTo c size n k a).1 ha
      have := congrArg Sh.sym (h3.symm.trans (he.trans hb))
      rw [mkSh_sym, mkSh_sym] at this
      omega

/-- the places of shares, laid into counts -/
def layL (q : List Int) : List Sh → List Int
  | [] => q
  | s :: r => layL (q.set s.sym.toNat s.plc) r
theorem layL_append (q : List Int) (a b : List Sh) : layL q (a ++ b) = layL (layL q a) b := by
  induction a generalizing q with
  | nil => rfl
  | cons x r ih => exact ih _
theorem lay_to (c : List Int) (size n : Int) (hl : c.length = 256) (h0 : ∀ x ∈ c, 0 ≤ x) (Z : List Int) (hZ : Z.length = 256) (hz : ∀ j, Z.getD j 0 = 0) (k : Nat) (hk : k ≤ 256) :
    (layL Z (shTo c size n k)).length = 256 ∧ ∀ j, j < 256 → (layL Z (shTo c size n k)).getD j 0 = if j < k then (qBase c size n).getD j 0 else 0 := by
  induction k with
  | zero => exact ⟨hZ, fun j _ => by rw [if_neg (by omega)]; exact hz j⟩
  | succ k ih =>
    obtain ⟨i1, i2⟩ := ih (by omega)
    have hbase := base_at (c := c) (size := size) (n := n) k (by omega)
    have hx := h0 _ (getD_mem (cs := c) (k := k) (by omega))
    by_cases h : c.getD k 0 = 0
    · rw [shTo_skip h]
      refine ⟨i1, fun j hj => ?_⟩
      rw [i2 j hj]
      by_cases hjk : j = k
      · subst hjk
        rw [if_neg (by omega), if_pos (by omega), hbase, h]
        simp
        try rfl
      · by_cases h1 : j < k
        · rw [if_pos h1, if_pos (by omega)]
        · rw [if_neg h1, if_neg (by omega)]
    · rw [shTo_more h, layL_append]
      simp only [layL, mkSh_sym, mkSh_plc, Int.toNat_natCast]
      refine ⟨by rw [List.length_set]; exact i1, fun j hj => ?_⟩
      rw [iset_getD _ _ _ _ (by omega)]
      by_cases hjk : k = j
      · subst hjk
        rw [if_pos rfl, if_pos (show k < k + 1 by omega), hbase]
        by_cases hz0 : c.getD k 0 * size / n = 0
        · rw [if_pos hz0, if_pos hz0]; omega
        · rw [if_neg hz0, if_neg hz0]
      · rw [if_neg hjk, i2 j hj]
        by_cases h1 : j < k
        · rw [if_pos h1, if_pos (by omega)]
        · rw [if_neg h1, if_neg (by omega)]
theorem lay_all (c : List Int) (size n : Int) (hl : c.length = 256) (h0 : ∀ x ∈ c, 0 ≤ x) (Z : List Int) (hZ : Z.length = 256) (hz : ∀ j, Z.getD j 0 = 0) : layL Z (shTo c size n 256) = qBase c size n := by
  obtain ⟨h1, h2⟩ := lay_to c size n hl h0 Z hZ hz 256 (Nat.le_refl _)
  apply ext_getD (by rw [h1]; simp [qBase, hl])
  intro j hj
  rw [h1] at hj
  rw [h2 j hj, if_pos hj]

/-- who wait: those that have had none -/
structure Waits (c : List Int) (size n : Int) (had : List Bool) (l : List Sh) : Prop where
  nd : l.Nodup
  mem : ∀ y, y ∈ l ↔ ∃ i, i < 256 ∧ c.getD i 0 ≠ 0 ∧ had.getD i false = false ∧ y = mkSh size n i (c.getD i 0)
theorem Waits.perm {c : List Int} {size n : Int} {had : List Bool} {l l' : List Sh} (h : Waits c size n had l) (hp : l'.Perm l) : Waits c size n had l' :=
  ⟨hp.nodup_iff.2 h.nd, fun y => by rw [hp.mem_iff]; exact h.mem y⟩
/-- what comes off is who is neediest -/
theorem Waits.next {c : List Int} {size n : Int} {had : List Bool} {l l' : List Sh} {x : Sh} (hlc : c.length = 256) (hlh : had.length = 256) (h : Waits c size n had l) (hp : l.Perm (x :: l')) (hle : ∀ y ∈ l', noLess moreB x y)
    {s : Nat} (hs : s < 256) (hc : c.getD s 0 ≠ 0) (hd : had.getD s false = false) (hn : needyTo (rest0 c size n) had 256 = some s) : x.sym = (s : Int) ∧ Waits c size n (had.set s true) l' := by
  obtain ⟨_, _, hspec⟩ := needy_some _ _ _ _ hn
  have hxm : x ∈ l := hp.symm.subset (List.mem_cons_self ..)
  obtain ⟨i, hi1, hi2, hi3, hi4⟩ := (h.mem x).1 hxm
  have hsm : mkSh size n s (c.getD s 0) ∈ x :: l' := hp.subset ((h.mem _).2 ⟨s, hs, hc, hd, rfl⟩)
  have hnl : moreB (mkSh size n s (c.getD s 0)) x = false := by
    rcases List.mem_cons.1 hsm with he | he
    · rw [he]; unfold moreB; simp
    · exact hle _ he
  have hsp := hspec i hi1 hi3
  rw [rest_at i (by omega), rest_at s (by omega)] at hsp
  have his : i = s := by
    unfold moreB at hnl
    rw [hi4, mkSh_lft, mkSh_lft, mkSh_sym, mkSh_sym] at hnl
    split at hnl
    · rw [decide_eq_false_iff_not] at hnl; omega
    · rw [decide_eq_false_iff_not] at hnl; omega
  subst his
  refine ⟨by rw [hi4, mkSh_sym], ?_, ?_⟩
  · exact (List.nodup_cons.1 (hp.nodup_iff.1 h.nd)).2
  · intro y
    have hnx : x ∉ l' := (List.nodup_cons.1 (hp.nodup_iff.1 h.nd)).1
    constructor
    · intro hy
      obtain ⟨j, hj1, hj2, hj3, hj4⟩ := (h.mem y).1 (hp.symm.subset (List.mem_cons_of_mem _ hy))
      refine ⟨j, hj1, hj2, ?_, hj4⟩
      rw [bset_getD _ _ _ _ (by omega), if_neg]
      · exact hj3
      · intro he
        subst he
        exact hnx (by rw [hi4, ← hj4]; exact hy)
    · rintro ⟨j, hj1, hj2, hj3, hj4⟩
      rw [bset_getD _ _ _ _ (by omega)] at hj3
      by_cases he : i = j
      · subst he; rw [if_pos rfl] at hj3; cases hj3
      · rw [if_neg he] at hj3
        have hyl := hp.subset ((h.mem y).2 ⟨j, hj1, hj2, hj3, hj4⟩)
        rcases List.mem_cons.1 hyl with h1 | h1
        · exfalso
          have := congrArg Sh.sym (hj4.symm.trans (h1.trans hi4))
          rw [mkSh_sym, mkSh_sym] at this
          omega
        · exact h1

/-- a share that has so many places now -/
def upSh (size n : Int) (q c : List Int) (i : Nat) : Sh := { mkSh size n i (c.getD i 0) with plc := q.getD i 0 }
/-- all shares, with their places -/
structure Gives (c : List Int) (size n : Int) (q : List Int) (l : List Sh) : Prop where
  nd : l.Nodup
  mem : ∀ y, y ∈ l ↔ ∃ i, i < 256 ∧ c.getD i 0 ≠ 0 ∧ y = upSh size n q c i
theorem upSh_sym (size n : Int) (q c : List Int) (i : Nat) : (upSh size n q c i).sym = (i : Int) := by unfold upSh; simp only []; exact mkSh_sym ..
theorem upSh_cnt (size n : Int) (q c : List Int) (i : Nat) : (upSh size n q c i).cnt = c.getD i 0 := by unfold upSh; simp only []; exact mkSh_cnt ..
theorem upSh_plc (size n : Int) (q c : List Int) (i : Nat) : (upSh size n q c i).plc = q.getD i 0 := rfl
theorem upSh_inj {size n : Int} {q q' c c' : List Int} {i j : Nat} (h : upSh size n q c i = upSh size n q' c' j) : i = j := by
  have := congrArg Sh.sym h
  rw [upSh_sym, upSh_sym] at this
  omega
theorem gives_base {c : List Int} {size n : Int} (hl : c.length = 256) (h0 : ∀ x ∈ c, 0 ≤ x) (i : Nat) (hi : i < 256) (hc : c.getD i 0 ≠ 0) : upSh size n (qBase c size n) c i = mkSh size n i (c.getD i 0) := by
  have hx := h0 _ (getD_mem (cs := c) (k := i) (by omega))
  unfold upSh
  rw [base_at i (by omega)]
  unfold mkSh
  have hm : min (c.getD i 0) 1 = 1 := by omega
  by_cases hz0 : c.getD i 0 * size / n = 0
  · rw [if_pos hz0, if_pos hz0, hm]
  · rw [if_neg hz0, if_neg hz0]
/-- what comes off is who is richest; what is laid back has one less -/
theorem Gives.next {c q : List Int} {size n : Int} {l l' : List Sh} {x : Sh} (hlq : q.length = 256) (h : Gives c size n q l) (hp : l.Perm (x :: l')) (hle : ∀ y ∈ l', noLess greatB x y)
    (hc : c.getD (richTo q c 255) 0 ≠ 0) : x = upSh size n q c (richTo q c 255) ∧ Gives c size n (takeStep c q) ({ x with plc := x.plc - 1 } :: l') := by
  obtain ⟨hR, hspec⟩ := rich_spec q c 255
  obtain ⟨R, hRR⟩ : ∃ R, richTo q c 255 = R := ⟨_, rfl⟩
  have hts : takeStep c q = q.set R (q.getD R 0 - 1) := by unfold takeStep; rw [hRR]
  rw [hRR] at hR hspec hc ⊢
  have hxm : x ∈ l := hp.symm.subset (List.mem_cons_self ..)
  obtain ⟨i, hi1, hi2, hi4⟩ := (h.mem x).1 hxm
  have hsm : upSh size n q c R ∈ x :: l' := hp.subset ((h.mem _).2 ⟨R, by omega, hc, rfl⟩)
  have hnl : greatB (upSh size n q c R) x = false := by
    rcases List.mem_cons.1 hsm with he | he
    · rw [he]; unfold greatB; simp
    · exact hle _ he
  have hsp := hspec i (by omega)
  have his : i = R := by
    unfold greatB at hnl
    rw [hi4, upSh_plc, upSh_plc, upSh_sym, upSh_sym, upSh_cnt, upSh_cnt] at hnl
    split at hnl
    · split at hnl <;> rw [decide_eq_false_iff_not] at hnl <;> omega
    · rw [decide_eq_false_iff_not] at hnl; omega
  subst his
  have hnx : x ∉ l' := (List.nodup_cons.1 (hp.nodup_iff.1 h.nd)).1
  have hup : ({ x with plc := x.plc - 1 } : Sh) = upSh size n (takeStep c q) c i := by
    rw [hts, hi4]
    unfold upSh
    simp only [Sh.mk.injEq, true_and, and_true]
    rw [iset_getD _ _ _ _ (by omega), if_pos rfl]
  have hoth : ∀ j, i ≠ j → upSh size n (takeStep c q) c j = upSh size n q c j := fun j hj => by
    rw [hts]
    unfold upSh
    rw [iset_getD _ _ _ _ (by omega), if_neg hj]
  refine ⟨hi4, ?_, ?_⟩
  · rw [hup, List.nodup_cons]
    refine ⟨fun hm => ?_, (List.nodup_cons.1 (hp.nodup_iff.1 h.nd)).2⟩
    obtain ⟨j, hj1, hj2, hj4⟩ := (h.mem _).1 (hp.symm.subset (List.mem_cons_of_mem _ hm))
    have hij := upSh_inj hj4
    subst hij
    exact hnx (by rw [hi4, ← hj4]; exact hm)
  · intro y
    rw [hup, List.mem_cons]
    constructor
    · rintro (rfl | hy)
      · exact ⟨i, hi1, hi2, rfl⟩
      · obtain ⟨j, hj1, hj2, hj4⟩ := (h.mem y).1 (hp.symm.subset (List.mem_cons_of_mem _ hy))
        refine ⟨j, hj1, hj2, ?_⟩
        rw [hoth j (fun he => by subst he; exact hnx (by rw [hi4, ← hj4]; exact hy))]
        exact hj4
    · rintro ⟨j, hj1, hj2, hj4⟩
      by_cases he : i = j
      · subst he; exact .inl hj4
      · right
        rw [hoth j he] at hj4
        have hyl := hp.subset ((h.mem y).2 ⟨j, hj1, hj2, hj4⟩)
        rcases List.mem_cons.1 hyl with h1 | h1
        · exfalso
          exact he (upSh_inj (hi4.symm.trans (h1.symm.trans hj4)))
        · exact h1

end Go.Proofs.Ytnijfkbnggdbnaa
