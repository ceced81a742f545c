/- norm's shares in memory; who is ahead of whom; norm's queue as container/heap asks for it. THIS SPEAKS OF THE PROGRAM'S OWN TEXT. -/
import Derived.Test.YtnijfkbnggdbnaaHpAB
import Derived.Test.YtnijfkbnggdbnaaHsBase
import Derived.Handy
namespace Go.Proofs.Ytnijfkbnggdbnaa
open Go.RowKit

/-- a share -/
structure Sh where
  sym : Int
  cnt : Int
  plc : Int
  lft : Int
  rai : Bool
instance : Inhabited Sh := ⟨⟨0, 0, 0, 0, false⟩⟩
def sv (s : Sh) : Value := .agg #[.int .i64 s.sym, .int .i64 s.cnt, .int .i64 s.plc, .int .i64 s.lft, .bool s.rai]
def svl (s : Sh) : List Value := [.int .i64 s.sym, .int .i64 s.cnt, .int .i64 s.plc, .int .i64 s.lft, .bool s.rai]
def svs (l : List Sh) : List Value := l.flatMap svl
theorem svs_cons (a : Sh) (l : List Sh) : svs (a :: l) = svl a ++ svs l := by simp [svs]
theorem svs_append (a b : List Sh) : svs (a ++ b) = svs a ++ svs b := by simp [svs]
theorem svs_length (l : List Sh) : (svs l).length = l.length * 5 := by
  induction l with
  | nil => rfl
  | cons c r ih => rw [svs_cons, List.length_append, ih]; simp [svl]; omega
theorem svs_get (l : List Sh) (j : Nat) (h : j < l.length) : (svs l)[j * 5]? = some (.int .i64 (l.getD j default).sym) ∧ (svs l)[j * 5 + 1]? = some (.int .i64 (l.getD j default).cnt) ∧ (svs l)[j * 5 + 2]? = some (.int .i64 (l.getD j default).plc) ∧
    (svs l)[j * 5 + 3]? = some (.int .i64 (l.getD j default).lft) ∧ (svs l)[j * 5 + 4]? = some (.bool (l.getD j default).rai) := by
  induction l generalizing j with
  | nil => simp at h
  | cons c r ih =>
    rw [svs_cons]
    cases j with
    | zero => exact ⟨rfl, rfl, rfl, rfl, rfl⟩
    | succ j =>
      have ih := ih j (by simpa using h)
      have hl : (svl c).length = 5 := rfl
      rw [List.getElem?_append_right (by omega), List.getElem?_append_right (by omega), List.getElem?_append_right (by omega), List.getElem?_append_right (by omega), List.getElem?_append_right (by omega), hl,
        show (j + 1) * 5 - 5 = j * 5 by omega, show (j + 1) * 5 + 1 - 5 = j * 5 + 1 by omega, show (j + 1) * 5 + 2 - 5 = j * 5 + 2 by omega, show (j + 1) * 5 + 3 - 5 = j * 5 + 3 by omega, show (j + 1) * 5 + 4 - 5 = j * 5 + 4 by omega]
      exact ih
/-- five cells, one behind the other -/
def set5 (l : List Value) (k : Nat) (s : Sh) : List Value := ((((l.set k (.int .i64 s.sym)).set (k + 1) (.int .i64 s.cnt)).set (k + 2) (.int .i64 s.plc)).set (k + 3) (.int .i64 s.lft)).set (k + 4) (.bool s.rai)
theorem svs_set (l : List Sh) (j : Nat) (c : Sh) (h : j < l.length) : set5 (svs l) (j * 5) c = svs (l.set j c) := by
  unfold set5
  induction l generalizing j with
  | nil => simp at h
  | cons d r ih =>
    cases j with
    | zero => rw [List.set_cons_zero, svs_cons, svs_cons]; rfl
    | succ j =>
      have ih := ih j (by simpa using h)
      have hl : (svl d).length = 5 := rfl
      rw [List.set_cons_succ, svs_cons, svs_cons, ← ih, List.set_append_right _ _ (by omega), List.set_append_right _ _ (by omega), List.set_append_right _ _ (by omega), List.set_append_right _ _ (by omega), List.set_append_right _ _ (by omega), hl,
        show (j + 1) * 5 - 5 = j * 5 by omega, show (j + 1) * 5 + 1 - 5 = j * 5 + 1 by omega, show (j + 1) * 5 + 2 - 5 = j * 5 + 2 by omega, show (j + 1) * 5 + 3 - 5 = j * 5 + 3 by omega, show (j + 1) * 5 + 4 - 5 = j * 5 + 4 by omega]
theorem svs_one (xs : List Sh) : ∀ u ∈ svs xs, u.oneCell' = true := by
  intro u hu
  simp only [svs, List.mem_flatMap, svl] at hu
  obtain ⟨x, _, hx⟩ := hu
  simp at hx
  rcases hx with rfl | rfl | rfl | rfl | rfl <;> rfl

theorem Try.infoShare : (Try.prog.info? 49).map (fun i => (i.zero, i.size, i.bytes)) = some (some (.agg #[.int .i64 0, .int .i64 0, .int .i64 0, .int .i64 0, .bool false]), 5, 40) := by kernel_rfl

/-- of whom more is left, or whose value is less -/
def moreB (a b : Sh) : Bool := if a.lft = b.lft then decide (a.sym < b.sym) else decide (b.lft < a.lft)
/-- who has more, or whose count is less, or whose value is greater -/
def greatB (a b : Sh) : Bool := if a.plc = b.plc then (if a.cnt = b.cnt then decide (b.sym < a.sym) else decide (a.cnt < b.cnt)) else decide (b.plc < a.plc)
theorem moreB_ord : TotalOrd (noLess moreB) := by
  constructor
  · intro a b
    unfold noLess moreB
    by_cases h1 : a.lft = b.lft
    · rw [if_pos h1.symm, if_pos h1, decide_eq_false_iff_not, decide_eq_false_iff_not]; omega
    · rw [if_neg (Ne.symm h1), if_neg h1, decide_eq_false_iff_not, decide_eq_false_iff_not]; omega
  · intro a b c h1 h2
    unfold noLess moreB at *
    split at h1 <;> split at h2 <;> split <;> rw [decide_eq_false_iff_not] at * <;> omega
theorem greatB_ord : TotalOrd (noLess greatB) := by
  constructor
  · intro a b
    unfold noLess greatB
    by_cases h1 : a.plc = b.plc
    · rw [if_pos h1.symm, if_pos h1]
      by_cases h2 : a.cnt = b.cnt
      · rw [if_pos h2.symm, if_pos h2, decide_eq_false_iff_not, decide_eq_false_iff_not]; omega
      · rw [if_neg (Ne.symm h2), if_neg h2, decide_eq_false_iff_not, decide_eq_false_iff_not]; omega
    · rw [if_neg (Ne.symm h1), if_neg h1, decide_eq_false_iff_not, decide_eq_false_iff_not]; omega
  · intro a b c h1 h2
    unfold noLess greatB at *
    split at h1 <;> split at h2 <;> split <;> (try split at h1) <;> (try split at h2) <;> (try split) <;> rw [decide_eq_false_iff_not] at * <;> omega

set_option maxHeartbeats 1000000 in
theorem nmore_any (a b : Sh) (w : World) : Calls Try.prog 31 #[sv a, sv b] w fun e w' => e = .returned (.bool (moreB a b)) ∧ Chg (fun _ => False) w w' := by
  obtain ⟨s1, c1, p1, l1, r1⟩ := a
  obtain ⟨s2, c2, p2, l2, r2⟩ := b
  have hc0 : ∀ A B, Chg (fun _ => False) w ((w.alloc A).alloc B) := fun A B => (Chg.alloc (fun _ => False) w _).trans (Chg.alloc (fun _ => False) _ _) fun _ _ h => h
  have HC := Lib.hid hc0
  unfold sv moreB
  simp only []
  clear hc0
  by_cases h : l1 = l2
  · subst h
    rw [if_pos rfl]
    go_enter Try.func31, Try.ntmps31
    go_wp2
    go_ret
    exact ⟨rfl, HC.out _ _⟩
  · have hne : (l1 != l2) = true := by simp [h]
    rw [if_neg h]
    go_enter Try.func31, Try.ntmps31
    go_wp2
    go_ret
    exact ⟨rfl, HC.out _ _⟩

set_option maxHeartbeats 1000000 in
theorem ngreat_any (a b : Sh) (w : World) : Calls Try.prog 34 #[sv a, sv b] w fun e w' => e = .returned (.bool (greatB a b)) ∧ Chg (fun _ => False) w w' := by
  obtain ⟨s1, c1, p1, l1, r1⟩ := a
  obtain ⟨s2, c2, p2, l2, r2⟩ := b
  have hc0 : ∀ A B, Chg (fun _ => False) w ((w.alloc A).alloc B) := fun A B => (Chg.alloc (fun _ => False) w _).trans (Chg.alloc (fun _ => False) _ _) fun _ _ h => h
  have HC := Lib.hid hc0
  unfold sv greatB
  simp only []
  clear hc0
  by_cases h : p1 = p2
  · subst h
    rw [if_pos rfl]
    by_cases h2 : c1 = c2
    · subst h2
      rw [if_pos rfl]
      go_enter Try.func34, Try.ntmps34
      go_wp2
      go_ret
      exact ⟨rfl, HC.out _ _⟩
    · have hne : (c1 != c2) = true := by simp [h2]
      rw [if_neg h2]
      go_enter Try.func34, Try.ntmps34
      go_wp2
      go_ret
      exact ⟨rfl, HC.out _ _⟩
  · have hne : (p1 != p2) = true := by simp [h]
    rw [if_neg h]
    go_enter Try.func34, Try.ntmps34
    go_wp2
    go_ret
    exact ⟨rfl, HC.out _ _⟩

/-- the queue at block b, whose shares v stand in memory from block B on: the block X is neither of them -/
def Far (b B X : Nat) (v : Value) (w : World) : Prop := B ≤ b ∧ b ≠ X ∧ v.ownBlock ≠ some X ∧ X < w.heap.size
/-- the queue at block b, whose shares stand in memory from block B on, and whose order is the function f; X is a block that it leaves alone -/
def Qr (b B f X : Nat) (w : World) (l : List Sh) : Prop := ∃ v, w.heap[b]? = some (.cells #[v, .func (.func f) #[] #[]] 53 (0, 0)) ∧ w.ownsRow B 49 5 v l.length (svs l) ∧ l.length ≤ 100000 ∧ Far b B X v w
/-- the blocks that it may turn -/
def Sq (B X k : Nat) : Prop := B ≤ k ∧ k ≠ X

end Go.Proofs.Ytnijfkbnggdbnaa
