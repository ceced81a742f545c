/- Texts that other texts of this claim rest on, one behind the other (NqThin NmProg BwParts BwMany BfRead ApBytes SpProgA SpProgB SpProg EtProgB EtProg SpEx EtAwake OpInts NmSome OpU16 NmRefC NmSomeQ). -/
import Derived.Test.YtkdfifkmgpogfaaBase2
import Derived.BigQuiet
/- What norm's thin does. THIS SPEAKS OF THE PROGRAM'S OWN TEXT. -/
namespace Go.Proofs.Ytkdfifkmgpogfaa
open Go.RowKit

theorem all_gives (c : List Int) (size n : Int) (hl : c.length = 256) (h0 : ∀ x ∈ c, 0 ≤ x) : Gives c size n (qBase c size n) (shTo c size n 256) := by
  refine ⟨shTo_nodup c size n 256, fun y => ?_⟩
  rw [mem_shTo]
  constructor
  · rintro ⟨i, h1, h2, h3⟩; exact ⟨i, h1, h2, by rw [gives_base hl h0 i h1 h2]; exact h3⟩
  · rintro ⟨i, h1, h2, h3⟩; exact ⟨i, h1, h2, by rw [← gives_base hl h0 i h1 h2]; exact h3⟩
theorem Gives.perm {c : List Int} {size n : Int} {q : List Int} {l l' : List Sh} (h : Gives c size n q l) (hp : l'.Perm l) : Gives c size n q l' :=
  ⟨hp.nodup_iff.2 h.nd, fun y => by rw [hp.mem_iff]; exact h.mem y⟩

end Go.Proofs.Ytkdfifkmgpogfaa

/- What norm's Counts, Right and Log tell. THIS SPEAKS OF THE PROGRAM'S OWN TEXT. -/
namespace Go.Proofs.Ytkdfifkmgpogfaa
open Go.RowKit

set_option maxHeartbeats 1000000 in
theorem nlog_any (v : Value) (q : List Int) (w : World) (h : RdI w v q) (hb : ∀ z ∈ q, -9223372036854775808 ≤ z ∧ z ≤ 9223372036854775807) (hl : q.length < 100000000000) :
    Calls Try.prog 33 #[v] w fun e w' => e = .returned (.tuple #[.int .i64 ((logI (totalI q) : Nat) : Int), .bool (decide (0 < logI (totalI q)))]) ∧ Chg (fun _ => False) w w' := by
  have HT := Lib.hid (htotal_any v q w h hb hl)
  obtain ⟨ao, cap, rfl⟩ := h.form
  clear h hb
  have htl := totalI_le q
  obtain ⟨t, ht⟩ : ∃ t, totalI q = t := ⟨_, rfl⟩
  rw [ht] at HT htl ⊢
  obtain ⟨ht0, ht1⟩ := htl
  obtain ⟨L, hL⟩ : ∃ L, logI t = L := ⟨_, rfl⟩
  rw [hL]
  obtain ⟨D, hD⟩ : ∃ D, decide (0 < L) = D := ⟨_, rfl⟩
  rw [hD]
  have HL := Lib.hid hL; have HD := Lib.hid hD
  clear ht hL hD
  go_enter Try.func33, Try.ntmps33
  go_wp2_with fail
  refine HT.out.mono ?_
  rintro e w1 ⟨rfl, m0, rfl⟩
  have hc0 : Chg (fun _ => False) w (w.drewN m0) := (Chg.refl _ _).drewN m0
  obtain ⟨w0, hw0⟩ : ∃ w0, w.drewN m0 = w0 := ⟨_, rfl⟩
  rw [hw0] at hc0 ⊢
  have HC0 := Lib.hid hc0
  clear HT hw0 hc0
  go_wp2
  go_loopw [5] (fun o5 wr => ∃ r : Nat, 1 ≤ r ∧ r ≤ 13 ∧ o5 = .int .i64 (r : Int) ∧ (∀ j, 1 ≤ j → j < r → ¬ t = ((2 ^ j : Nat) : Int)) ∧ wr = w0) (fun o5 _ => 13 - (intOf o5).toNat)
  case atStart => exact ⟨1, Nat.le_refl _, by omega, rfl, fun j h1 h2 => by omega, rfl⟩
  case round =>
    obtain ⟨r, hr1, hr2, rfl, hno, rfl⟩ := hrel
    have HNO := Lib.hid hno
    clear hno
    by_cases hlt : r ≤ 12
    · have d1 : decide ((r : Int) ≤ 12) = true := by simp; omega
      have hlI : (r : Int) ≤ 12 := by omega
      have hpw := pow12 hlt
      obtain ⟨P, hP⟩ : ∃ P, 2 ^ r = P := ⟨_, rfl⟩
      have hPI : (2 : Int) ^ r = (P : Int) := by rw [← hP]; simp
      rw [hP] at hpw
      have hpI : (P : Int) ≤ 4096 := by omega
      have HPP := Lib.hid hP
      clear hP
      by_cases heq : t = (P : Int)
      · have hLr : L = r := by
          rw [← HL.out, heq, ← HPP.out]
          exact logI_pow hr1 hlt
        subst hLr
        subst heq
        have hD1 : D = true := by rw [← HD.out]; exact decide_eq_true (by omega)
        subst hD1
        go_wp2
        go_ret2
        exact ⟨rfl, HC0.out⟩
      · have hne : (t == (P : Int)) = false := by simp [heq]
        go_wp2
        go_roundw
        case rel =>
          refine ⟨r + 1, by omega, by omega, by go_num, fun j h1 h2 => ?_, trivial⟩
          by_cases hjr : j = r
          · subst hjr; rw [HPP.out]; exact heq
          · exact HNO.out j h1 (by omega)
        case measure => simp [intOf]; omega
    · have hr13 : r = 13 := by omega
      have hrI : (r : Int) = 13 := by omega
      rw [hrI]
      have hL0 : L = 0 := by
        rw [← HL.out]
        exact logI_none fun j h1 h2 => HNO.out j h1 (by omega)
      subst hL0
      have hD1 : D = false := by rw [← HD.out]; rfl
      subst hD1
      clear hr13 hrI hlt hr1 hr2
      go_wp2
      go_ret2
      exact ⟨rfl, HC0.out⟩

theorem log_of_total {t r : Int} (h1 : 1 ≤ r) (h2 : r ≤ 12) : (t = ((2 ^ r.toNat : Nat) : Int)) ↔ (0 < logI t ∧ ((logI t : Nat) : Int) = r) := by
  constructor
  · intro h
    rw [h, logI_pow (by omega) (by omega)]; omega
  · rintro ⟨h3, h4⟩
    rcases logI_spec t with h5 | ⟨_, h5⟩
    · omega
    · have : r.toNat = logI t := by omega
      rw [this]; exact h5

theorem zc_le (size n : Int) (c : List Int) : zc size n c ≤ c.length := by
  induction c with
  | nil => simp [zc]
  | cons x r ih => simp only [zc, List.length_cons]; split <;> omega
theorem mem_le_tot (l : List Int) (h0 : ∀ x ∈ l, 0 ≤ x) : ∀ x ∈ l, x ≤ tot l := by
  induction l with
  | nil => simp
  | cons y r ih =>
    intro x hx
    have hn := tot_nonneg r fun z hz => h0 z (by simp [hz])
    have hy := h0 y (by simp)
    rcases List.mem_cons.1 hx with rfl | hx
    · simp only [tot]; omega
    · have := ih (fun z hz => h0 z (by simp [hz])) x hx
      simp only [tot]; omega
theorem base_right {c : List Int} {size : Int} (h : Fit c size) (hs : size ≤ 4096) : isRight (qBase c size (tot c)) ∧ tot (qBase c size (tot c)) ≤ 4352 ∧ ∀ x ∈ qBase c size (tot c), 0 ≤ x ∧ x ≤ 1000000 := by
  have hn := h.some
  have hb := base_sum size (tot c) c h.low
  have hp := sum_parts size (tot c) c
  have hr := tot_rest_nonneg size (tot c) hn c
  have hz := zc_le size (tot c) c
  rw [h.len] at hz
  have h1 : tot c * tot (q0L c size (tot c)) ≤ tot c * size := by omega
  have h2 := Int.le_of_mul_le_mul_left h1 hn
  have h0 : ∀ x ∈ qBase c size (tot c), 0 ≤ x := by
    intro x hx
    simp only [qBase, List.mem_map] at hx
    obtain ⟨y, hy, rfl⟩ := hx
    have hy0 := h.low y hy
    have := (div_parts y size (tot c) hn hy0 h.sz).1
    split <;> omega
  have ht : tot (qBase c size (tot c)) ≤ 4352 := by omega
  exact ⟨⟨by simp [qBase, h.len], h0, by omega⟩, ht, fun x hx => ⟨h0 x hx, by have := mem_le_tot _ h0 x hx; omega⟩⟩
theorem OwnI.rebase {w : World} {B B' : Nat} {v : Value} {l : List Int} (h : OwnI w B v l) (hb : ∀ k, v.ownBlock = some k → B' ≤ k) : OwnI w B' v l := by
  obtain ⟨g, off, cap, rfl, _, h2⟩ := h
  exact ⟨g, off, cap, rfl, hb g rfl, h2⟩
theorem OwnI.block {w : World} {B : Nat} {v : Value} {l : List Int} (h : OwnI w B v l) : ∀ k, v.ownBlock = some k → B ≤ k := by
  obtain ⟨g, off, cap, rfl, h1, _⟩ := h
  intro k hk
  simp only [Value.ownBlock, Option.some.injEq] at hk
  omega
theorem tot_pos_iff (c : List Int) (h0 : ∀ x ∈ c, 0 ≤ x) : 0 < tot c ↔ 0 < pos c := by
  induction c with
  | nil => simp [tot, pos]
  | cons x r ih =>
    have ih := ih fun z hz => h0 z (by simp [hz])
    have hx := h0 x (by simp)
    have hn := tot_nonneg r fun z hz => h0 z (by simp [hz])
    simp only [tot, pos]
    split <;> omega
theorem many_norm {c : List Int} {r : Int} (h1 : 1 ≤ r) (h2 : r ≤ 12) : normOk c r ↔ manyI c ≠ 0 ∧ (manyI c : Int) ≤ ((2 ^ r.toNat : Nat) : Int) := by
  unfold normOk manyI
  by_cases h : isRight c
  · rw [if_pos h]
    have hp := tot_pos_iff c h.2.1
    constructor
    · rintro ⟨_, h3, _, _, h4⟩; exact ⟨by omega, h4⟩
    · rintro ⟨h3, h4⟩; exact ⟨h, by omega, h1, h2, h4⟩
  · rw [if_neg h]
    exact ⟨fun hh => absurd hh.1 h, fun hh => absurd rfl hh.1⟩

end Go.Proofs.Ytkdfifkmgpogfaa

/- A slice of parts that is read; all parts put; a Writer of the call's own. -/
namespace Go.Proofs.Ytkdfifkmgpogfaa
open Go.RowKit

/-- The value is a slice of the parts ps (a number and how many bits), none of them beyond its kind. -/
structure RdP (w : World) (v : Value) (ps : List (Nat × Int)) : Prop where
  form : ∃ ao cap, v = .slice ao ps.length cap ∧ (0 < ps.length → ∃ g off, ao = some ⟨g, off, none⟩)
  cells : ∀ g off n cap, v = .slice (some ⟨g, off, none⟩) n cap → ∀ i (h : i < ps.length), w.cell? ⟨g, off + i * 2, none⟩ = some (.int .u32 (ps[i].1 : Int)) ∧ w.cell? ⟨g, off + i * 2 + 1, none⟩ = some (.int .i64 ps[i].2)
  wf : ∀ p ∈ ps, p.1 < 4294967296

theorem RdP.kept {S : Nat → Prop} {w w' : World} {v : Value} {ps : List (Nat × Int)} (h : RdP w v ps) (hc : Chg S w w') (hS : ∀ k, v.ownBlock = some k → ¬ S k) : RdP w' v ps := by
  refine ⟨h.form, fun g off n cap hv i hi => ?_, h.wf⟩
  have hh := h.cells g off n cap hv i hi
  have hlt : g < w.heap.size := block_lt_of_cell hh.1
  have hb := hc.block g hlt (hS g (by rw [hv]; rfl))
  rw [World.cell?_of_block (w := w) (a := ⟨g, off + i * 2, none⟩) hb, World.cell?_of_block (w := w) (a := ⟨g, off + i * 2 + 1, none⟩) hb]
  exact hh

/-- all parts put, one behind the other -/
def putAll (bs : List Bool) : List (Nat × Int) → List Bool
  | [] => bs
  | p :: r => putAll (putB bs p.1 p.2) r

theorem putAll_append (bs : List Bool) (a b : List (Nat × Int)) : putAll bs (a ++ b) = putAll (putAll bs a) b := by
  induction a generalizing bs with
  | nil => rfl
  | cons p r ih => exact ih _

theorem putAll_succ (bs : List Bool) (ps : List (Nat × Int)) (k : Nat) (h : k < ps.length) : putAll bs (ps.take (k + 1)) = putB (putAll bs (ps.take k)) ps[k].1 ps[k].2 := by
  rw [List.take_succ_eq_append_getElem h, putAll_append]; rfl

theorem putAll_length (bs : List Bool) (ps : List (Nat × Int)) : bs.length ≤ (putAll bs ps).length ∧ (putAll bs ps).length ≤ bs.length + 24 * ps.length := by
  induction ps generalizing bs with
  | nil => simp [putAll]
  | cons p r ih =>
    have h1 := putB_length bs p.1 p.2
    have h2 := ih (putB bs p.1 p.2)
    simp only [putAll, List.length_cons]; omega

end Go.Proofs.Ytkdfifkmgpogfaa

/- Several Writers side by side: those that aren't put into stay as they were. -/
namespace Go.Proofs.Ytkdfifkmgpogfaa
open Go.RowKit

/-- two Writers that share no block -/
def Dj (b : Nat) (o : Option Nat) (b' : Nat) (o' : Option Nat) : Prop := b ≠ b' ∧ o ≠ some b' ∧ o' ≠ some b ∧ (o = none ∨ o ≠ o')

theorem Dj.symm {b b' : Nat} {o o' : Option Nat} (h : Dj b o b' o') : Dj b' o' b o := by
  obtain ⟨h1, h2, h3, h4⟩ := h
  refine ⟨fun h => h1 h.symm, h3, h2, ?_⟩
  rcases h4 with h | h
  · cases o' with
    | none => exact .inl rfl
    | some k => exact .inr (by rw [h]; simp)
  · exact .inr fun e => h e.symm

/-- all of it lies from B on -/
def Above (B b : Nat) (o : Option Nat) : Prop := B ≤ b ∧ ∀ k, o = some k → B ≤ k

theorem Above.mono {B B' b : Nat} {o : Option Nat} (h : Above B b o) (hB : B' ≤ B) : Above B' b o := ⟨Nat.le_trans hB h.1, fun k hk => Nat.le_trans hB (h.2 k hk)⟩

theorem Above.step {w : World} {B b : Nat} {o o1 : Option Nat} (h : Above B b o) (hs : B ≤ w.heap.size) (h1 : o1 = o ∨ ∃ k, o1 = some k ∧ w.heap.size ≤ k) : Above B b o1 := by
  rcases h1 with rfl | ⟨k, rfl, hk⟩
  · exact h
  · exact ⟨h.1, fun j hj => by simp only [Option.some.injEq] at hj; omega⟩

theorem Chg.up {w w1 w2 : World} {b : Nat} {o : Option Nat} (h : Chg (fun _ => False) w w1) (h2 : Chg (fun k => k = b ∨ some k = o) w1 w2) (ha : Above w.heap.size b o) : Chg (fun _ => False) w w2 :=
  h.trans h2 fun k hk hx => by
    rcases hx with hx | hx
    · have := ha.1; omega
    · have := ha.2 k hx.symm; omega

theorem Chg.next {w w1 w2 : World} (h : Chg (fun _ => False) w w1) (h2 : Chg (fun _ => False) w1 w2) : Chg (fun _ => False) w w2 := h.trans h2 fun _ _ h => h

/-- append at an operation that stands under a guard which says yes -/
theorem wpList_append_want {P : Program} {ops : Array Oper} {rest : List Oper} {o : Oper} {a : Act} {w : World} {Q : Exit → Act → World → Prop} (s x : Operand) (t : TypeId)
    (ho : o.op = .call { callee := .builtin .append, args := #[s, x], argTypes := #[t, t] })
    (base : Nat) (e : TypeId) (i : TypeInfo) (z : Value) (size bytes : Nat) (ht : P.underlying t = some (.slice e)) (hi : P.info? e = some i) (hz : i.zero = some z)
    (hsize : i.size = size) (hby : i.bytes = bytes) (hzs : z.cells.size = size) (hsz : 0 < size)
    (v : Value) (n : Nat) (xs : List Value) (hs : a.eval s = v) (hown : w.ownsRow base e size v n xs)
    (ad : Addr) (m c : Nat) (news : List Value) (hx : a.eval x = .slice (some ad) m c) (hl : news.length = m * size) (hnews : ∀ j u, news[j]? = some u → w.cell? (ad.add j) = some u) (h1 : ∀ u ∈ news, u.oneCell' = true)
    (hm : 0 < m) (h63 : n + m ≤ maxLen) (hbytes : (n + m) * bytes ≤ 140737488355328) (hbase : base ≤ w.heap.size)
    (hw : Region.wanted o (yielded ops a.tmps) = true)
    (h : ∀ g cap w', w'.ownsRow base e size (.slice (some ⟨g, 0, none⟩) (n + m) cap) (n + m) (xs ++ news) → w.grownBy w' v.ownBlock → (v.ownBlock = some g ∨ g = w.heap.size) → wpList P ops Q rest (a.put o.dst (.slice (some ⟨g, 0, none⟩) (n + m) cap)) w') :
    wpList P ops Q (o :: rest) a w :=
  BigFrame.wpList_want hw fun _ hK => wp_append_lies w s x t ho base e i z size bytes ht hi hz hsize hby hzs hsz v n xs hs hown ad m c news hx hl hnews h1 hm h63 hbytes hbase _ rfl fun g cap w' h2 h3 h4 _ => hK _ _ (h g cap w' h2 h3 h4)

end Go.Proofs.Ytkdfifkmgpogfaa

/- slices.Clone of bytes; a bitf.Reader in memory; what bitf's begun, bitAt, Left, New do. -/
namespace Go.Proofs.Ytkdfifkmgpogfaa
open Go.RowKit

theorem RdB.news {w : World} {a : Addr} {n cap : Nat} {xs : List Nat} (h : RdB w (.slice (some a) n cap) xs) : ∀ j u, (bv xs)[j]? = some u → w.cell? (a.add j) = some u := by
  intro j u hu
  rcases h with ⟨rfl, _⟩ | ⟨g, off, cap', he, hc⟩
  · simp [bv] at hu
  · simp only [Value.slice.injEq, Option.some.injEq] at he
    obtain ⟨rfl, rfl, rfl⟩ := he
    have hj : j < xs.length := by rw [← bv_length]; exact (List.getElem?_eq_some_iff.1 hu).1
    rw [bv_get xs j hj] at hu
    rw [← Option.some.inj hu, show (⟨g, off, none⟩ : Addr).add j = ⟨g, off + j, none⟩ from by unfold Addr.add; split <;> simp_all]
    exact hc j hj

theorem eqlNil (W : World) (a : Addr) (n c : Nat) : (binOp .eql 51 (.slice (some a) n c) (.slice none 0 0)).run Try.prog W = .ok (.bool false) W := by kernel_rfl
theorem eqlNil0 (W : World) (n c : Nat) : (binOp .eql 51 (.slice none n c) (.slice none 0 0)).run Try.prog W = .ok (.bool true) W := by kernel_rfl

end Go.Proofs.Ytkdfifkmgpogfaa

/- append(s, x...): bytes x that are read, nil or not, onto a row of bytes of the call's own. -/
namespace Go.Proofs.Ytkdfifkmgpogfaa
open Go.RowKit

theorem run_append_nil (w : World) (ty : TypeId) (base n c : Nat) (v : Value) (ys : List Value) (hown : w.ownsRow base 5 1 v n ys) :
    (Builtin.append_ #[51, 51] ty #[v, .slice none 0 c]).run Try.prog w = .ok v w := by
  obtain ⟨i, hi, hz0, hz1, hz2⟩ := info_parts Try.infoU8
  rcases hown.2 with ⟨rfl, _⟩ | ⟨g, cap, cur, rfl, _, hg, hn, _⟩
  · simp [Builtin.append_, run_underlying Try.underlying51, sizeOf, typeInfo, hi, Builtin.lenOf, Builtin.firstCells]
  · simp [Builtin.append_, run_underlying Try.underlying51, sizeOf, typeInfo, hi, Builtin.lenOf, Builtin.firstCells, hn, storeCells]

theorem wp_append_bytes {o : Oper} {a : Act} {w : World} {K : Act → World → Prop} {Q : Exit → Act → World → Prop} (s x : Operand)
    (ho : o.op = .call { callee := .builtin .append, args := #[s, x], argTypes := #[51, 51] })
    (base : Nat) (v : Value) (ys : List Nat) (hs : a.eval s = v) (hown : w.ownsRow base 5 1 v ys.length (bv ys))
    (u : Value) (xs : List Nat) (hx : a.eval x = u) (hr : RdB w u xs) (hb : base ≤ w.heap.size) (hl : ys.length + xs.length < 100000000000)
    (h : ∀ v' w', w'.ownsRow base 5 1 v' (ys ++ xs).length (bv (ys ++ xs)) → Chg (fun k => some k = v.ownBlock) w w' → K (a.put o.dst v') w') : o.wp Try.prog a w K Q := by
  obtain ⟨i, hi, hz0, hz1, hz2⟩ := info_parts Try.infoU8
  obtain ⟨ao, cap, hu⟩ := hr.form
  subst hu
  cases ao with
  | none =>
    have h0 : xs = [] := by
      rcases hr with ⟨h0, _⟩ | ⟨g, off, cap', he, _⟩
      · exact h0
      · simp at he
    subst h0
    have hrun := run_append_nil w o.type base ys.length cap v (bv ys) hown
    rw [List.length_nil] at hx
    unfold Oper.wp execOp
    simp only [ho, resolve, invoke, builtin, Sem.run_bind, Sem.run_pure, Result.andThen_ok, List.map_toArray, List.map_cons, List.map_nil, hs, hx, hrun]
    exact h v w (by rw [List.append_nil]; exact hown) (Chg.refl _ _)
  | some ad =>
    refine wp_append_own w s x 51 ho base 5 i (.int .u8 0) 1 1 Try.underlying51 hi hz0 hz1 hz2 rfl (by decide) v ys.length (bv ys) hs hown ad xs.length cap (bv xs) hx (by rw [bv_length, Nat.mul_one]) (RdB.news hr) (bv_one xs) (by unfold maxLen; omega) (by omega) hb fun v' w' h2 h3 _ => ?_
    exact h v' w' (by rw [List.length_append, show bv (ys ++ xs) = bv ys ++ bv xs from by simp [bv]]; exact h2) (Chg.of_grown h3)

theorem wpList_append_bytes {ops : Array Oper} {rest : List Oper} {o : Oper} {a : Act} {w : World} {Q : Exit → Act → World → Prop} (hgd : o.guard = none) (s x : Operand)
    (ho : o.op = .call { callee := .builtin .append, args := #[s, x], argTypes := #[51, 51] })
    (base : Nat) (v : Value) (ys : List Nat) (hs : a.eval s = v) (hown : w.ownsRow base 5 1 v ys.length (bv ys))
    (u : Value) (xs : List Nat) (hx : a.eval x = u) (hr : RdB w u xs) (hb : base ≤ w.heap.size) (hl : ys.length + xs.length < 100000000000)
    (h : ∀ v' w', w'.ownsRow base 5 1 v' (ys ++ xs).length (bv (ys ++ xs)) → Chg (fun k => some k = v.ownBlock) w w' → wpList Try.prog ops Q rest (a.put o.dst v') w') :
    wpList Try.prog ops Q (o :: rest) a w :=
  wpList_plain hgd fun _ hK => wp_append_bytes s x ho base v ys hs hown u xs hx hr hb hl fun v' w' h2 h3 => hK _ _ (h v' w' h2 h3)

/-- a row of no bytes that was just laid -/
theorem own_empty (w : World) : (w.alloc (.cells #[] 5)).ownsRow w.heap.size 5 1 (.slice (some ⟨w.heap.size, 0, none⟩) 0 0) ([] : List Nat).length (bv []) :=
  World.ownsRow_made w #[] 0 (Nat.le_refl _) (by unfold maxLen; omega) rfl

end Go.Proofs.Ytkdfifkmgpogfaa

/- What spread's Log, ahead and firstKeys tell. THIS SPEAKS OF THE PROGRAM'S OWN TEXT. -/
namespace Go.Proofs.Ytkdfifkmgpogfaa
open Go.RowKit

set_option maxHeartbeats 600000 in
theorem slog_any (v : Value) (q : List Int) (w : World) (h : RdI w v q) (hb : ∀ z ∈ q, -9223372036854775808 ≤ z ∧ z ≤ 9223372036854775807) (hl : q.length < 100000000000) :
    Calls Try.prog 21 #[v] w fun e w' => e = .returned (.int .i64 ((logI (totalI q) : Nat) : Int)) ∧ Chg (fun _ => False) w w' := by
  have HT := Lib.hid (nlog_any v q w h hb hl)
  obtain ⟨ao, cap, rfl⟩ := h.form
  clear h hb hl
  obtain ⟨t, ht⟩ : ∃ t, logI (totalI q) = t := ⟨_, rfl⟩
  rw [ht] at HT ⊢
  obtain ⟨D, hD⟩ : ∃ D, decide (0 < t) = D := ⟨_, rfl⟩
  rw [hD] at HT
  clear ht hD
  go_enter Try.func21, Try.ntmps21
  go_wp2_with fail
  refine HT.out.mono ?_
  rintro e w1 ⟨rfl, hc⟩
  have HC := Lib.hid hc
  clear hc
  go_wp2
  go_ret
  exact ⟨rfl, HC.out⟩

theorem kh_new (w : World) : Kh w.heap.size w.heap.size (w.alloc (.cells #[.slice none 0 0] 86)) [] :=
  ⟨⟨_, heap_alloc_new w _, World.ownsRow_nil _ _ _ _, Nat.zero_le _, Nat.le_refl _⟩, fun k h0 hk => absurd hk (by simp)⟩

/-- the cells of normalized counts, wherever they stand -/
theorem NormQ.cells {q : List Int} {k : Nat} (hq : NormQ q k) {w : World} {ao : Option Addr} {cap : Nat} (h : RdI w (.slice ao q.length cap) q) :
    ∃ g off, ao = some ⟨g, off, none⟩ ∧ ∀ W, Chg (fun _ => False) w W → ∀ s, s < 256 → W.cell? ⟨g, off + s, none⟩ = some (.int .i64 ((fq q s : Nat) : Int)) := by
  have hcells : ∀ W, Chg (fun _ => False) w W → ∀ s, s < 256 → ∃ g off, ao = some ⟨g, off, none⟩ ∧ W.cell? ⟨g, off + s, none⟩ = some (.int .i64 ((fq q s : Nat) : Int)) := fun W hc s hs => by
    obtain ⟨g, off, h1, h2⟩ := (h.kept hc (by simp)).at s (by rw [hq.1]; omega)
    rw [hq.at s] at h2
    exact ⟨g, off, h1, h2⟩
  obtain ⟨g, off, rfl, -⟩ := hcells w (Chg.refl _ _) 0 (by omega)
  refine ⟨g, off, rfl, fun W hc s hs => ?_⟩
  obtain ⟨g', off', h1, h2⟩ := hcells W hc s hs
  simp only [Option.some.injEq, Addr.mk.injEq] at h1
  obtain ⟨rfl, rfl, -⟩ := h1
  exact h2

set_option maxHeartbeats 600000 in
theorem sfirst_any (v : Value) (q : List Int) (k : Nat) (w : World) (h : RdI w v q) (hq : NormQ q k) :
    Calls Try.prog 34 #[v] w fun e w' => ∃ l, e = .returned (.pointer (some ⟨w.heap.size, 0, none⟩)) ∧ Kh w.heap.size w.heap.size w' l ∧ FirstK (fq q) 256 l ∧ Chg (fun _ => False) w w' := by
  obtain ⟨ao, cap, rfl⟩ := h.form
  obtain ⟨g, off, rfl, hcell⟩ := hq.cells h
  have HCELL := Lib.hid hcell
  have HLE := Lib.hid hq.le
  have hlen : (q.length : Int) = 256 := by have := hq.1; omega
  obtain ⟨n, hn⟩ : ∃ n, q.length = n := ⟨_, rfl⟩
  rw [hn] at hlen ⊢
  obtain ⟨f, hf⟩ : ∃ f, fq q = f := ⟨_, rfl⟩
  rw [hf] at HCELL HLE ⊢
  have HLN := Lib.hid hlen
  have hcq := Chg.alloc (fun _ => False) w (.cells #[.slice none 0 0] 86)
  have hq0 := kh_new w
  obtain ⟨G, hG⟩ : ∃ G, w.heap.size = G := ⟨_, rfl⟩
  rw [hG] at hq0
  have HCQ := Lib.hid hcq; have HQ0 := Lib.hid hq0; have HG := Lib.hid hG
  clear hcell hq hlen hn hf h hcq hq0
  rw [hG]
  go_enter Try.func34, Try.ntmps34
  go_wp2
  clear hG
  go_loopw [10] (fun o10 wr => ∃ (s : Nat) (l : List Kr), s ≤ 256 ∧ o10 = .int .i64 (s : Int) ∧ Kh G G wr l ∧ FirstK f s l ∧ Chg (fun _ => False) w wr) (fun o10 _ => 256 - (intOf o10).toNat)
  case atStart => exact ⟨0, [], Nat.zero_le _, rfl, HQ0.out, FirstK.zero _, HCQ.out⟩
  case round =>
    clear HQ0 HCQ
    obtain ⟨s, l, hs, rfl, hk, hfk, hc⟩ := hrel
    by_cases hlt : s < 256
    · have hcell := HCELL.out wr hc s hlt
      have hsn : (s : Int) < (n : Int) := by have := HLN.out; omega
      have h4 := HLE.out s
      obtain ⟨x, hx⟩ : ∃ x, f s = x := ⟨_, rfl⟩
      rw [hx] at hcell h4
      by_cases h0 : x = 0
      · subst h0
        have HF := Lib.hid (show Kh G G wr l ∧ FirstK f (s + 1) l ∧ Chg (fun _ => False) w wr from ⟨hk, hfk.skip hx, hc⟩)
        have hd : decide ((0 : Int) < 0) = false := rfl
        simp only [Int.natCast_zero] at hcell
        clear hk hfk hc hx h4
        go_wp2
        go_roundw
        case rel => exact ⟨s + 1, l, by omega, by go_num, HF.out⟩
        case measure => simp [intOf]; omega
      · have hll := hfk.2.1
        have hky : (keyK f s 0).right := keyK_right HLE.out hlt (by omega)
        have hadd := kqadd_any (⟨keyK f s 0, hky⟩ : Kr) hk (by omega)
        have hkv : kv (keyK f s 0) = .agg #[.int .i64 (x : Int), .int .i64 (x : Int), .int .i64 (s : Int)] := by unfold kv keyK; simp only [hx, Nat.add_zero]
        simp only [hkv] at hadd
        have hx0 : decide ((0 : Int) < (x : Int)) = true := decide_eq_true (by omega)
        have hx1 : 0 < x := by omega
        have HADD := Lib.hid hadd; have HF := Lib.hid (And.intro hfk (And.intro hc (show 0 < f s by omega)))
        clear hk hfk hc hx h4 hll hadd hkv h0
        go_wp2_with fail
        refine (HADD.out).mono ?_
        rintro e w2 ⟨rfl, l2, hq2, hp2, hc2⟩
        have HE := Lib.hid (show Kh G G w2 l2 ∧ FirstK f (s + 1) l2 ∧ Chg (fun _ => False) w w2 from ⟨hq2, HF.out.1.more HF.out.2.2 rfl hp2, HF.out.2.1.trans hc2 fun q hq he => by have := HG.out; omega⟩)
        clear hq2 hp2 hc2 HADD HF
        go_wp2
        go_roundw
        case rel => exact ⟨s + 1, l2, by omega, by go_num, HE.out⟩
        case measure => simp [intOf]; omega
    · have hs6 : s = 256 := by omega
      subst hs6
      have hsn : (n : Int) = 256 := HLN.out
      have HF := Lib.hid (show Kh G G wr l ∧ FirstK f 256 l ∧ Chg (fun _ => False) w wr from ⟨hk, hfk, hc⟩)
      clear hk hfk hc
      go_wp2
      go_ret
      exact ⟨l, rfl, HF.out⟩

end Go.Proofs.Ytkdfifkmgpogfaa

/- What spread's Of tells. THIS SPEAKS OF THE PROGRAM'S OWN TEXT. -/
namespace Go.Proofs.Ytkdfifkmgpogfaa
open Go.RowKit

/-- how many elements a slice has -/
def lenV : Value → Nat
  | .slice _ n _ => n
  | _ => 0

theorem nextK_more {f : Nat → Nat} {s d : Nat} (hf : ∀ s, f s ≤ 4096) (hs : s < 256) (h : d + 1 < f s) : Ky.right ⟨(keyK f s d).I + 1, (keyK f s d).Q, (keyK f s d).S⟩ ∧ nextK (keyK f s d) = keyK f s (d + 1) := by
  have hr := keyK_right hf hs h
  have he : (⟨(keyK f s d).I + 1, (keyK f s d).Q, (keyK f s d).S⟩ : Ky) = keyK f s (d + 1) := by
    unfold keyK; rw [Ky.mk.injEq]; exact ⟨by simp only []; omega, rfl, rfl⟩
  unfold nextK
  rw [he, if_pos hr]
  exact ⟨hr, rfl⟩
theorem nextK_last {f : Nat → Nat} {s d : Nat} (h : ¬ d + 1 < f s) : ¬ Ky.right ⟨(keyK f s d).I + 1, (keyK f s d).Q, (keyK f s d).S⟩ ∧ nextK (keyK f s d) = ⟨0, 0, 0⟩ := by
  have hr : ¬ Ky.right ⟨(keyK f s d).I + 1, (keyK f s d).Q, (keyK f s d).S⟩ := by unfold keyK Ky.right; simp only []; omega
  unfold nextK
  exact ⟨hr, if_neg hr⟩

set_option maxHeartbeats 600000 in
theorem sof_any (v : Value) (q : List Int) (w : World) (h : RdI w v q) (hb : ∀ z ∈ q, -9223372036854775808 ≤ z ∧ z ≤ 9223372036854775807) (hl : q.length < 100000000000) :
    Calls Try.prog 20 #[v] w fun e w' => SpreadSays w q e w' := by
  have hlg := nlog_any v q w h hb hl
  by_cases hk : logI (totalI q) = 0
  · obtain ⟨ao, cap, rfl⟩ := h.form
    rw [hk] at hlg
    rw [show decide (0 < 0) = false from rfl] at hlg
    have HLG := Lib.hid hlg
    have HK := Lib.hid hk
    clear hb hl hk h hlg
    go_enter Try.func20, Try.ntmps20
    go_wp2_with fail
    refine HLG.out.mono ?_
    rintro e w1 ⟨rfl, hc⟩
    have HC := Lib.hid hc
    clear hc HLG
    go_wp2
    go_ret2
    exact ⟨_, by rw [if_pos HK.out]; rfl, fun h => absurd HK.out h, fun _ => .inl ⟨rfl, none, 0, rfl⟩, HC.out⟩
  · have hq := normQ_of hk
    have hd : decide (0 < logI (totalI q)) = true := decide_eq_true (by omega)
    rw [hd] at hlg
    obtain ⟨ao, cap, rfl⟩ := h.form
    have HK := Lib.hid hk
    obtain ⟨k, hke⟩ : ∃ k, logI (totalI q) = k := ⟨_, rfl⟩
    rw [hke] at hq hlg
    have HLE := Lib.hid hq.le
    have hfirst := fun W (hc : Chg (fun _ => False) w W) => sfirst_any (.slice ao q.length cap) q k W (h.kept hc (by simp)) hq
    have hsum := hq.sum
    have hsz := hq.size
    have hk12 : (k : Int) ≤ 12 := by have := hq.2.2.2.2; omega
    obtain ⟨L, hL⟩ : ∃ L, 2 ^ k = L := ⟨_, rfl⟩
    have hLI : (2 : Int) ^ k = (L : Int) := by rw [← hL]; simp
    rw [hL] at hsum hsz
    have hLI4 : (L : Int) ≤ 4096 := by omega
    obtain ⟨n, hn⟩ : ∃ n, q.length = n := ⟨_, rfl⟩
    rw [hn] at hlg hfirst ⊢
    have HFI := Lib.hid hfirst; have HSUM := Lib.hid hsum
    have HLG := Lib.hid hlg
    have hfx : ∃ f, fq q = f := ⟨_, rfl⟩
    obtain ⟨f, hf⟩ := hfx
    rw [hf] at HFI HSUM HLE
    have HF := Lib.hid hf
    clear hq hb hl hk h hlg hd hke hfirst hsum hL hsz hn hf
    go_enter Try.func20, Try.ntmps20
    go_wp2_with fail
    refine HLG.out.mono ?_
    rintro e w1 ⟨rfl, hc⟩
    have HC := Lib.hid hc
    clear hc HLG
    obtain ⟨i, hi, hz0, hz1, hz2⟩ := info_parts Try.infoU8
    go_wp2_with (at_make; refine wpList_make_own w1 rfl _ _ 51 rfl w.heap.size 5 i (.int .u8 0) 1 Try.underlying51 hi hz0 hz1 .i64 .i64 (L : Int) L rfl rfl rfl (by rw [hz2]; omega) (by unfold maxLen; omega) HC.out.size ?_)
    intro w2 ho hg2
    have hc2 : Chg (fun _ => False) w1 w2 := (Chg.of_grown hg2).mono fun k _ hk => by simp at hk
    have HC2 := Lib.hid (HC.out.trans hc2 fun _ _ h => h)
    have hfi := HFI.out w2 HC2.out
    obtain ⟨G, hG⟩ : ∃ G, w1.heap.size = G := ⟨_, rfl⟩
    have hGw := HC.out.size
    rw [hG] at ho hGw ⊢
    obtain ⟨Q2, hQ2⟩ : ∃ Q2, w2.heap.size = Q2 := ⟨_, rfl⟩
    have hlt0 := (ho.lt G rfl).2
    rw [hQ2] at hfi hlt0
    have HG := Lib.hid (show w.heap.size ≤ G ∧ G < Q2 ∧ w2.heap.size = Q2 from ⟨hGw, hlt0, hQ2⟩)
    have HFI2 := Lib.hid hfi
    have HO := Lib.hid ho
    clear hG hc2 hg2 hfi ho HFI HC hGw hlt0 hQ2
    go_wp2_with fail
    refine HFI2.out.mono ?_
    rintro e w3 ⟨l, rfl, hkh, hfk, hc3⟩
    have HC3 := Lib.hid (HC2.out.trans hc3 fun _ _ h => h)
    have HO3 := Lib.hid (hc3.own HO.out (by simp))
    have hw := hfk.wait
    have HKH := Lib.hid hkh; have HW := Lib.hid (And.intro hw hfk.2.1)
    clear HFI2 HC2 HO hc3 hfk hkh hw
    go_wp2
    go_loopw [6] (fun o6 wr => ∃ (p : Nat) (l : List Kr) (out : List Nat), o6 = .slice (some ⟨G, 0, none⟩) p L ∧ p ≤ L ∧ OutF f p out ∧ wr.ownsRow w.heap.size 5 1 (.slice (some ⟨G, 0, none⟩) p L) p (bv out) ∧ Kh Q2 Q2 wr l ∧ WaitF f p l ∧ l.length ≤ 256 ∧ (∀ x ∈ out, x < 256) ∧ Chg (fun _ => False) w wr) (fun o6 _ => L - lenV o6)
    case atStart => exact ⟨0, l, [], rfl, Nat.zero_le _, OutF.zero _, HO3.out, HKH.out, HW.out.1, HW.out.2, by simp, HC3.out⟩
    case round =>
      clear HO3 HKH HW HC3
      obtain ⟨p, l, out, rfl, hp, hout, ho, hkh, hw, hl6, ho6, hc⟩ := hrel
      have hlen := kh_len hkh
      by_cases hlt : p < L
      · have hpos : 0 < l.length := by
          obtain ⟨s, d, hs, hd, he, kk, hkk, _⟩ := hw.some HLE.out (by rw [HSUM.out]; exact hlt)
          exact List.length_pos_of_mem hkk
        obtain ⟨m, hm⟩ : ∃ m, l.length = m := ⟨_, rfl⟩
        have hleast := kqleast_any hkh hpos
        rw [hm] at hlen hpos
        have hmI : decide ((0 : Int) < (m : Int)) = true := decide_eq_true (by omega)
        have HLEN := Lib.hid hlen; have HLST := Lib.hid hleast; have HM := Lib.hid hm
        have HOUT := Lib.hid (And.intro hout (And.intro ho (And.intro hw (And.intro hl6 (And.intro ho6 (And.intro hc hlt))))))
        clear hlen hleast hm hout ho hw hl6 ho6 hc hkh hp
        go_wp2_with fail
        refine HLEN.out.mono ?_
        rintro e w4 ⟨rfl, hw4⟩
        obtain rfl := hw4.symm
        clear HLEN
        go_wp2_with fail
        refine HLST.out.mono ?_
        rintro e w5 ⟨x, l2, rfl, hkh2, hpp, hle2, hc5⟩
        obtain ⟨hout, ho, hw, hl6, ho6, hc, hlt⟩ := HOUT.out
        obtain ⟨s, d, hs, hd, hx, he⟩ := hw.next HLE.out (by rw [HSUM.out]; exact hlt) hpp hle2
        have hF4 := HLE.out s
        have hr := keyK_right HLE.out hs hd
        have hwlast := fun h1 => hw.last hpp hs hd hx he h1
        have hwmore := fun (y : Kr) (mm : List Kr) h1 hy hm2 => hw.more (m := mm) (y := y) hpp hs hd hx he h1 hy hm2
        have hl2 : l2.length + 1 = m := by have := hpp.length_eq; rw [HM.out, List.length_cons] at this; omega
        have hm6 : m ≤ 256 := by rw [← HM.out]; exact hl6
        have hout2 := hout.step hs hd he
        have ho5 := hc5.own ho (fun k hk => by simp only [Value.ownBlock, Option.some.injEq] at hk; have := HG.out; omega)
        have hcw5 : Chg (fun _ => False) w w5 := hc.trans hc5 fun q hq he => by have := HG.out; omega
        rw [hx]
        have hkv : kv (keyK f s d) = .agg #[.int .i64 ((f s + d : Nat) : Int), .int .i64 ((f s : Nat) : Int), .int .i64 (s : Int)] := rfl
        rw [hkv]
        have hnx := fun W => knext_any (keyK f s d) W hr
        rw [hkv] at hnx
        obtain ⟨J, hJ⟩ : ∃ J, f s + d = J := ⟨_, rfl⟩
        obtain ⟨F, hF⟩ : ∃ F, f s = F := ⟨_, rfl⟩
        rw [hJ, hF] at hnx ⊢
        have hkb6 : Kb (w5.alloc (.cells #[.int .i64 (J : Int), .int .i64 (F : Int), .int .i64 (s : Int)] 74)) w5.heap.size 74 ⟨(J : Int), (F : Int), (s : Int)⟩ := heap_alloc_new w5 _
        have hc6 := Chg.alloc (fun _ => False) w5 (.cells #[.int .i64 (J : Int), .int .i64 (F : Int), .int .i64 (s : Int)] 74)
        have ho6' := ho5.alloc (.cells #[.int .i64 (J : Int), .int .i64 (F : Int), .int .i64 (s : Int)] 74)
        obtain ⟨w6, hw6⟩ : ∃ w6, w5.alloc (.cells #[.int .i64 (J : Int), .int .i64 (F : Int), .int .i64 (s : Int)] 74) = w6 := ⟨_, rfl⟩
        rw [hw6] at hkb6 hc6 ho6'
        have hc7 := Chg.alloc (fun _ => False) w6 (.cells #[.int .u8 (s : Int)] 5)
        have ho7 := ho6'.alloc (.cells #[.int .u8 (s : Int)] 5)
        have hkb7 := hkb6.kept hc7 (by simp)
        have hblk := heap_alloc_new w6 (.cells #[.int .u8 (s : Int)] 5)
        have hnews := World.news_of_block hblk
        obtain ⟨w7, hw7⟩ : ∃ w7, w6.alloc (.cells #[.int .u8 (s : Int)] 5) = w7 := ⟨_, rfl⟩
        rw [hw7] at hc7 ho7 hkb7 hblk hnews
        obtain ⟨a0, a1, a2⟩ := hkb6.cells
        simp only [] at a0 a1 a2
        have h256 : (s : Int) % 256 = (s : Int) := by omega
        have hcw7 : Chg (fun _ => False) w5 w7 := hc6.trans hc7 fun _ _ h => h
        have hkh7 := hkh2.kept hcw7 (by simp)
        have hcw : Chg (fun _ => False) w w7 := hcw5.trans hcw7 fun _ _ h => h
        have hKG : w5.heap.size ≠ G := by have h1 := hkh2.le; have := HG.out; omega
        obtain ⟨K, hK⟩ : ∃ K, w5.heap.size = K := ⟨_, rfl⟩
        rw [hK] at hkb7 hKG a0 a1 a2
        have ho62 : ∀ x ∈ out ++ [s], x < 256 := fun x hx => by
          rcases List.mem_append.1 hx with h | h
          · exact ho6 x h
          · simp only [List.mem_singleton] at h; omega
        have HO7 := Lib.hid ho7; have HNEWS := Lib.hid hnews; have HKB7 := Lib.hid hkb7; have HNX := Lib.hid hnx
        have HREST := Lib.hid (And.intro hwlast (And.intro hwmore (And.intro hout2 (And.intro hkh7 (And.intro hcw (And.intro hl2 (And.intro hm6 (And.intro ho62 (And.intro hlt (And.intro hs (And.intro hd (And.intro hF hKG))))))))))))
        clear ho7 hnews hkb7 hnx hwlast hwmore hout2 hkh7 hcw hl2 hm6 ho62 hlt hs hd hF hKG hkv hblk hc7 hkb6 hc6 ho6' hc5 hpp hle2 hkh2 hx he hout ho hw hl6 ho6 hc HOUT HLST ho5 hcw5 hr hcw7 HM hJ
        go_wp2_with (at_builtin; refine wpList_append_fits _ rfl (.tmp 28) (.tmp 32) 51 rfl w.heap.size 5 i 1 Try.underlying51 hi hz1 G p L (bv out) rfl HO7.out ⟨w6.heap.size, 0, none⟩ 1 1 [.int .u8 (s : Int)] rfl rfl HNEWS.out (by simp [Value.oneCell']) (by have := HREST.out.2.2.2.2.2.2.2.2.1; omega) ?_)
        intro w8 ho8 hg8
        have hc8 : Chg (fun k => k = G) w7 w8 := (Chg.of_grown hg8).mono fun k _ hk => by simpa using hk
        obtain ⟨hwlast, hwmore, hout2, hkh7, hcw, hl2, hm6, ho62, hlt, hs, hd, hF, hKG⟩ := HREST.out
        have hkb8 := HKB7.out.kept hc8 hKG
        have hkh8 := hkh7.kept hc8 fun k hk _ he => by have := HG.out; omega
        have hcw8 : Chg (fun _ => False) w w8 := hcw.trans hc8 fun q hq he => by have := HG.out; omega
        have ho8' : w8.ownsRow w.heap.size 5 1 (.slice (some ⟨G, 0, none⟩) (p + 1) L) (p + 1) (bv (out ++ [s])) := by
          have : bv (out ++ [s]) = bv out ++ [.int .u8 (s : Int)] := by simp [bv]
          rw [this]; exact ho8
        have hld := hkb8.loadF
        unfold kv at hld
        simp only [] at hld
        obtain ⟨e0, e1, e2⟩ := hkb8.cells
        simp only [] at e0 e1 e2
        have HO8 := Lib.hid ho8'; have HKH8 := Lib.hid hkh8; have HCW8 := Lib.hid hcw8
        have HR2 := Lib.hid (And.intro hwlast (And.intro hwmore (And.intro hout2 (And.intro hl2 (And.intro hm6 (And.intro ho62 (And.intro hlt (And.intro hs (And.intro hd hF)))))))))
        clear ho8 hg8 hc8 hwlast hwmore hout2 hkh7 hcw hl2 hm6 ho62 hlt hs hd hF hKG hkb8 hkh8 hcw8 ho8' HREST HKB7 HO7 HNEWS hw6 hw7 a0 a1 a2 hK
        go_wp2_with fail
        refine (HNX.out _).mono ?_
        rintro e w9 ⟨rfl, hc9⟩
        obtain ⟨hwlast, hwmore, hout2, hl2, hm6, ho62, hlt, hs, hd, hF⟩ := HR2.out
        have ho9 := hc9.own HO8.out (by simp)
        have hkh9 := HKH8.out.kept hc9 (by simp)
        have hcw9 : Chg (fun _ => False) w w9 := HCW8.out.trans hc9 fun _ _ h => h
        by_cases hd1 : d + 1 < f s
        · obtain ⟨hrr, hnk⟩ := nextK_more HLE.out hs hd1
          rw [decide_eq_true hrr, hnk]
          have hkv : kv (keyK f s (d + 1)) = .agg #[.int .i64 ((f s + (d + 1) : Nat) : Int), .int .i64 ((f s : Nat) : Int), .int .i64 (s : Int)] := rfl
          rw [hkv, hF]
          obtain ⟨J2, hJ2⟩ : ∃ J2, F + (d + 1) = J2 := ⟨_, rfl⟩
          rw [hJ2]
          have hc10 := Chg.alloc (fun _ => False) w9 (.cells #[.int .i64 (J2 : Int), .int .i64 (F : Int), .int .i64 (s : Int)] 74)
          have hkh10 := hkh9.kept hc10 (by simp)
          have ho10 := hc10.own ho9 (by simp)
          obtain ⟨y, hy⟩ : ∃ y : Kr, y.1 = keyK f s (d + 1) := ⟨⟨keyK f s (d + 1), keyK_right HLE.out hs hd1⟩, rfl⟩
          have hadd := kqadd_any y hkh10 (by omega)
          rw [hy] at hadd
          simp only [hkv, hF, hJ2] at hadd
          have hwm := fun mm hm2 => hwmore y mm hd1 hy hm2
          have HADD := Lib.hid hadd
          have HE := Lib.hid (And.intro hwm (And.intro ho10 (And.intro hout2 (And.intro (hcw9.trans hc10 fun _ _ h => h) (And.intro hl2 (And.intro hm6 (And.intro ho62 hlt)))))))
          clear hrr hnk hkv hJ2 hc10 hkh10 ho10 hadd hwm hwlast hwmore hout2 hl2 hm6 ho62 hlt hs hd hF ho9 hkh9 hcw9 hc9 HR2 HCW8 HKH8 HO8 HNX hld e0 e1 e2 hd1 hy
          go_wp2_with fail
          refine HADD.out.mono ?_
          rintro e w11 ⟨rfl, l3, hkh11, hp11, hc11⟩
          obtain ⟨hwm, ho10, hout2, hcw10, hl2, hm6, ho62, hlt⟩ := HE.out
          have HFIN := Lib.hid (show p + 1 ≤ L ∧ OutF f (p + 1) (out ++ [s]) ∧ w11.ownsRow w.heap.size 5 1 (.slice (some ⟨G, 0, none⟩) (p + 1) L) (p + 1) (bv (out ++ [s])) ∧ Kh Q2 Q2 w11 l3 ∧ WaitF f (p + 1) l3 ∧ l3.length ≤ 256 ∧ (∀ x ∈ out ++ [s], x < 256) ∧ Chg (fun _ => False) w w11 from
            ⟨by omega, hout2, hc11.own ho10 (fun k hk => by simp only [Value.ownBlock, Option.some.injEq] at hk; have := HG.out; omega), hkh11, hwm _ hp11, by have := hp11.length_eq; rw [List.length_cons] at this; omega, ho62, hcw10.trans hc11 fun q hq he => by have := HG.out; omega⟩)
          have HLT := Lib.hid hlt
          clear hwm ho10 hout2 hcw10 hl2 hm6 ho62 hlt hkh11 hp11 hc11 HADD HE
          go_wp2
          go_roundw
          case rel => exact ⟨p + 1, l3, out ++ [s], rfl, HFIN.out⟩
          case measure => have := HLT.out; simp [lenV]; omega
        · obtain ⟨hrr, hnk⟩ := nextK_last hd1
          rw [decide_eq_false hrr, hnk]
          have hkv : kv ⟨0, 0, 0⟩ = .agg #[.int .i64 0, .int .i64 0, .int .i64 0] := rfl
          rw [hkv]
          have hc10 := Chg.alloc (fun _ => False) w9 (.cells #[.int .i64 0, .int .i64 0, .int .i64 0] 74)
          have hkh10 := hkh9.kept hc10 (by simp)
          have ho10 := hc10.own ho9 (by simp)
          have HFIN := Lib.hid (show p + 1 ≤ L ∧ OutF f (p + 1) (out ++ [s]) ∧ (w9.alloc (.cells #[.int .i64 0, .int .i64 0, .int .i64 0] 74)).ownsRow w.heap.size 5 1 (.slice (some ⟨G, 0, none⟩) (p + 1) L) (p + 1) (bv (out ++ [s])) ∧ Kh Q2 Q2 (w9.alloc (.cells #[.int .i64 0, .int .i64 0, .int .i64 0] 74)) l2 ∧ WaitF f (p + 1) l2 ∧ l2.length ≤ 256 ∧ (∀ x ∈ out ++ [s], x < 256) ∧ Chg (fun _ => False) w (w9.alloc (.cells #[.int .i64 0, .int .i64 0, .int .i64 0] 74)) from
            ⟨by omega, hout2, ho10, hkh10, hwlast hd1, by omega, ho62, hcw9.trans hc10 fun _ _ h => h⟩)
          have HLT := Lib.hid hlt
          clear hrr hnk hkv hc10 hkh10 ho10 hwlast hwmore hout2 hl2 hm6 ho62 hlt hs hd hF ho9 hkh9 hcw9 hc9 HR2 HCW8 HKH8 HO8 HNX hld e0 e1 e2 hd1
          go_wp2
          go_roundw
          case rel => exact ⟨p + 1, l2, out ++ [s], rfl, HFIN.out⟩
          case measure => have := HLT.out; simp [lenV]; omega
      · obtain rfl : p = L := by omega
        have hnil := hw.none (by rw [HSUM.out]; exact Nat.le_refl _)
        rw [hnil] at hlen
        have hout2 : OutF f (sumTo f 256) out := by rw [HSUM.out]; exact hout
        have hsp := hout2.all
        have hown : OwnB wr w.heap.size (.slice (some ⟨G, 0, none⟩) out.length p) out := by
          refine ⟨G, 0, p, rfl, HG.out.1, (ho.lt G rfl).2, fun j hj => ?_, fun j => by rw [Nat.zero_add]; exact ho.frozenAt j⟩
          rw [Nat.zero_add, ho.cellAt j (by have := hout.1; omega)]
          simp [bv, List.getD_eq_getElem?_getD, List.getElem?_eq_getElem hj]
        have HLEN := Lib.hid hlen; have HE := Lib.hid (And.intro hout.1 (And.intro hsp (And.intro hown hc)))
        clear hlen hnil hout2 hsp hown hout ho hkh hw hl6 ho6 hc hlt hp
        go_wp2_with fail
        refine HLEN.out.mono ?_
        rintro e w4 ⟨rfl, hw4⟩
        obtain rfl := hw4.symm
        clear HLEN
        go_wp2
        go_ret2
        obtain ⟨h1, h2, h3, h4⟩ := HE.out
        refine ⟨_, by rw [if_neg HK.out]; rfl, fun _ => ⟨out, ?_, by rw [HF.out]; exact h2⟩, fun h => absurd h HK.out, h4⟩
        rw [h1] at h3
        exact h3

end Go.Proofs.Ytkdfifkmgpogfaa

/- What spread's Of, Place and Log tell. THIS ALONE SPEAKS OF THE PROGRAM'S OWN TEXT (with SpProgA, and KqBase, KqHeap, KqSwap, KqOps: its queue). -/
namespace Go.Proofs.Ytkdfifkmgpogfaa
open Go.RowKit

/-- is there such a key? -/
def isKey (q : List Int) (s i : Int) : Prop := logI (totalI q) ≠ 0 ∧ 0 ≤ s ∧ s ≤ 255 ∧ q.getD s.toNat 0 ≤ i ∧ i < 2 * q.getD s.toNat 0
instance isKey_dec (q : List Int) (s i : Int) : Decidable (isKey q s i) := by unfold isKey; infer_instance
def placeI (q : List Int) (s i : Int) : Nat := if isKey q s i then placeF (fq q) 256 s.toNat i.toNat else 0

end Go.Proofs.Ytkdfifkmgpogfaa

/- What etab's New tells, and what a Table is in memory. THIS SPEAKS OF THE PROGRAM'S OWN TEXT. -/
namespace Go.Proofs.Ytkdfifkmgpogfaa
open Go.RowKit Go.Maps Go.ChangeShapes

/-- a Table in memory -/
def EtOk (w : World) (a : Addr) (q : List Int) : Prop :=
  ∃ ga base b n l, a = ⟨ga, 0, none⟩ ∧ n ≤ 100000 ∧ w.heap[ga]? = some (.cells #[.int .i64 ((logI (totalI q) : Nat) : Int), .map (some b)] 56 (0, 0)) ∧ IsSpread (fq q) 256 l ∧ Gm w base b n (fun s => posL l s l.length)
theorem EtOk.kept {w w' : World} {a : Addr} {q : List Int} (h : EtOk w a q) (hc : Chg (fun _ => False) w w') : EtOk w' a q := by
  obtain ⟨ga, base, b, n, l, rfl, hn, hb, hl, hg⟩ := h
  exact ⟨ga, base, b, n, l, rfl, hn, (hc.block ga (lt_of_block hb) (fun h => h)).trans hb, hl, hg.kept hc⟩

set_option maxHeartbeats 2000000 in
set_option maxRecDepth 100000 in
theorem enew_any (v : Value) (q : List Int) (w : World) (h : RdI w v q) (hb : ∀ z ∈ q, -9223372036854775808 ≤ z ∧ z ≤ 9223372036854775807) (hl : q.length < 100000000000) :
    Calls Try.prog 10 #[v] w fun e w' => (logI (totalI q) = 0 → e = .returned (.tuple #[.pointer none, .int .i64 1])) ∧ (logI (totalI q) ≠ 0 → ∃ a, e = .returned (.tuple #[.pointer (some a), .int .i64 0]) ∧ EtOk w' a q) ∧ Chg (fun _ => False) w w' := by
  have hsp := sof_any v q w h hb hl
  unfold SpreadSays at hsp
  by_cases hk : logI (totalI q) = 0
  · obtain ⟨ao, cap, rfl⟩ := h.form
    have HSP := Lib.hid hsp; have HK := Lib.hid hk
    clear hb hl hk h hsp
    go_enter Try.func10, Try.ntmps10
    go_wp2_with fail
    refine HSP.out.mono ?_
    rintro e w1 ⟨v1, rfl, -, h2, hc⟩
    rw [if_pos HK.out]
    have HC := Lib.hid hc
    clear hc h2 HSP
    go_wp2
    go_ret2
    exact ⟨fun _ => rfl, fun h => absurd HK.out h, HC.out⟩
  · have hq := normQ_of hk
    have hlog := fun W (hc : Chg (fun _ => False) w W) => slog_any v q W (h.kept hc (by simp)) hb hl
    obtain ⟨ao, cap, rfl⟩ := h.form
    have HSP := Lib.hid hsp; have HK := Lib.hid hk; have HLOG := Lib.hid hlog
    obtain ⟨k, hke⟩ : ∃ k, logI (totalI q) = k := ⟨_, rfl⟩
    rw [hke] at hq HLOG HSP
    have hsum := hq.sum
    have HQ := Lib.hid (show sumTo (fq q) 256 = 2 ^ k ∧ 2 ^ k ≤ 4096 from ⟨hsum, hq.size⟩)
    obtain ⟨n, hn⟩ : ∃ n, q.length = n := ⟨_, rfl⟩
    rw [hn] at HSP HLOG ⊢
    obtain ⟨f, hf⟩ : ∃ f, fq q = f := ⟨_, rfl⟩
    rw [hf] at HSP HQ
    have HF := Lib.hid hf; have HKE := Lib.hid hke
    obtain ⟨L, hL⟩ : ∃ L, 2 ^ k = L := ⟨_, rfl⟩
    have HL := Lib.hid hL
    have hL4 : (L : Int) ≤ 4096 := by have := HQ.out.2; omega
    have hkk : ¬ k = 0 := by rw [← hke]; exact hk
    clear hb hl hk h hsp hlog hq hsum hn hf hke hL
    have hmm := @run_makeMap Try.prog
    obtain ⟨i0, hi, hz0, hz1, hz2⟩ := info_parts Try.infoInt
    go_enter Try.func10, Try.ntmps10
    go_wp2_with fail
    refine HSP.out.mono ?_
    rintro e w1 ⟨v1, rfl, h1, -, hc1⟩
    obtain ⟨sl, hos, hspr⟩ := h1 hkk
    rw [if_neg hkk]
    obtain ⟨asl, psl, rfl⟩ := hos.rd.form
    have hsl : sl.length = L := by rw [hspr.len, HQ.out.1, HL.out]
    have hsx : ∀ x ∈ sl, x < 256 := fun x hx => by
      obtain ⟨p, hp, rfl⟩ := List.getElem_of_mem hx
      have := hspr.is (p := p) (s := sl.getD p 0) hp rfl
      rw [List.getD_eq_getElem?_getD, List.getElem?_eq_getElem hp] at this
      exact this.1
    have hm1 := Gm.made w1
    have hc2 := Chg.alloc (fun _ => False) w1 (.map #[] 0)
    have HOS := Lib.hid hos.rd; have HSPR := Lib.hid hspr; have HC1 := Lib.hid hc1; have HSL := Lib.hid hsl; have HSX := Lib.hid hsx
    rw [hsl] at HOS ⊢
    obtain ⟨B, hB⟩ : ∃ B, w1.heap.size = B := ⟨_, rfl⟩
    rw [hB] at hm1
    have HB := Lib.hid hB; have HM1 := Lib.hid hm1; have HC2 := Lib.hid hc2
    clear HSP hos hspr hc1 hsl hkk h1 hm1 hc2 hsx
    go_wp2
    go_loopw [20] (fun i wr => ∃ p : Nat, p ≤ L ∧ i = .int .i64 p ∧ Gm wr (B + 1) B p (fun s => posL sl s p) ∧ Chg (fun _ => False) w1 wr) (fun i _ => L - (intOf i).toNat)
    case atStart => exact ⟨0, Nat.zero_le _, rfl, HM1.out.congr fun s _ => rfl, HC2.out⟩
    case round =>
      obtain ⟨p, hp, rfl, ⟨D, hown, him, hat⟩, hc⟩ := hrel
      by_cases hlt : p < L
      · obtain ⟨gs, offs, rfl, hscell⟩ := (HOS.out.kept hc (by simp)).at p (by rw [HSL.out]; exact hlt)
        have hs := getD_lt sl HSX.out p
        obtain ⟨s, hse⟩ : ∃ s, sl.getD p 0 = s := ⟨_, rfl⟩
        rw [hse] at hscell hs
        have hkey := key_u8 hs
        have hpI : (p : Int) < (L : Int) := by omega
        have HSE := Lib.hid hse; have HAT := Lib.hid hat; have HIM := Lib.hid him; have HC := Lib.hid hc; have HS := Lib.hid hs
        have hBs : B + 1 ≤ wr.heap.size := by have h1 := hown; obtain ⟨es, ck, hb1, _⟩ := h1; have := (Array.getElem?_eq_some_iff.1 hb1).1; omega
        clear hse hat him hc
        go_wp2_with (first
          | (at_lookup; refine wpList_lookup_groups _ rfl _ _ 54 rfl 5 22 3 .i64 keyU8 Try.underlying54 (zeroInts _) (B + 1) B p _ rfl hown (by unfold maxLen; omega) _ _ rfl hkey ?_; intro v zs hat0 hoi hzl hback)
          | (at_builtin; refine wpList_append_own_at _ rfl _ _ 22 rfl (B + 1) 3 i0 (.int .i64 0) 1 8 Try.underlying22 hi hz0 hz1 hz2 rfl (by decide) _ _ _ rfl (hoi.1.alloc _) ⟨wr.heap.size, 0, none⟩ 1 1 [.int .i64 p] rfl rfl (cell_one_new _ _ _) (ints_oneCell .i64 [(p : Int)]) (by unfold maxLen; omega) (by omega) (by simp; omega) ?_; intro v' w5 hown' hgrow hnil hloc)
          | (at_mapUpdate; refine wpList_mapUpdate_back _ rfl _ _ _ 54 rfl hback rfl rfl rfl ((World.grownBy_alloc _ _ _).trans hgrow) (hoi.appended hown' (WalkArith.wf_i64 (by omega))) (by simp; omega) (hloc.imp id (fun h => ⟨_, h, by simp⟩)) ?_; intro w6 hown2 hgrow2)
          | go_in)
        have hall := (World.grownBy_alloc wr _ _).trans hgrow
        go_roundw
        case rel =>
          have hz := datL_own hoi (hat0.symm.trans (HAT.out s HS.out))
          have hown3 := hoi.appended hown' (WalkArith.wf_i64 (by omega))
          have hg6 := (Gm.put HS.out HIM.out HAT.out (by simp) hown3 hown2).congr (g' := fun t => posL sl t (p + 1)) fun t ht => (by
            by_cases e : t = s
            · rw [if_pos e, hz, e, posL_hit HSE.out]
            · rw [if_neg e, posL_miss (by rw [HSE.out]; exact fun h => e h.symm)])
          have hc5 := HC.out.trans (Chg.of_grown hall) fun k hk he => by have := (hoi.1.lt k he.symm).1; have := HB.out; omega
          have hc6 := hc5.trans (Chg.of_grown hgrow2) fun k hk he => by simp only [Option.some.injEq] at he; have := HB.out; omega
          exact ⟨p + 1, by omega, by go_num, hg6, hc6⟩
        case measure => simp [intOf]; omega
      · obtain rfl : p = L := by omega
        have HC := Lib.hid hc
        have HG := Lib.hid (show Gm wr (B + 1) B p (fun s => posL sl s p) from ⟨D, hown, him, hat⟩)
        have HP4 := Lib.hid hL4
        clear hc hown him hat hlt hmm
        go_wp2_with fail
        refine (HLOG.out wr (HC1.out.trans HC.out fun _ _ h => h)).mono ?_
        rintro e w7 ⟨rfl, hc7⟩
        have HC7 := Lib.hid hc7
        clear hc7
        go_wp2
        have hc8 := Chg.alloc (fun _ => False) w7 (.cells #[.int .i64 (k : Int), .map (some B)] 56)
        go_ret2
        refine ⟨fun h => absurd h HK.out, fun _ => ⟨⟨w7.heap.size, 0, none⟩, rfl, w7.heap.size, B + 1, B, p, sl, rfl, by have := HP4.out; omega, ?_, by rw [HF.out]; exact HSPR.out, ?_⟩, ?_⟩
        · rw [HKE.out]; exact heap_alloc_new w7 _
        · rw [HSL.out]; exact (HG.out.kept HC7.out).kept hc8
        · exact ((HC1.out.trans HC.out fun _ _ h => h).trans HC7.out fun _ _ h => h).trans hc8 fun _ _ h => h

end Go.Proofs.Ytkdfifkmgpogfaa

/- What etab's New (EtProgB), Log, Count and Step tell. THIS SPEAKS OF THE PROGRAM'S OWN TEXT. -/
namespace Go.Proofs.Ytkdfifkmgpogfaa
open Go.RowKit

/-- a block that holds a Table -/
def Tbk (w : World) (g : Nat) (k : Int) (b : Nat) : Prop := w.heap[g]? = some (.cells #[.int .i64 k, .map (some b)] 56 (0, 0))
theorem Tbk.cells {w : World} {g : Nat} {k : Int} {b : Nat} (h : Tbk w g k b) : w.cell? ⟨g, 0, none⟩ = some (.int .i64 k) ∧ w.cell? ⟨g, 1, none⟩ = some (.map (some b)) := by
  refine ⟨?_, ?_⟩
  · rw [cell_of_row _ _ 0 _ _ _ h]; rfl
  · rw [cell_of_row _ _ 1 _ _ _ h]; rfl
theorem Tbk.kept {S : Nat → Prop} {w w' : World} {g : Nat} {k : Int} {b : Nat} (h : Tbk w g k b) (hc : Chg S w w') (hS : ¬ S g) : Tbk w' g k b := (hc.block g (lt_of_block h) hS).trans h

theorem elog_any (a : Addr) (q : List Int) (k : Nat) (w : World) (h : EtOk w a q) (hq : NormQ q k) :
    Calls Try.prog 12 #[.pointer (some a)] w fun e w' => e = .returned (.int .i64 (k : Int)) ∧ Chg (fun _ => False) w w' := by
  obtain ⟨ga, base, b, n, l, rfl, hn, hb, hl, hg⟩ := h
  rw [hq.log] at hb
  obtain ⟨c0, c1⟩ := Tbk.cells hb
  clear hb hl hg hq
  go_enter Try.func12, Try.ntmps12
  go_wp2
  go_ret
  exact ⟨rfl, Chg.refl _ _⟩

theorem ecount_any (a : Addr) (q : List Int) (k s : Nat) (w : World) (h : EtOk w a q) (hq : NormQ q k) (hs : s < 256) :
    Calls Try.prog 13 #[.pointer (some a), .int .u8 (s : Int)] w fun e w' => e = .returned (.int .i64 ((fq q s : Nat) : Int)) ∧ Chg (fun _ => False) w w' := by
  obtain ⟨ga, base, b, n, l, rfl, hn, hb, hl, hg⟩ := h
  obtain ⟨c0, c1⟩ := Tbk.cells hb
  obtain ⟨v, hrun, hrd⟩ := hg.look hn hs
  have hlen := hl.pos_length hs
  obtain ⟨ao, cap, rfl⟩ := hrd.form
  rw [hlen] at hrun
  clear hb hl hg hq hrd hlen
  go_enter Try.func13, Try.ntmps13
  go_wp2
  go_ret
  exact ⟨rfl, Chg.refl _ _⟩

/-- a number is laid into a block -/
def N2 (w : World) (g : Nat) (y b : Int) : World := (w.setCell ⟨g, 0, none⟩ (.int .i64 y)).setCell ⟨g, 1, none⟩ (.int .i64 b)
theorem N2_chg (w : World) (g : Nat) (y b : Int) : Chg (fun q => q = g) w (N2 w g y b) := (Chg.setCell w ⟨g, 0, none⟩ _).trans (Chg.setCell _ ⟨g, 1, none⟩ _) fun _ _ h => h
theorem N2_nb {w : World} {g : Nat} {y0 b0 : Int} (h : Nb w g y0 b0) (y b : Int) : Nb (N2 w g y b) g y b :=
  heap_setCell_same _ g 1 _ _ (.int .i64 b) (heap_setCell_same w g 0 _ _ (.int .i64 y) h)
theorem Nb.free {w : World} {g : Nat} {y b : Int} (h : Nb w g y b) (k : Nat) : w.frozen? ⟨g, k, none⟩ = false := frozen_of_row w g k _ _ h
theorem zeroNumber (W : World) : (zeroValue 62).run Try.prog W = .ok (.agg #[.int .i64 0, .int .i64 0]) W := by kernel_rfl

set_option maxHeartbeats 2000000 in
set_option maxRecDepth 100000 in
theorem estep_any (a : Addr) (q : List Int) (k : Nat) (x : Int) (s : Nat) (w : World) (h : EtOk w a q) (hq : NormQ q k) (hs : s < 256) (hx : -9223372036854775808 ≤ x ∧ x ≤ 9223372036854775807) :
    Calls Try.prog 15 #[.pointer (some a), .int .i64 x, .int .u8 (s : Int)] w fun e w' => EncSays q k x s e ∧ Chg (fun _ => False) w w' := by
  obtain ⟨ga, base, b, n, l, rfl, hn, hb, hl, hg⟩ := h
  rw [hq.log] at hb
  obtain ⟨c0, c1⟩ := Tbk.cells hb
  obtain ⟨v, hrun, hrd⟩ := hg.look hn hs
  have hlen := hl.pos_length hs
  have hle := hq.le s
  have hsz := hq.size
  have hk12 := hq.2.2.2.2
  have hfl := f_le (f := fq q) (R := k) hq.sum hs
  obtain ⟨ao, cap, rfl⟩ := hrd.form
  rw [hlen] at hrun
  have hk64 : (k : Int) < 64 := by omega
  obtain ⟨L, hL⟩ : ∃ L, 2 ^ k = L := ⟨_, rfl⟩
  have hLI : (2 : Int) ^ k = (L : Int) := by rw [← hL]; simp
  have hwL : IntKind.i64.wrap (L : Int) = (L : Int) := by rw [IntKind.wrap_i64]; omega
  obtain ⟨F, hF⟩ : ∃ F, fq q s = F := ⟨_, rfl⟩
  have HF := Lib.hid hF; have HL := Lib.hid hL
  rw [hF] at hrun hle hfl
  rw [hL] at hsz hfl
  by_cases hcan : eCan q k x s
  · obtain ⟨hx0, hxL, hF0⟩ := hcan
    rw [hL] at hxL
    rw [hF] at hF0
    obtain ⟨X, rfl⟩ : ∃ X : Nat, x = (X : Int) := ⟨x.toNat, by omega⟩
    have hXL : X < L := by omega
    have hcan : eCan q k (X : Int) s := ⟨by omega, by rw [hL]; omega, by rw [hF]; omega⟩
    have HEND := Lib.hid fun (r : Nat) (hr : lefts F (L + X) r) => (show EncSays q k (X : Int) s (.returned (.tuple #[.int .i64 ((placeF (fq q) 256 s ((L + X) / 2 ^ r) : Nat) : Int), .int .i64 (r : Int), .int .u32 (((L + X) % 2 ^ r : Nat) : Int), .bool true])) from
      ⟨fun h => absurd hcan h, fun _ => ⟨r, by rw [hF, hL, Int.toNat_natCast]; exact hr, by rw [hL, Int.toNat_natCast]⟩⟩)
    have HLEFT := Lib.hid fun (r : Nat) (hr : LeastBits (L + X) (2 * (F : Int)) k r) => (show lefts F (L + X) r ∧ r ≤ k from by
      obtain ⟨h1, h2, h3⟩ := hr
      refine ⟨?_, h1⟩
      rw [← hL]
      rw [← hL] at h2 h3
      exact lefts_least (by omega) (by omega) (by omega) h1 (fun m hm => by have := h2 m hm; omega) fun m h4 h5 => by have := h3 m h4 h5; omega)
    have HROW := Lib.hid fun (d : Nat) (hd : d < F) W (hc : Chg (fun _ => False) w W) => (show ∃ g off, ao = some ⟨g, off, none⟩ ∧ W.cell? ⟨g, off + d, none⟩ = some (.int .i64 ((placeF (fq q) 256 s (F + d) : Nat) : Int)) from by
      obtain ⟨g, off, h1, h2⟩ := (hrd.kept hc (by simp)).at d (by rw [hlen, hF]; exact hd)
      refine ⟨g, off, h1, ?_⟩
      have h3 := hl.pos hs (d := d) (by rw [hF]; exact hd)
      rw [h2, List.getD_eq_getElem?_getD, h3, hF]; rfl)
    have HTB := Lib.hid (show Tbk w ga (k : Int) b from hb)
    have hy5 : L + X ≤ 100000 := by omega
    have hyI : (L : Int) + (X : Int) = ((L + X : Nat) : Int) := by omega
    have d1 : decide ((X : Int) < 0) = false := decide_eq_false (by omega)
    have d2 : decide ((L : Int) ≤ (X : Int)) = false := decide_eq_false (by omega)
    have d3 : ((F : Int) == 0) = false := by simp; omega
    have d4 : ¬ L ≤ X := by omega
    have d5 : ¬ F = 0 := by omega
    obtain ⟨Y, hY⟩ : ∃ Y, L + X = Y := ⟨_, rfl⟩
    rw [hY] at HEND HLEFT hy5 hyI
    have hw1 : IntKind.i64.wrap (Y : Int) = (Y : Int) := by rw [IntKind.wrap_i64]; omega
    have hw2 : IntKind.i64.wrap (2 * (F : Int)) = 2 * (F : Int) := by rw [IntKind.wrap_i64]; omega
    have hz := zeroNumber
    have hnb := N2_nb (Nb.made w 0 0) (Y : Int) (2 * (F : Int))
    have hnb0 := Nb.made w 0 0
    have hca := (Chg.alloc (fun _ => False) w (.cells #[.int .i64 0, .int .i64 0] 62)).trans (N2_chg _ w.heap.size (Y : Int) (2 * (F : Int))) fun q hq he => by omega
    obtain ⟨W0, hW0⟩ : ∃ W0, w.alloc (.cells #[.int .i64 0, .int .i64 0] 62) = W0 := ⟨_, rfl⟩
    rw [hW0] at hnb hnb0 hca
    obtain ⟨G, hG⟩ : ∃ G, w.heap.size = G := ⟨_, rfl⟩
    rw [hG] at hnb hnb0 hca
    obtain ⟨z0, z1⟩ := hnb0.cells
    have f0 := hnb0.free 0
    have f1 := hnb0.free 1
    unfold N2 at hnb hca
    obtain ⟨W1, hW1⟩ : ∃ W1, (W0.setCell ⟨G, 0, none⟩ (.int .i64 (Y : Int))).setCell ⟨G, 1, none⟩ (.int .i64 (2 * (F : Int))) = W1 := ⟨_, rfl⟩
    rw [hW1] at hnb hca
    obtain ⟨y0, y1⟩ := hnb.cells
    obtain ⟨t0, t1⟩ := (HTB.out.kept hca (fun h => h)).cells
    have HNB := Lib.hid hnb; have HCA := Lib.hid hca
    have HSE := Lib.hid fun W => esearch_any Y k (2 * (F : Int)) W hy5 (by omega)
    have HWO := Lib.hid fun (r : Nat) (hr : r ≤ 60) W => ewithout_any Y r (2 * (F : Int)) W hy5 hr
    have HLO := Lib.hid fun (r : Nat) (hr : r ≤ 60) W => elowest_any Y r (2 * (F : Int)) W hy5 hr (Nat.div_mul_le_self _ _)
    have HK12 := Lib.hid hk12; have HF4 := Lib.hid (show F ≤ 4096 from hle)
    clear hb hl hg hrd hlen hq hcan hF hL hfl hnb hca hnb0 hY hn hle hsz hXL hxL hx0
    go_enter Try.func15, Try.ntmps15
    go_wp2
    go_region_held3 (fun W => W.cell? ⟨ga, 0, none⟩ = some (.int .i64 (k : Int)) ∧ W.cell? ⟨G, 0, none⟩ = some (.int .i64 (Y : Int)) ∧ W.cell? ⟨G, 1, none⟩ = some (.int .i64 (2 * (F : Int)))) (first | exact ⟨t0, y0, y1⟩ | exact ⟨k0, k1, k2⟩) (first
      | (go_at_call 27; refine (HSE.out _).mono ?_; rintro e w1 ⟨⟨r, rfl, hr⟩, hc1⟩; have hc2 := (Chg.refl (fun _ => False) W1).drew.trans hc1 fun _ _ h => h; obtain ⟨k1, k2⟩ := (HNB.out.kept hc2 (fun h => h)).cells; have k0 := ((HTB.out.kept HCA.out (fun h => h)).kept hc2 (fun h => h)).cells.1; have HN2 := Lib.hid (HNB.out.kept hc2 (fun h => h)); have HC2 := Lib.hid (HCA.out.trans hc2 fun _ _ h => h); have HR := Lib.hid (HLEFT.out r hr); clear hc1 hc2 hr))
    have hr60 : r ≤ 60 := by have := HR.out.2; have := HK12.out; omega
    have HR1 := Lib.hid HR.out.1
    have HWR := Lib.hid (HWO.out r hr60)
    have HLR := Lib.hid (HLO.out r hr60)
    have hZ := HR.out.1
    unfold lefts at hZ
    have HE := Lib.hid (HEND.out r HR1.out)
    obtain ⟨Z, hZe⟩ : ∃ Z, Y / 2 ^ r = Z := ⟨_, rfl⟩
    rw [hZe] at hZ HWR HE
    obtain ⟨M, hMe⟩ : ∃ M, Y % 2 ^ r = M := ⟨_, rfl⟩
    rw [hMe] at HLR HE
    obtain ⟨d, hd⟩ : ∃ d, Z = F + d := ⟨Z - F, by omega⟩
    have hdF : d < F := by omega
    have hZd : (Z : Int) - (F : Int) = (d : Int) := by omega
    obtain ⟨gr, off, rfl, hq0⟩ := HROW.out d hdF w1 HC2.out
    have HQ := Lib.hid fun (W : World) (hc : Chg (fun _ => False) w W) => (show W.cell? ⟨gr, off + d, none⟩ = some (.int .i64 ((placeF (fq q) 256 s Z : Nat) : Int)) from by
      obtain ⟨g', off', h1, h2⟩ := HROW.out d hdF W hc
      simp only [Option.some.injEq, Addr.mk.injEq] at h1
      obtain ⟨rfl, rfl, -⟩ := h1
      rw [h2, hd])
    rw [← hd] at hq0
    obtain ⟨PL, hPL⟩ : ∃ PL, placeF (fq q) 256 s Z = PL := ⟨_, rfl⟩
    rw [hPL] at HQ HE hq0
    have hdFI : (d : Int) < (F : Int) := by omega
    have hwd : IntKind.i64.wrap (d : Int) = (d : Int) := by have := HF4.out; rw [IntKind.wrap_i64]; omega
    clear hZ hZe hMe hd hPL HROW HSE HLO HWO HLEFT HEND HR
    go_wp2
    go_region_held3 (fun W => W.cell? ⟨gr, off + d, none⟩ = some (.int .i64 (PL : Int)) ∧ W.cell? ⟨G, 0, none⟩ = some (.int .i64 (Y : Int)) ∧ W.cell? ⟨G, 1, none⟩ = some (.int .i64 (2 * (F : Int)))) (first | exact ⟨hq0, k1, k2⟩ | exact ⟨m0, m1, m2⟩ | exact ⟨n0, n1, n2⟩) (first
      | (go_at_call 29; refine (HWR.out _).mono ?_; rintro e w2 ⟨rfl, hc3⟩; have HC3 := Lib.hid (HC2.out.trans ((Chg.refl (fun _ => False) w1).drew.trans hc3 fun _ _ h => h) fun _ _ h => h); obtain ⟨m1, m2⟩ := (HN2.out.kept ((Chg.refl (fun _ => False) w1).drew.trans hc3 fun _ _ h => h) (fun h => h)).cells; have m0 := HQ.out w2 HC3.out; have HN3 := Lib.hid (HN2.out.kept ((Chg.refl (fun _ => False) w1).drew.trans hc3 fun _ _ h => h) (fun h => h)); clear hc3)
      | (go_at_call 30; refine (HLR.out _).mono ?_; rintro e w3 ⟨rfl, hc4⟩; have HC4 := Lib.hid (HC3.out.trans hc4 fun _ _ h => h); obtain ⟨n1, n2⟩ := (HN3.out.kept hc4 (fun h => h)).cells; have n0 := HQ.out w3 HC4.out; clear hc4))
    go_wp2
    go_returns
    exact ⟨HE.out, HC4.out⟩
  · have HN := Lib.hid (show EncSays q k x s (.returned (.tuple #[.int .i64 0, .int .i64 0, .int .u32 0, .bool false])) from ⟨fun _ => rfl, fun hc => absurd hc hcan⟩)
    have hway : x < 0 ∨ (¬ x < 0 ∧ (L : Int) ≤ x) ∨ (¬ x < 0 ∧ ¬ (L : Int) ≤ x ∧ F = 0) := by
      by_cases h1 : x < 0
      · exact .inl h1
      · by_cases h2 : (L : Int) ≤ x
        · exact .inr (.inl ⟨h1, h2⟩)
        · refine .inr (.inr ⟨h1, h2, ?_⟩)
          by_cases h3 : F = 0
          · exact h3
          · exact absurd ⟨by omega, by rw [hL]; omega, by rw [hF]; omega⟩ hcan
    clear hb hl hg hrd hlen hq hcan hF hL hfl
    rcases hway with h1 | ⟨h1, h2⟩ | ⟨h1, h2, h3⟩
    · have d1 : decide (x < 0) = true := decide_eq_true h1
      go_enter Try.func15, Try.ntmps15
      go_wp2
      go_returns
      exact ⟨HN.out, Chg.refl _ _⟩
    · have d1 : decide (x < 0) = false := decide_eq_false h1
      have d2 : decide ((L : Int) ≤ x) = true := decide_eq_true h2
      go_enter Try.func15, Try.ntmps15
      go_wp2
      go_returns
      exact ⟨HN.out, Chg.refl _ _⟩
    · have d1 : decide (x < 0) = false := decide_eq_false h1
      have d2 : decide ((L : Int) ≤ x) = false := decide_eq_false h2
      subst h3
      go_enter Try.func15, Try.ntmps15
      go_wp2
      go_returns
      exact ⟨HN.out, Chg.refl _ _⟩

end Go.Proofs.Ytkdfifkmgpogfaa

/- The example of chapters 10 to 12: counts 5, 2, 1. -/
namespace Go.Proofs.Ytkdfifkmgpogfaa
open Go.RowKit

def exS : List Int := ((List.replicate 256 0).set 0 5).set 1 2 |>.set 2 1
theorem exS_len : exS.length = 256 := by decide +kernel
theorem exS_bnd : ∀ z ∈ exS, -9223372036854775808 ≤ z ∧ z ≤ 9223372036854775807 := by decide +kernel
theorem exS_log : logI (totalI exS) = 3 := by decide +kernel
theorem exS_spread : IsSpread (fq exS) 256 [0, 1, 2, 0, 0, 1, 0, 0] := by
  refine ⟨by decide +kernel, ?_⟩
  have h : ∀ s, s < 256 → ∀ d, d < fq exS s → ([0, 1, 2, 0, 0, 1, 0, 0] : List Nat).getD (placeF (fq exS) 256 s (fq exS s + d)) 0 = s := by decide +kernel
  exact fun s d hs hd => h s hs d hd

end Go.Proofs.Ytkdfifkmgpogfaa

/- What puncheonlaw12.awake tells: the chapter's example holds. -/
namespace Go.Proofs.Ytkdfifkmgpogfaa
open Go.RowKit

theorem exS_norm : NormQ exS 3 := by
  have := normQ_of (q := exS) (by rw [exS_log]; decide)
  rwa [exS_log] at this
theorem exS_step {e : Ending} (h : EncSays exS 3 7 1 e) : e = .returned (.tuple #[.int .i64 5, .int .i64 2, .int .u32 3, .bool true]) := by
  refine h.one ⟨fun hh => absurd (show eCan exS 3 7 1 from ⟨by decide, by decide, by decide +kernel⟩) hh, fun _ => ⟨2, by unfold lefts; decide +kernel, ?_⟩⟩
  rw [show (2 ^ 3 + (7 : Int).toNat) / 2 ^ 2 = 3 by decide, show (2 ^ 3 + (7 : Int).toNat) % 2 ^ 2 = 3 by decide, show placeF (fq exS) 256 1 3 = 5 by decide +kernel]
  rfl
theorem exS_count : fq exS 0 = 5 := by decide +kernel

set_option maxHeartbeats 2000000 in
set_option maxRecDepth 100000 in
theorem awake12_any (w : World) : Calls Try.prog 8 #[] w fun e w' => e = .returned (.bool true) ∧ Chg (fun _ => False) w w' := by
  obtain ⟨Z, hZ⟩ : ∃ Z : List Int, Z = List.replicate 256 0 := ⟨_, rfl⟩
  have hZl : Z.length = 256 := by rw [hZ]; exact List.length_replicate
  have hE : (((Z.set 0 5).set 1 2).set 2 1) = exS := by rw [hZ]; rfl
  have HZL := Lib.hid hZl; have HE := Lib.hid hE; have HZ := Lib.hid hZ
  clear hZl hE hZ
  go_enter Try.func8, Try.ntmps8
  go_wp2_with (at_make; refine wpList_make_ints rfl _ _ rfl 256 256 256 rfl rfl rfl rfl (by omega) Z HZ.out ?_)
  intro w1 r1 c1
  obtain ⟨g, hg⟩ : ∃ g, g = w.heap.size := ⟨_, rfl⟩
  rw [← hg] at r1 ⊢
  have s0 := Chg.setCell w1 ⟨g, 0, none⟩ (.int .i64 5)
  have r2 := r1.set 0 5
  have a0 := r1.cell 0 (by rw [HZL.out]; omega)
  have f0 := r1.free 0
  obtain ⟨W1, hW1⟩ : ∃ W1, w1.setCell ⟨g, 0, none⟩ (.int .i64 5) = W1 := ⟨_, rfl⟩
  rw [hW1] at s0 r2
  have s1 := Chg.setCell W1 ⟨g, 1, none⟩ (.int .i64 2)
  have r3 := r2.set 1 2
  have a1 := r2.cell 1 (by rw [List.length_set, HZL.out]; omega)
  have f1 := r2.free 1
  obtain ⟨W2, hW2⟩ : ∃ W2, W1.setCell ⟨g, 1, none⟩ (.int .i64 2) = W2 := ⟨_, rfl⟩
  rw [hW2] at s1 r3
  have s2 := Chg.setCell W2 ⟨g, 2, none⟩ (.int .i64 1)
  have r4 := r3.set 2 1
  have a2 := r3.cell 2 (by rw [List.length_set, List.length_set, HZL.out]; omega)
  have f2 := r3.free 2
  obtain ⟨W3, hW3⟩ : ∃ W3, W2.setCell ⟨g, 2, none⟩ (.int .i64 1) = W3 := ⟨_, rfl⟩
  rw [hW3] at s2 r4
  rw [HE.out] at r4
  have hc : Chg (fun _ => False) w W3 := ((c1.trans s0 (S := fun _ => False) (fun q hq hh => by simp at hh; omega)).trans s1 (fun q hq hh => by simp at hh; omega)).trans s2 (fun q hq hh => by simp at hh; omega)
  have rd := r4.rd 256
  rw [exS_len] at rd
  generalize Z.getD 0 0 = z0 at a0
  generalize (Z.set 0 5).getD 1 0 = z1 at a1
  generalize ((Z.set 0 5).set 1 2).getD 2 0 = z2 at a2
  have HRD := Lib.hid rd; have HC := Lib.hid hc
  clear rd hc r1 r2 r3 r4 s0 s1 s2 c1 HE HZ HZL hg
  go_wp2_with fail
  refine (enew_any _ exS W3 HRD.out exS_bnd (by rw [exS_len]; omega)).mono ?_
  rintro e w5 ⟨-, hyes, hc5⟩
  obtain ⟨a, rfl, hok⟩ := hyes (by rw [exS_log]; decide)
  have HOK := Lib.hid hok
  replace HC := Lib.hid (HC.out.trans hc5 fun _ _ h => h)
  clear hyes hok hc5 a0 a1 a2 f0 f1 f2 hW1 hW2 hW3 HRD
  go_wp2_with fail
  refine (estep_any a exS 3 7 1 w5 HOK.out exS_norm (by decide) (by decide)).mono ?_
  rintro e w6 ⟨he, hc6⟩
  obtain rfl := exS_step he
  replace HC := Lib.hid (HC.out.trans hc6 fun _ _ h => h)
  replace HOK := Lib.hid (HOK.out.kept hc6)
  clear he hc6
  go_wp2_with fail
  refine (elog_any a exS 3 w6 HOK.out exS_norm).mono ?_
  rintro e w7 ⟨rfl, hc7⟩
  replace HC := Lib.hid (HC.out.trans hc7 fun _ _ h => h)
  replace HOK := Lib.hid (HOK.out.kept hc7)
  clear hc7
  go_wp2_with fail
  refine (ecount_any a exS 3 0 w7 HOK.out exS_norm (by decide)).mono ?_
  rintro e w8 ⟨rfl, hc8⟩
  rw [exS_count]
  replace HC := Lib.hid (HC.out.trans hc8 fun _ _ h => h)
  clear hc8
  go_wp2
  go_ret
  exact ⟨rfl, HC.out⟩

end Go.Proofs.Ytkdfifkmgpogfaa

/- An argument of type []int, opened. -/
namespace Go.Proofs.Ytkdfifkmgpogfaa
open Go.ChangeShapes Go.WideShapes Go.ChangeAt Go.RowKit Go.Deep

theorem open_ints64 {H : Type} {enc : TypeId × Value → H} {W : World} {base : Nat} {spare : Nat → Bool} {held : Bool} {a : Option Addr} {len cap : Nat} {d : DataW H} {p : List MemPlace}
    (h : DataW.Trod enc Try.prog W base spare held 22 (.slice a len cap) d p) : ∃ zs, RdI W (.slice a len cap) zs ∧ ∀ z ∈ zs, -9223372036854775808 ≤ z ∧ z ≤ 9223372036854775807 := by
  obtain ⟨fuel, hf⟩ := h
  rcases open_ints Try.underlying22 Try.underlying3 cellsInt hf with ⟨hcs, _⟩ | ⟨x, l, c, zs, hcs, _, hl, _, hz, _, hcell, hwz⟩
  · simp [Value.cells] at hcs
    obtain ⟨rfl, rfl, rfl⟩ := hcs
    exact ⟨[], .inl ⟨rfl, none, 0, rfl⟩, by simp⟩
  · simp [Value.cells] at hcs
    obtain ⟨rfl, rfl, rfl⟩ := hcs
    have hlen : len ≤ zs.length := by rw [hz]; split <;> omega
    refine ⟨zs.take len, ?_, fun z hz' => by have := bounds_i64 (hwz z (List.mem_of_mem_take hz')); omega⟩
    by_cases h0 : len = 0
    · subst h0
      exact .inl ⟨by simp, some x, cap, rfl⟩
    · obtain ⟨g, off, rfl⟩ := spot_none (hcell 0 (by omega))
      refine .inr ⟨g, off, cap, by simp; omega, fun j hj => ?_⟩
      have hj' : j < len := by simp at hj; omega
      have hc := hcell j (by omega)
      rw [add_lit] at hc
      rw [hc]
      simp [List.getElem?_take, hj']

/-- the same, with how long it can be -/
theorem open_ints64L {H : Type} {enc : TypeId × Value → H} {W : World} {base : Nat} {spare : Nat → Bool} {held : Bool} {a : Option Addr} {len cap : Nat} {d : DataW H} {p : List MemPlace}
    (h : DataW.Trod enc Try.prog W base spare held 22 (.slice a len cap) d p) : ∃ zs, RdI W (.slice a len cap) zs ∧ (∀ z ∈ zs, -9223372036854775808 ≤ z ∧ z ≤ 9223372036854775807) ∧ zs.length ≤ 9223372036854775807 := by
  obtain ⟨zs, h1, h2⟩ := open_ints64 h
  refine ⟨zs, h1, h2, ?_⟩
  have hz : zs.length = len := by
    rcases h1 with ⟨rfl, ao, c, he⟩ | ⟨g, off, c, he, _⟩
    · simp only [Value.slice.injEq] at he; simp [he.2.1]
    · simp only [Value.slice.injEq] at he; exact he.2.1.symm
  obtain ⟨fuel, hf⟩ := h
  rcases open_ints Try.underlying22 Try.underlying3 cellsInt hf with ⟨hcs, _⟩ | ⟨x, l, c, ys, hcs, _, hl, hm, _⟩
  · simp [Value.cells] at hcs
    obtain ⟨rfl, rfl, rfl⟩ := hcs
    omega
  · simp [Value.cells] at hcs
    obtain ⟨rfl, rfl, rfl⟩ := hcs
    unfold maxLen at hm
    omega

end Go.Proofs.Ytkdfifkmgpogfaa

/- Counts that are told by few numbers: what puncheonref05.Some tells. -/
namespace Go.Proofs.Ytkdfifkmgpogfaa
open Go.RowKit

/-- The value v is a slice of the uint16s xs. -/
def RdH (w : World) (v : Value) (xs : List Nat) : Prop :=
  (xs = [] ∧ ∃ ao c, v = .slice ao 0 c) ∨ ∃ g off cap, v = .slice (some ⟨g, off, none⟩) xs.length cap ∧ ∀ j, j < xs.length → w.cell? ⟨g, off + j, none⟩ = some (.int .u16 ((xs.getD j 0 : Nat) : Int))
theorem RdH.form {w : World} {v : Value} {xs : List Nat} (h : RdH w v xs) : ∃ ao cap, v = .slice ao xs.length cap := by
  rcases h with ⟨rfl, ao, c, rfl⟩ | ⟨g, off, cap, rfl, _⟩
  · exact ⟨ao, c, rfl⟩
  · exact ⟨_, cap, rfl⟩
theorem RdH.at {w : World} {ao : Option Addr} {n cap : Nat} {xs : List Nat} (h : RdH w (.slice ao n cap) xs) (k : Nat) (hk : k < xs.length) : ∃ g off, ao = some ⟨g, off, none⟩ ∧ w.cell? ⟨g, off + k, none⟩ = some (.int .u16 ((xs.getD k 0 : Nat) : Int)) := by
  rcases h with ⟨h0, _⟩ | ⟨g, off, cap', he, hc⟩
  · rw [h0] at hk; simp at hk
  · simp only [Value.slice.injEq] at he
    exact ⟨g, off, he.1, hc _ hk⟩
theorem RdH.kept {S : Nat → Prop} {w w' : World} {v : Value} {xs : List Nat} (h : RdH w v xs) (hc : Chg S w w') (hS : ∀ k, v.ownBlock = some k → ¬ S k) : RdH w' v xs := by
  rcases h with h | ⟨g, off, cap, rfl, hcell⟩
  · exact .inl h
  · refine .inr ⟨g, off, cap, rfl, fun j hj => ?_⟩
    have := hcell j hj
    have hlt : g < w.heap.size := block_lt_of_cell this
    rw [World.cell?_of_block (w := w) (hc.block g hlt (hS g rfl))]; exact this

/-- the counts that the first k pairs tell -/
def someTo (l : List Nat) : Nat → List Int
  | 0 => List.replicate 256 0
  | k + 1 => (someTo l k).set (l.getD (2 * k) 0 % 256) ((l.getD (2 * k + 1) 0 : Nat) : Int)
theorem someTo_succ (l : List Nat) (k : Nat) : someTo l (k + 1) = (someTo l k).set (l.getD (2 * k) 0 % 256) ((l.getD (2 * k + 1) 0 : Nat) : Int) := rfl
def pairsN (l : List Nat) : Nat := min (l.length / 2) 40
def someC (l : List Nat) : List Int := someTo l (pairsN l)

theorem someTo_facts (l : List Nat) (hx : ∀ x ∈ l, x < 65536) (k : Nat) (hk : 2 * k ≤ l.length) : (someTo l k).length = 256 ∧ (∀ s, s < 256 → 0 ≤ (someTo l k).getD s 0) ∧ tot (someTo l k) ≤ 65535 * (k : Int) := by
  induction k with
  | zero =>
    refine ⟨List.length_replicate, fun s hs => ?_, ?_⟩
    · show 0 ≤ (List.replicate 256 (0 : Int)).getD s 0
      rw [List.getD_eq_getElem?_getD, List.getElem?_replicate, if_pos hs]; exact Int.le_refl _
    · show tot (List.replicate 256 0) ≤ _
      rw [tot_zeros]; simp
  | succ k ih =>
    obtain ⟨i1, i2, i3⟩ := ih (by omega)
    rw [someTo_succ]
    have hv : l.getD (2 * k + 1) 0 < 65536 := by
      rw [List.getD_eq_getElem?_getD, List.getElem?_eq_getElem (by omega)]
      exact hx _ (List.getElem_mem _)
    have hm : l.getD (2 * k) 0 % 256 < 256 := Nat.mod_lt _ (by omega)
    generalize l.getD (2 * k) 0 % 256 = u at *
    generalize l.getD (2 * k + 1) 0 = y at *
    refine ⟨by rw [List.length_set]; exact i1, fun s hs => ?_, ?_⟩
    · rw [iset_getD _ _ _ _ (by omega)]
      split
      · omega
      · exact i2 s hs
    · have := tot_set (someTo l k) u (y : Int) (by omega)
      have := i2 u hm
      omega

theorem someC_len (l : List Nat) (hx : ∀ x ∈ l, x < 65536) : (someC l).length = 256 := (someTo_facts l hx (pairsN l) (by unfold pairsN; omega)).1
theorem someC_right (l : List Nat) (hx : ∀ x ∈ l, x < 65536) : isRight (someC l) ∧ tot (someC l) ≤ 2621400 := by
  obtain ⟨h1, h2, h3⟩ := someTo_facts l hx (pairsN l) (by unfold pairsN; omega)
  have hp : (pairsN l : Int) ≤ 40 := by unfold pairsN; omega
  have ht : tot (someC l) ≤ 2621400 := by unfold someC; omega
  refine ⟨⟨h1, fun c hc => ?_, by omega⟩, ht⟩
  obtain ⟨i, hi, rfl⟩ := List.mem_iff_getElem.1 hc
  have hl' : (someC l).length = 256 := h1
  have : 0 ≤ (someC l).getD i 0 := h2 i (by omega)
  rw [List.getD_eq_getElem?_getD, List.getElem?_eq_getElem hi] at this
  exact this

set_option maxHeartbeats 2000000 in
set_option maxRecDepth 100000 in
theorem r5some_any (v : Value) (xs : List Nat) (w : World) (h : RdH w v xs) (hx : ∀ x ∈ xs, x < 65536) (hl : xs.length < 10000000000) :
    Calls Try.prog 24 #[v] w fun e w' => ∃ v', e = .returned v' ∧ OwnI w' w.heap.size v' (someC xs) ∧ Chg (fun _ => False) w w' := by
  obtain ⟨ao, cap, rfl⟩ := h.form
  have H := Lib.hid h; have HX := Lib.hid hx
  have hpn : pairsN xs = min (xs.length / 2) 40 := rfl
  have hsc : someC xs = someTo xs (pairsN xs) := rfl
  obtain ⟨N, hN⟩ : ∃ N, pairsN xs = N := ⟨_, rfl⟩
  rw [hN] at hpn hsc
  have HPN := Lib.hid hpn; have HSC := Lib.hid hsc
  clear h hx hpn hsc hN
  go_enter Try.func24, Try.ntmps24
  go_wp2_with (at_make; refine wpList_make_ints rfl _ _ rfl 256 256 256 rfl rfl rfl rfl (by omega) (someTo xs 0) rfl ?_)
  intro w1 h1 hc1
  have H1 := Lib.hid h1; have HC1 := Lib.hid hc1
  clear h1 hc1
  go_wp2
  go_loopw [4] (fun o4 wr => ∃ k : Nat, k ≤ N ∧ o4 = .int .i64 ((2 * k : Nat) : Int) ∧ RowI wr w.heap.size 3 (someTo xs k) ∧ Chg (fun _ => False) w wr) (fun o4 _ => 2 * N - (intOf o4).toNat)
  case atStart => exact ⟨0, Nat.zero_le _, rfl, H1.out, HC1.out⟩
  case round =>
    obtain ⟨k, hk, rfl, hrow, hc⟩ := hrel
    clear H1 HC1
    have hpn := HPN.out
    obtain ⟨i, hi⟩ : ∃ i, 2 * k = i := ⟨_, rfl⟩
    have hlen := (someTo_facts xs HX.out k (by omega)).1
    rw [hi]
    by_cases hlt : k < N
    · have hi1 : i + 1 < xs.length := by omega
      have hi80 : i < 80 := by omega
      have hi1I : (i : Int) + 1 < (xs.length : Int) := by omega
      have hi80I : (i : Int) < 80 := by omega
      have hiI : (i : Int) < (xs.length : Int) := by omega
      obtain ⟨g, off, rfl, c1⟩ := (H.out.kept hc (by simp)).at i (by omega)
      obtain ⟨g', off', he, c2⟩ := (H.out.kept hc (by simp)).at (i + 1) hi1
      simp only [Option.some.injEq, Addr.mk.injEq] at he
      obtain ⟨rfl, rfl, -⟩ := he
      have hst := someTo_succ xs k
      rw [hi] at hst
      have hy : xs.getD (i + 1) 0 < 65536 := by
        rw [List.getD_eq_getElem?_getD, List.getElem?_eq_getElem hi1]; exact HX.out _ (List.getElem_mem _)
      have hx : xs.getD i 0 < 65536 := by
        rw [List.getD_eq_getElem?_getD, List.getElem?_eq_getElem (by omega)]; exact HX.out _ (List.getElem_mem _)
      obtain ⟨x, hxe⟩ : ∃ x, xs.getD i 0 = x := ⟨_, rfl⟩
      obtain ⟨y, hye⟩ : ∃ y, xs.getD (i + 1) 0 = y := ⟨_, rfl⟩
      rw [hxe] at c1 hst hx
      rw [hye] at c2 hst hy
      obtain ⟨u, hu⟩ : ∃ u, x % 256 = u := ⟨_, rfl⟩
      have hu' : (x : Int) % 256 = (u : Int) := by omega
      have hut : (x : Int).tmod 256 = (u : Int) := by rw [Int.tmod_eq_emod_of_nonneg (by omega)]; exact hu'
      have hu256 : u < 256 := by omega
      have huI : (u : Int) < 256 := by omega
      rw [hu] at hst
      have a0 := hrow.cell u (by rw [hlen]; exact hu256)
      have f0 := hrow.free u
      have r2 := hrow.set u (y : Int)
      rw [← hst] at r2
      have hc2 : Chg (fun _ => False) w (wr.setCell ⟨w.heap.size, u, none⟩ (.int .i64 (y : Int))) := hc.trans (Chg.setCell wr ⟨w.heap.size, u, none⟩ _) (fun q hq h => by simp at h; omega)
      obtain ⟨i1, hi1e⟩ : ∃ i1, i + 1 = i1 := ⟨_, rfl⟩
      rw [hi1e] at c2 hi1
      have he1 : (i : Int) + 1 = (i1 : Int) := by omega
      have hw1 : IntKind.i64.wrap (i1 : Int) = (i1 : Int) := by rw [IntKind.wrap_i64]; omega
      have hi1J : (i1 : Int) < (xs.length : Int) := by omega
      have hi1K : (0 : Int) ≤ (i1 : Int) := by omega
      have hw2 : IntKind.u16.wrap (u : Int) = (u : Int) := by rw [IntKind.wrap_u16]; omega
      have hw3 : IntKind.i64.wrap (y : Int) = (y : Int) := by rw [IntKind.wrap_i64]; omega
      generalize (someTo xs k).getD u 0 = old at a0
      have R2 := Lib.hid r2; have C2 := Lib.hid hc2; have HI := Lib.hid hi; have HPN2 := Lib.hid hpn
      clear r2 hc2 hrow hc hst hxe hye hu hi hpn hlen hi1I hi1e
      go_wp2
      go_still_tail 13, (by kernel_rfl)
      change wpList _ _ _ _ _ wr.drew
      go_wp2
      go_roundw
      case rel => exact ⟨k + 1, by omega, by have := HI.out; simp; omega, R2.out, C2.out.drew⟩
      case measure => simp [intOf]; have := HI.out; have := HPN2.out; omega
    · obtain rfl : k = N := by omega
      rw [← HSC.out] at hrow hlen
      have own := hrow.own 256 w.heap.size (Nat.le_refl _)
      rw [hlen] at own
      have OWN := Lib.hid own; have CC := Lib.hid hc
      clear hrow own hc hlen
      have hiB : (i : Int) ≤ 80 := by omega
      by_cases hi1 : (i : Int) + 1 < (xs.length : Int)
      · have hi80 : ¬ (i : Int) < 80 := by omega
        clear hpn hi
        go_wp2
        go_ret
        exact ⟨_, rfl, OWN.out, CC.out⟩
      · have hi1N : ¬ i + 1 < xs.length := by omega
        have d1 : decide ((i : Int) + 1 < (xs.length : Int)) = false := decide_eq_false hi1
        clear hpn hi
        go_wp2
        go_ret
        exact ⟨_, rfl, OWN.out, CC.out⟩

end Go.Proofs.Ytkdfifkmgpogfaa

/- An argument of type []uint16, opened. -/
namespace Go.Proofs.Ytkdfifkmgpogfaa
open Go.ChangeShapes Go.WideShapes Go.ChangeAt Go.RowKit Go.Deep

theorem cellsU16 : Try.prog.cellsOf 41 = 1 := by kernel_rfl

theorem open_u16s {H : Type} {enc : TypeId × Value → H} {W : World} {base : Nat} {spare : Nat → Bool} {held : Bool} {a : Option Addr} {len cap : Nat} {d : DataW H} {p : List MemPlace}
    (h : DataW.Trod enc Try.prog W base spare held 33 (.slice a len cap) d p) : ∃ xs, RdH W (.slice a len cap) xs ∧ ∀ x ∈ xs, x < 65536 := by
  obtain ⟨fuel, hf⟩ := h
  rcases open_ints Try.underlying33 Try.underlying41 cellsU16 hf with ⟨hcs, _⟩ | ⟨x, l, c, zs, hcs, _, hl, _, hz, _, hcell, hwz⟩
  · simp [Value.cells] at hcs
    obtain ⟨rfl, rfl, rfl⟩ := hcs
    exact ⟨[], .inl ⟨rfl, none, 0, rfl⟩, by simp⟩
  · simp [Value.cells] at hcs
    obtain ⟨rfl, rfl, rfl⟩ := hcs
    have hlen : len ≤ zs.length := by rw [hz]; split <;> omega
    have hb : ∀ j, j < zs.length → 0 ≤ zs.getD j 0 ∧ zs.getD j 0 < 65536 := by
      intro j hj
      have hmem : zs.getD j 0 ∈ zs := by
        rw [List.getD_eq_getElem?_getD, List.getElem?_eq_getElem hj]; exact List.getElem_mem hj
      have := bounds_u16 (hwz _ hmem)
      omega
    refine ⟨(List.range len).map fun j => (zs.getD j 0).toNat, ?_, ?_⟩
    · by_cases h0 : len = 0
      · subst h0
        exact .inl ⟨rfl, some x, cap, rfl⟩
      · obtain ⟨g, off, rfl⟩ := spot_none (hcell 0 (by omega))
        refine .inr ⟨g, off, cap, by simp, fun j hj => ?_⟩
        have hj' : j < len := by simpa using hj
        have hc := hcell j (by omega)
        rw [add_lit] at hc
        rw [hc]
        have := (hb j (by omega)).1
        simp only [List.getD_eq_getElem?_getD, List.getElem?_map, List.getElem?_range hj', Option.map_some, Option.getD_some] at this ⊢
        rw [Int.toNat_of_nonneg this]
    · intro y hy
      simp only [List.mem_map, List.mem_range] at hy
      obtain ⟨j, hj, rfl⟩ := hy
      have := hb j (by omega)
      omega

end Go.Proofs.Ytkdfifkmgpogfaa

/- What the document's own Counts (puncheonref08) tells: the walk. -/
namespace Go.Proofs.Ytkdfifkmgpogfaa
open Go.RowKit

/-- the sum of a row of numbers in memory -/
def sumAt (w : World) (g : Nat) : Int := match w.heap[g]? with
  | some (.cells a _ _) => tot (a.toList.map intOf)
  | _ => 0
theorem RowI.sumAt {w : World} {g : Nat} {t : TypeId} {zs : List Int} (h : RowI w g t zs) : sumAt w g = tot zs := by
  unfold Go.Proofs.Ytkdfifkmgpogfaa.sumAt
  rw [show w.heap[g]? = _ from h]
  simp only [iw, List.map_map]
  congr 1
  rw [show (intOf ∘ fun z => Value.int IntKind.i64 z) = id from rfl, List.map_id]

def fQ (c : List Int) (S n : Int) (i : Nat) : Int := if c.getD i 0 * S / n = 0 then min (c.getD i 0) 1 else c.getD i 0 * S / n
def fR (c : List Int) (S n : Int) (i : Nat) : Int := c.getD i 0 * S % n
def fH (c : List Int) (S n : Int) (i : Nat) : Bool := decide (c.getD i 0 * S / n = 0)

theorem base_bound {c : List Int} {S : Int} (h : Fit c S) (hS : S ≤ 4096) (s : Nat) (hs : s < 256) : 0 ≤ (qBase c S (tot c)).getD s 0 ∧ (qBase c S (tot c)).getD s 0 ≤ 4096 := by
  have hl : s < c.length := by rw [h.len]; exact hs
  rw [base_at s hl]
  have hx := h.at s hs
  have hn := h.some
  have hle : c.getD s 0 ≤ tot c := by
    have h1 := tot_take_le c (s + 1) h.low
    rw [tot_take_succ c s hl] at h1
    have := tot_nonneg (c.take s) (fun y hy => h.low y (List.mem_of_mem_take hy))
    omega
  have d := div_parts (c.getD s 0) S (tot c) hn hx h.sz
  have h2 : c.getD s 0 * S / tot c ≤ S := by
    refine Int.ediv_le_of_le_mul hn ?_
    have := Int.mul_le_mul_of_nonneg_right hle (show 0 ≤ S by have := h.sz; omega)
    rw [Int.mul_comm S]; exact this
  split <;> omega

theorem mem_bound {l : List Int} {lo hi : Int} (hl : l.length = 256) (h : ∀ s, s < 256 → lo ≤ l.getD s 0 ∧ l.getD s 0 ≤ hi) : ∀ z ∈ l, lo ≤ z ∧ z ≤ hi := by
  intro z hz
  obtain ⟨i, hi', rfl⟩ := List.mem_iff_getElem.1 hz
  have := h i (by omega)
  rwa [List.getD_eq_getElem?_getD, List.getElem?_eq_getElem hi'] at this

theorem give_bound {c : List Int} {S : Int} (h : Fit c S) (hS : S ≤ 4096) {k : Nat} {p : List Int × List Bool} (g : Gave (rest0 c S (tot c)) (qBase c S (tot c)) (had0 c S (tot c)) k p) : ∀ z ∈ p.1, 0 ≤ z ∧ z ≤ 4294967296 := by
  refine mem_bound g.len1 fun s hs => ?_
  have h1 := g.val s hs
  have h2 := base_bound h hS s hs
  rw [h1]
  split <;> omega

theorem r8richest_l (g h o cap : Nat) (t : TypeId) (q c : List Int) (w : World) (hr : RowI w g t q) (hh : RdI w (.slice (some ⟨h, o, none⟩) c.length cap) c) (hl : q.length = 256) (hl2 : c.length = 256) :
    Calls Try.prog 42 #[.slice (some ⟨g, 0, none⟩) 256 256, .slice (some ⟨h, o, none⟩) c.length cap] w fun e w' => e = .returned (.int .i64 ((richTo q c 255 : Nat) : Int)) ∧ ∃ m, w' = w.drewN m := by
  rw [hl2] at hh ⊢
  exact r8richest_any g h o cap t q c w hr hh hl hl2

set_option maxHeartbeats 8000000 in
set_option maxRecDepth 100000 in
theorem r8counts_any (v : Value) (c : List Int) (r : Int) (w : World) (h : RdI w v c) (hb : ∀ z ∈ c, -9223372036854775808 ≤ z ∧ z ≤ 9223372036854775807) (hl : c.length < 100000000000) (hr : -9223372036854775808 ≤ r ∧ r ≤ 9223372036854775807) :
    Calls Try.prog 26 #[v, .int .i64 r] w fun e w' => NormSays w c r e w' := by
  have HT := Lib.hid (r5total_any v c w h hb hl); have HM := Lib.hid (r5many_any v c w h hb hl)
  obtain ⟨ao, cap, rfl⟩ := h.form
  have H := Lib.hid h; have HB := Lib.hid hb
  clear h hb
  by_cases h0 : totalI c = 0
  · have hno : ¬ normOk c r := fun hk => (total_pos.1 h0) ⟨hk.1, hk.2.1⟩
    have HNO := Lib.hid hno
    rw [h0] at HT
    clear hno h0
    go_enter Try.func26, Try.ntmps26
    go_wp2_with fail
    refine HT.out.mono ?_
    rintro e w' ⟨rfl, rfl⟩
    go_wp2
    go_ret2
    exact ⟨_, by rw [if_neg HNO.out]; rfl, fun hk => absurd hk HNO.out, fun _ => .inl ⟨rfl, _, _, rfl⟩, Chg.refl _ _⟩
  have hpos : isRight c ∧ 0 < tot c := by
    rcases Decidable.em (isRight c ∧ 0 < tot c) with hh | hh
    · exact hh
    · exact absurd (total_pos.2 hh) h0
  have htn : totalI c = tot c := by unfold totalI; rw [if_pos hpos.1]
  have hmn : manyI c = pos c := by unfold manyI; rw [if_pos hpos.1]
  rw [htn] at HT h0
  rw [hmn] at HM
  have hn1 : 0 < tot c := hpos.2
  have hn2 : tot c ≤ 1073741824 := hpos.1.2.2
  have hp256 : pos c ≤ 256 := by have := pos_le c; rw [hpos.1.1] at this; exact this
  obtain ⟨n, hn⟩ : ∃ n, tot c = n := ⟨_, rfl⟩
  rw [hn] at HT hn1 hn2 h0
  have hn0 : (n == 0) = false := by simp; omega
  by_cases hr1 : r < 1
  · have HNO := Lib.hid (show ¬ normOk c r from fun hk => by have := hk.2.2.1; omega)
    clear hpos htn hmn
    go_enter Try.func26, Try.ntmps26
    go_wp2_with fail
    refine HT.out.mono ?_
    rintro e w' ⟨rfl, rfl⟩
    go_wp2
    go_ret2
    exact ⟨_, by rw [if_neg HNO.out]; rfl, fun hk => absurd hk HNO.out, fun _ => .inl ⟨rfl, _, _, rfl⟩, Chg.refl _ _⟩
  by_cases hr2 : 12 < r
  · have HNO := Lib.hid (show ¬ normOk c r from fun hk => by have := hk.2.2.2.1; omega)
    clear hpos htn hmn
    go_enter Try.func26, Try.ntmps26
    go_wp2_with fail
    refine HT.out.mono ?_
    rintro e w' ⟨rfl, rfl⟩
    go_wp2
    go_ret2
    exact ⟨_, by rw [if_neg HNO.out]; rfl, fun hk => absurd hk HNO.out, fun _ => .inl ⟨rfl, _, _, rfl⟩, Chg.refl _ _⟩
  obtain ⟨k, rfl⟩ : ∃ k : Nat, r = (k : Int) := ⟨r.toNat, by omega⟩
  have hk12 : k ≤ 12 := by omega
  have HPW := Lib.hid (r8power_any k w (by omega))
  have hS := pow12 hk12
  have hS1 := Nat.two_pow_pos k
  obtain ⟨S, hSe⟩ : ∃ S, 2 ^ k = S := ⟨_, rfl⟩
  rw [hSe] at HPW hS hS1
  have hokI : normOk c (k : Int) ↔ (pos c : Int) ≤ (S : Int) := by
    unfold normOk
    rw [Int.toNat_natCast, hSe]
    exact ⟨fun hh => hh.2.2.2.2, fun hh => ⟨hpos.1, hpos.2, by omega, by omega, hh⟩⟩
  have hnr : normR c (k : Int) = normC c (S : Int) := by unfold normR; rw [Int.toNat_natCast, hSe]
  by_cases hmany : (S : Int) < (pos c : Int)
  · have HNO := Lib.hid (show ¬ normOk c (k : Int) from fun hk => by have := hokI.1 hk; omega)
    obtain ⟨p, hp⟩ : ∃ p, pos c = p := ⟨_, rfl⟩
    rw [hp] at hmany HM
    have hmany' : S < p := by omega
    clear hpos htn hmn hokI hnr hp hp256 hn hSe
    go_enter Try.func26, Try.ntmps26
    go_wp2_with fail
    refine HT.out.mono ?_
    rintro e w' ⟨rfl, rfl⟩
    go_wp2_with fail
    refine HPW.out.mono ?_
    rintro e w' ⟨rfl, rfl⟩
    go_wp2_with fail
    refine HM.out.mono ?_
    rintro e w' ⟨rfl, rfl⟩
    go_wp2
    go_ret2
    exact ⟨_, by rw [if_neg HNO.out]; rfl, fun hk => absurd hk HNO.out, fun _ => .inl ⟨rfl, _, _, rfl⟩, Chg.refl _ _⟩
  have HOK := Lib.hid (show normOk c (k : Int) from hokI.2 (by omega))
  have hfit : Fit c (S : Int) := by have := HOK.out.fit; rw [Int.toNat_natCast, hSe] at this; exact this
  have HFIT := Lib.hid hfit; have HNR := Lib.hid hnr; have HNN := Lib.hid hn
  obtain ⟨p, hp⟩ : ∃ p, pos c = p := ⟨_, rfl⟩
  rw [hp] at hmany HM
  have hmany' : ¬ S < p := by omega
  have HLEN := Lib.hid hpos.1.1
  have HRG := Lib.hid hpos.1
  have hSI : (S : Int) ≤ 4096 := by omega
  clear hpos htn hmn hokI hnr hp hp256 hn hSe hfit
  go_enter Try.func26, Try.ntmps26
  go_wp2_with fail
  refine HT.out.mono ?_
  rintro e w' ⟨rfl, rfl⟩
  go_wp2_with fail
  refine HPW.out.mono ?_
  rintro e w' ⟨rfl, rfl⟩
  go_wp2_with fail
  refine HM.out.mono ?_
  rintro e w' ⟨rfl, rfl⟩
  clear HT HPW HM
  obtain ⟨w2, hw2⟩ : ∃ w2, w2 = w' := ⟨_, rfl⟩
  subst hw2
  go_wp2_with (at_make; refine wpList_make_ints rfl _ _ rfl 256 256 256 rfl rfl rfl rfl (by omega) (fillI (fQ c S n) 0) (fillI_zero _) ?_)
  intro w3 q3 c3
  go_wp2_with (at_make; refine wpList_make_ints rfl _ _ rfl 256 256 256 rfl rfl rfl rfl (by omega) (fillI (fR c S n) 0) (fillI_zero _) ?_)
  intro w4 q4 c4
  go_wp2_with (at_make; refine wpList_make_bools rfl _ _ rfl 256 256 256 rfl rfl rfl rfl (by omega) (fillB (fH c S n) 0) (fillB_zero _) ?_)
  intro w5 q5 c5
  obtain ⟨gq, hgq⟩ : ∃ gq, gq = w2.heap.size := ⟨_, rfl⟩
  obtain ⟨gr, hgr⟩ : ∃ gr, gr = w3.heap.size := ⟨_, rfl⟩
  obtain ⟨gh, hgh⟩ : ∃ gh, gh = w4.heap.size := ⟨_, rfl⟩
  rw [← hgq] at q3 ⊢
  rw [← hgr] at q4 ⊢
  rw [← hgh] at q5 ⊢
  have l1 : gq < gr := by rw [hgr]; exact q3.lt
  have l2 : gr < gh := by rw [hgh]; exact q4.lt
  have Q5 := Lib.hid ((q3.kept c4 (by simp)).kept c5 (by simp)); have R5 := Lib.hid (q4.kept c5 (by simp)); have T5 := Lib.hid q5
  have C5 := Lib.hid ((c3.trans c4 (fun _ _ h => h)).trans c5 (fun _ _ h => h))
  have LQ := Lib.hid (show w2.heap.size ≤ gq by omega); have L1 := Lib.hid l1; have L2 := Lib.hid l2
  clear q3 q4 q5 c3 c4 c5 l1 l2 hgq hgr hgh
  go_wp2
  go_loopw [11] (fun o11 wr => ∃ s : Nat, s ≤ 256 ∧ o11 = .int .i64 (s : Int) ∧ RowI wr gq 3 (fillI (fQ c S n) s) ∧ RowI wr gr 3 (fillI (fR c S n) s) ∧ RowT wr gh 4 (fillB (fH c S n) s) ∧ Chg (fun _ => False) w2 wr) (fun o11 _ => 256 - (intOf o11).toNat)
  case atStart => exact ⟨0, Nat.zero_le _, rfl, Q5.out, R5.out, T5.out, C5.out⟩
  case round =>
    obtain ⟨s, hs, rfl, rq, rr, rt, hc⟩ := hrel
    clear Q5 R5 T5 C5
    by_cases hlt : s < 256
    · have hsl : s < c.length := by rw [HLEN.out]; exact hlt
      obtain ⟨g0, o0, rfl, hx0⟩ := H.out.at s hsl
      have hg0 : g0 < w2.heap.size := block_lt_of_cell hx0
      have hlq := LQ.out; have hl1 := L1.out; have hl2 := L2.out
      have hxw : wr.cell? ⟨g0, o0 + s, none⟩ = some (.int .i64 (c.getD s 0)) := by rw [World.cell?_of_block (w := w2) (hc.block g0 hg0 (by simp))]; exact hx0
      have hone := HRG.out.one s hsl
      have eQ : fQ c S n s = if c.getD s 0 * (S : Int) / n = 0 then min (c.getD s 0) 1 else c.getD s 0 * (S : Int) / n := rfl
      have eR : fR c S n s = c.getD s 0 * (S : Int) % n := rfl
      have eH : fH c S n s = decide (c.getD s 0 * (S : Int) / n = 0) := rfl
      have fsQ := fillI_set (fQ c S n) s hlt
      have fsR := fillI_set (fR c S n) s hlt
      have fsH := fillB_set (fH c S n) s hlt
      have fkH := fillB_skip (fH c S n) s hlt
      obtain ⟨x, hx⟩ : ∃ x, c.getD s 0 = x := ⟨_, rfl⟩
      rw [hx] at hxw hone eQ eR eH
      obtain ⟨hx1, hx2⟩ := hone
      have hP0 : 0 ≤ x * (S : Int) := Int.mul_nonneg hx1 (by omega)
      have hP1 : x * (S : Int) ≤ 1073741824 * 4096 := Int.mul_le_mul hx2 (by omega) (by omega) (by omega)
      obtain ⟨P, hP⟩ : ∃ P, x * (S : Int) = P := ⟨_, rfl⟩
      rw [hP] at hP0 hP1 eQ eR eH
      have hP2 : P ≤ 4398046511104 := by omega
      have dQ := Int.ediv_nonneg hP0 (show 0 ≤ n by omega)
      have dQ2 := Int.ediv_le_self n hP0
      have dR := Int.emod_nonneg P (show n ≠ 0 by omega)
      have dR2 := Int.emod_lt_of_pos P hn1
      have tq : P.tdiv n = P / n := Int.tdiv_eq_ediv_of_nonneg hP0
      have tr : P.tmod n = P % n := Int.tmod_eq_emod_of_nonneg hP0
      obtain ⟨Q, hQ⟩ : ∃ Q, P / n = Q := ⟨_, rfl⟩
      obtain ⟨R, hR⟩ : ∃ R, P % n = R := ⟨_, rfl⟩
      rw [hQ] at eQ eH dQ dQ2 tq
      rw [hR] at eR dR dR2 tr
      have hwP : IntKind.i64.wrap P = P := by rw [IntKind.wrap_i64]; omega
      have hwQ : IntKind.i64.wrap Q = Q := by rw [IntKind.wrap_i64]; omega
      have hwR : IntKind.i64.wrap R = R := by rw [IntKind.wrap_i64]; omega
      have s1 := Chg.setCell wr ⟨gq, s, none⟩ (.int .i64 Q)
      have rq1 := rq.set s Q
      have rr1 := rr.kept s1 (by simp; omega)
      have rt1 := rt.kept s1 (by simp; omega)
      obtain ⟨W1, hW1⟩ : ∃ W1, wr.setCell ⟨gq, s, none⟩ (.int .i64 Q) = W1 := ⟨_, rfl⟩
      rw [hW1] at s1 rq1 rr1 rt1
      have s2 := Chg.setCell W1 ⟨gr, s, none⟩ (.int .i64 R)
      have rr2 := rr1.set s R
      have rq2 := rq1.kept s2 (by simp; omega)
      have rt2 := rt1.kept s2 (by simp; omega)
      obtain ⟨W2, hW2⟩ : ∃ W2, W1.setCell ⟨gr, s, none⟩ (.int .i64 R) = W2 := ⟨_, rfl⟩
      rw [hW2] at s2 rr2 rq2 rt2
      have c2 : Chg (fun _ => False) w2 W2 := (hc.trans s1 (S := fun _ => False) (fun q hq hh => by simp at hh; omega)).trans s2 (fun q hq hh => by simp at hh; omega)
      have a0 := rq.cell s (by rw [fillI_length]; exact hlt)
      have f0 := rq.free s
      have a1 := rr1.cell s (by rw [fillI_length]; exact hlt)
      have f1 := rr1.free s
      have kx1 : W1.cell? ⟨g0, o0 + s, none⟩ = some (.int .i64 x) := by rw [World.cell?_of_block (w := wr) (s1.block g0 (by have := hc.size; omega) (by simp; omega))]; exact hxw
      have aq2 := rq2.cell s (by rw [List.length_set, fillI_length]; exact hlt)
      rw [iset_getD _ _ _ _ (by rw [fillI_length]; exact hlt), if_pos rfl] at aq2
      have hsI : (s : Int) < 256 := by omega
      have hslI : (s : Int) < (c.length : Int) := by omega
      have d8 : decide ((s : Int) < 256) = true := by simp; omega
      generalize (fillI (fQ c S n) s).getD s 0 = ov at a0
      generalize (fillI (fR c S n) s).getD s 0 = ov2 at a1
      rw [eR] at fsR
      have FSR := Lib.hid fsR
      rw [← eR] at fsR
      by_cases hQ0 : Q = 0
      · subst hQ0
        rw [if_pos rfl] at eQ
        rw [eH, decide_eq_true rfl] at fsH
        rw [eQ] at fsQ
        have s3 := Chg.setCell W2 ⟨gh, s, none⟩ (.bool true)
        have rt3 := rt2.set s true
        have rq3 := rq2.kept s3 (by simp; omega)
        have rr3 := rr2.kept s3 (by simp; omega)
        have at2 := rt2.cell s (by rw [fillB_length]; exact hlt)
        have ft2 := rt2.free s
        obtain ⟨W3, hW3⟩ : ∃ W3, W2.setCell ⟨gh, s, none⟩ (.bool true) = W3 := ⟨_, rfl⟩
        rw [hW3] at s3 rt3 rq3 rr3
        have c3 : Chg (fun _ => False) w2 W3 := c2.trans s3 (fun q hq hh => by simp at hh; omega)
        have kx3 : W3.cell? ⟨g0, o0 + s, none⟩ = some (.int .i64 x) := by rw [World.cell?_of_block (w := w2) (c3.block g0 hg0 (by simp))]; rw [hx0, hx]
        have aq3 := rq3.cell s (by rw [List.length_set, fillI_length]; exact hlt)
        have fq3 := rq3.free s
        have rq4 : ∀ M, RowI (W3.setCell ⟨gq, s, none⟩ (.int .i64 M)) gq 3 ((fillI (fQ c S n) s).set s M) := fun M => by have := rq3.set s M; rw [setset] at this; exact this
        have s4 : ∀ M, Chg (fun k => k = gq) W3 (W3.setCell ⟨gq, s, none⟩ (.int .i64 M)) := fun M => Chg.setCell W3 ⟨gq, s, none⟩ _
        rw [fsH] at rt3
        rw [FSR.out] at rr3
        generalize (fillB (fH c S n) s).getD s false = ob at at2
        generalize ((fillI (fQ c S n) s).set s 0).getD s 0 = ov3 at aq3
        have RQ4 := Lib.hid rq4; have S4 := Lib.hid s4; have RR3 := Lib.hid rr3; have RT3 := Lib.hid rt3; have C3 := Lib.hid c3; have FSQ := Lib.hid fsQ; have TQ := Lib.hid tq; have TR := Lib.hid tr
        clear rq4 s4 rr3 rt3 c3 fsQ fsR fsH fkH rq rr rt hc rq1 rr1 rt1 rr2 rq2 rt2 rq3 s1 s2 s3 c2 eQ eR eH hx hx0 hQ hR FSR
        rcases (show x = 0 ∨ x = 1 ∨ 2 ≤ x by omega) with hx' | hx' | hx'
        · subst hx'
          go_wp2
          all_goals first
            | (exfalso; omega)
            | (go_roundw
               case rel => exact ⟨s + 1, by omega, by go_num, by rw [← FSQ.out]; exact RQ4.out 0, RR3.out.kept (S4.out 0) (by have := L1.out; omega), RT3.out.kept (S4.out 0) (by have := L1.out; have := L2.out; omega), C3.out.trans (S4.out 0) (fun q hq hh => by have := LQ.out; omega)⟩
               case measure => simp [intOf]; omega)
        · subst hx'
          go_wp2
          all_goals first
            | (exfalso; omega)
            | (go_roundw
               case rel => exact ⟨s + 1, by omega, by go_num, by rw [← FSQ.out]; exact RQ4.out 1, RR3.out.kept (S4.out 1) (by have := L1.out; omega), RT3.out.kept (S4.out 1) (by have := L1.out; have := L2.out; omega), C3.out.trans (S4.out 1) (fun q hq hh => by have := LQ.out; omega)⟩
               case measure => simp [intOf]; omega)
        · have hmin : min x 1 = 1 := by omega
          rw [hmin] at FSQ
          go_wp2
          all_goals first
            | (exfalso; omega)
            | (go_roundw
               case rel => exact ⟨s + 1, by omega, by go_num, by rw [← FSQ.out]; exact RQ4.out 1, RR3.out.kept (S4.out 1) (by have := L1.out; omega), RT3.out.kept (S4.out 1) (by have := L1.out; have := L2.out; omega), C3.out.trans (S4.out 1) (fun q hq hh => by have := LQ.out; omega)⟩
               case measure => simp [intOf]; omega)
      · rw [if_neg hQ0] at eQ
        have fkH' := fkH (by rw [eH]; exact decide_eq_false hQ0)
        rw [eQ] at fsQ
        have hQb : (Q == 0) = false := by simp [hQ0]
        rw [fsQ] at rq2
        rw [FSR.out] at rr2
        rw [fkH'] at rt2
        have RQ2 := Lib.hid rq2; have RR2 := Lib.hid rr2; have RT2 := Lib.hid rt2; have C2 := Lib.hid c2
        clear rq2 rr2 rt2 c2 fsQ fsR fsH fkH fkH' rq rr rt hc rq1 rr1 rt1 s1 s2 eQ eR eH hx hx0 hQ hR FSR
        go_wp2
        go_roundw
        case rel => exact ⟨s + 1, by omega, by go_num, RQ2.out, RR2.out, RT2.out, C2.out⟩
        case measure => simp [intOf]; omega
    · have hse : s = 256 := by omega
      have hsI : (s : Int) = 256 := by omega
      rw [hse] at rq rr rt
      rw [hsI]
      clear hse hsI hs hlt
      have hlenc := HLEN.out
      rw [fillI_all (fQ c S n) (qBase c S n) (by simp [qBase, hlenc]) (fun u hu => base_at u (by omega))] at rq
      rw [fillI_all (fR c S n) (rest0 c S n) (by simp [rest0, hlenc]) (fun u hu => rest_at u (by omega))] at rr
      rw [fillB_all (fH c S n) (had0 c S n) (by simp [had0, hlenc]) (fun u hu => had_at u (by omega))] at rt
      have hfit := HFIT.out
      have hroom := give_room (size := (S : Int)) hfit.low rfl hfit.some
      have hgave : ∀ j, j ≤ cntN (rest0 c S (tot c)) (had0 c S (tot c)) → Gave (rest0 c S (tot c)) (qBase c S (tot c)) (had0 c S (tot c)) j (giveN (rest0 c S (tot c)) j (qBase c S (tot c)) (had0 c S (tot c))) := fun j hj =>
        Go.Proofs.Ytkdfifkmgpogfaa.gave (by simp [rest0, hlenc]) (by simp [qBase, hlenc]) (by simp [had0, hlenc]) j hj
      have hgs := hfit.gaveSum
      have hgc : gaveC c S (tot c) = (giveN (rest0 c S (tot c)) ((S : Int) - tot (qBase c S (tot c))).toNat (qBase c S (tot c)) (had0 c S (tot c))).1 := rfl
      have hbnd : ∀ j, j ≤ cntN (rest0 c S (tot c)) (had0 c S (tot c)) → ∀ z ∈ (giveN (rest0 c S (tot c)) j (qBase c S (tot c)) (had0 c S (tot c))).1, 0 ≤ z ∧ z ≤ 4294967296 := fun j hj => give_bound hfit hSI (hgave j hj)
      rw [← HNN.out] at rq rr rt
      have hrl : (rest0 c S (tot c)).length = 256 := by simp [rest0, hlenc]
      obtain ⟨rs, hrs⟩ : ∃ rs, rest0 c S (tot c) = rs := ⟨_, rfl⟩
      obtain ⟨qb, hqb⟩ : ∃ qb, qBase c S (tot c) = qb := ⟨_, rfl⟩
      obtain ⟨hd, hhd⟩ : ∃ hd, had0 c S (tot c) = hd := ⟨_, rfl⟩
      rw [hrs] at rr hroom hgave hgc hbnd hrl
      rw [hqb] at rq hroom hgave hgc hbnd hgs
      rw [hhd] at rt hroom hgave hgc hbnd
      obtain ⟨D, hD⟩ : ∃ D, ((S : Int) - tot qb).toNat = D := ⟨_, rfl⟩
      rw [hD] at hroom hgc
      obtain ⟨tB, htB⟩ : ∃ tB, tot qb = tB := ⟨_, rfl⟩
      rw [htB] at hD hgs
      have HROOM := Lib.hid hroom; have HGAVE := Lib.hid hgave; have HGS := Lib.hid hgs; have HGC := Lib.hid hgc; have HBND := Lib.hid hbnd; have HRL := Lib.hid hrl; have HD := Lib.hid hD; have HTB := Lib.hid htB
      have RQ := Lib.hid rq; have RR := Lib.hid rr; have RT := Lib.hid rt; have CC := Lib.hid hc
      clear hroom hgave hgs hgc hbnd hrl hD htB rq rr rt hc hrs hqb hhd hlenc hfit
      go_wp2
      go_loopw [12] (fun _ wr => ∃ j : Nat, j ≤ D ∧ RowI wr gq 3 (giveN rs j qb hd).1 ∧ RowI wr gr 3 rs ∧ RowT wr gh 4 (giveN rs j qb hd).2 ∧ Chg (fun _ => False) w2 wr) (fun _ wr => ((S : Int) - sumAt wr gq).toNat)
      case atStart => exact ⟨0, Nat.zero_le _, RQ.out, RR.out, RT.out, CC.out⟩
      case round =>
        obtain ⟨j, hj, rq, rr, rt, hc⟩ := hrel
        clear RQ RR RT CC
        have g := HGAVE.out j (by have := HROOM.out; omega)
        have hsum := g.sum
        rw [HTB.out] at hsum
        have rd := rq.rd 256
        rw [g.len1] at rd
        have hs1 := rq.sumAt
        rw [hsum] at hs1
        have hDe := HD.out
        by_cases hjD : j < D
        · obtain ⟨s, hn, hs256, hps, g2⟩ := gave_step HRL.out g (by have := HROOM.out; omega)
          have hgn : giveN rs (j + 1) qb hd = ((giveN rs j qb hd).1.set s ((giveN rs j qb hd).1.getD s 0 + 1), (giveN rs j qb hd).2.set s true) := by rw [giveN_succ, giveStep_some hn]
          have hzb := HBND.out j (by have := HROOM.out; omega) _ (getD_mem (cs := (giveN rs j qb hd).1) (k := s) (by rw [g.len1]; exact hs256))
          have aq := rq.cell s (by rw [g.len1]; exact hs256)
          have fq := rq.free s
          have at1 := rt.cell s (by rw [g.len2]; exact hs256)
          have ft1 := rt.free s
          have BND := Lib.hid (HBND.out j (by have := HROOM.out; omega))
          have HNE := Lib.hid (r8neediest_any gr gh _ _ rs (giveN rs j qb hd).2 wr rr rt HRL.out g.len2)
          have l1 := g.len1
          have hl1 := L1.out; have hl2 := L2.out; have hlq := LQ.out
          obtain ⟨z, hz⟩ : ∃ z, (giveN rs j qb hd).1.getD s 0 = z := ⟨_, rfl⟩
          rw [hz] at hgn hzb aq
          have st1 := Chg.setCell wr ⟨gh, s, none⟩ (.bool true)
          have rt1 := rt.set s true
          have rq1 := rq.kept st1 (by simp; omega)
          have rr1 := rr.kept st1 (by simp; omega)
          have c1 : Chg (fun _ => False) w2 _ := hc.trans st1 (S := fun _ => False) (fun q hq hh => by simp at hh; omega)
          have st2 := Chg.setCell (wr.setCell ⟨gh, s, none⟩ (.bool true)) ⟨gq, s, none⟩ (.int .i64 (z + 1))
          have rq2 := rq1.set s (z + 1)
          have rr2 := rr1.kept st2 (by simp; omega)
          have rt2 := rt1.kept st2 (by simp; omega)
          have c2 : Chg (fun _ => False) w2 _ := c1.trans st2 (S := fun _ => False) (fun q hq hh => by simp at hh; omega)
          have aq1 := rq1.cell s (by rw [l1]; exact hs256)
          have fq1 := rq1.free s
          rw [hz] at aq1
          have eq1 : (giveN rs (j + 1) qb hd).1 = (giveN rs j qb hd).1.set s (z + 1) := by rw [hgn]
          have eq2 : (giveN rs (j + 1) qb hd).2 = (giveN rs j qb hd).2.set s true := by rw [hgn]
          rw [← eq1] at rq2
          rw [← eq2] at rt2
          have g3 := HGAVE.out (j + 1) (by have := HROOM.out; omega)
          have hsum3 := g3.sum
          rw [HTB.out] at hsum3
          have hs3 := rq2.sumAt
          rw [hsum3] at hs3
          rw [hn] at HNE
          have hlt : tB + (j : Int) < (S : Int) := by omega
          have RD := Lib.hid rd; have HS := Lib.hid hsum; have RQ2 := Lib.hid rq2; have RR2 := Lib.hid rr2; have RT2 := Lib.hid rt2; have C2 := Lib.hid c2; have HS1 := Lib.hid hs1; have HS3 := Lib.hid hs3
          have hsI : (s : Int) < 256 := by omega
          obtain ⟨hz0, hz1⟩ := hzb
          generalize (giveN rs j qb hd).2.getD s false = ob at at1
          have L1000 := Lib.hid (show (giveN rs j qb hd).1.length ≤ 1000 by rw [l1]; omega)
          clear rd hsum rq2 rr2 rt2 c2 hs1 hs3 rq rr rt hc g g2 g3 hgn eq1 eq2 rq1 rr1 rt1 st1 st2 c1 hsum3 hn hz l1 hps
          go_wp2_with fail
          refine (r8sum_any _ _ wr RD.out BND.out L1000.out).mono ?_
          rintro e w6 ⟨rfl, rfl⟩
          rw [HS.out]
          go_wp2_with fail
          refine HNE.out.mono ?_
          rintro e w7 ⟨rfl, m, rfl⟩
          simp only [idx]
          clear HNE
          go_wp2
          go_roundw
          case rel => exact ⟨j + 1, by omega, RowI.kept (w := (w6.setCell ⟨gh, s, none⟩ (.bool true)).setCell ⟨gq, s, none⟩ (.int .i64 (z + 1))) RQ2.out ((Chg.refl (fun _ => False) _).drewN m) (by simp), RowI.kept (w := (w6.setCell ⟨gh, s, none⟩ (.bool true)).setCell ⟨gq, s, none⟩ (.int .i64 (z + 1))) RR2.out ((Chg.refl (fun _ => False) _).drewN m) (by simp), RowT.kept (w := (w6.setCell ⟨gh, s, none⟩ (.bool true)).setCell ⟨gq, s, none⟩ (.int .i64 (z + 1))) RT2.out ((Chg.refl (fun _ => False) _).drewN m) (by simp), C2.out.drewN m⟩
          case measure =>
            show ((S : Int) - sumAt ((w6.setCell ⟨gh, s, none⟩ (.bool true)).setCell ⟨gq, s, none⟩ (.int .i64 (z + 1))) gq).toNat < ((S : Int) - sumAt w6 gq).toNat
            rw [HS1.out, HS3.out]; omega
        · obtain rfl : j = D := by omega
          have hge : ¬ tB + (j : Int) < (S : Int) := by omega
          have BND := Lib.hid (HBND.out j (by have := HROOM.out; omega))
          have L1000 := Lib.hid (show (giveN rs j qb hd).1.length ≤ 1000 by rw [g.len1]; omega)
          have RD := Lib.hid rd; have HS := Lib.hid hsum
          have eg : (giveN rs j qb hd).1 = gaveC c S (tot c) := HGC.out.symm
          have RQ := Lib.hid rq; have CC := Lib.hid hc; have HGE := Lib.hid hge; have EG := Lib.hid eg
          clear rd hsum rq rr rt hc g hs1 eg
          go_wp2_with fail
          refine (r8sum_any _ _ wr RD.out BND.out L1000.out).mono ?_
          rintro e w6 ⟨rfl, rfl⟩
          rw [HS.out]
          have hfit := HFIT.out
          have hgs := HGS.out
          have hmn := hfit.many
          obtain ⟨G, hG⟩ : ∃ G, gaveC c S (tot c) = G := ⟨_, rfl⟩
          have htook : ∀ i : Nat, (i : Int) ≤ tot G - (S : Int) → Took c G i (takeN c i G) := fun i hi => by
            have t0 := hfit.took0
            rw [hG] at t0
            exact Go.Proofs.Ytkdfifkmgpogfaa.took hfit.len t0 i (by omega)
          have hnc : normC c (S : Int) = takeN c (tot G - (S : Int)).toNat G := by unfold normC; rw [hG]
          have hGb : ∀ s, s < 256 → G.getD s 0 ≤ 4294967296 := fun s hs => by
            have h1 := EG.out
            rw [hG] at h1
            have h2 := BND.out _ (getD_mem (cs := (giveN rs j qb hd).1) (k := s) (by have := (HGAVE.out j HROOM.out).len1; omega))
            rw [h1] at h2
            exact h2.2
          have rq := RQ.out
          rw [EG.out, hG] at rq
          rw [hG] at hgs
          obtain ⟨tG, htG⟩ : ∃ tG, tot G = tG := ⟨_, rfl⟩
          rw [htG] at hgs htook hnc
          obtain ⟨T, hT⟩ : ∃ T, (tG - (S : Int)).toNat = T := ⟨_, rfl⟩
          rw [hT] at hnc
          have HTOOK := Lib.hid htook; have HNC := Lib.hid hnc; have HGB := Lib.hid hGb; have HTG := Lib.hid htG; have HTT := Lib.hid (show (T : Int) = tG - (S : Int) by omega); have RQ2 := Lib.hid rq
          clear htook hnc hGb rq hG htG hT hgs hmn hfit HGC RQ RD BND L1000 HS HGAVE HBND HGS EG HROOM HD hDe hjD hj
          obtain ⟨g0, o0, rfl, hx0⟩ := H.out.at 0 (by rw [HLEN.out]; omega)
          clear hx0
          go_wp2
          go_loopw [92] (fun _ wr => ∃ i : Nat, i ≤ T ∧ RowI wr gq 3 (takeN c i G) ∧ Chg (fun _ => False) w2 wr) (fun _ wr => (sumAt wr gq - (S : Int)).toNat)
          case atStart => exact ⟨0, Nat.zero_le _, RQ2.out, CC.out⟩
          case round =>
            obtain ⟨i, hi, rq, hc⟩ := hrel
            clear RQ2 CC
            have htt := HTT.out
            have t := HTOOK.out i (by omega)
            have hsum := t.sum
            rw [HTG.out] at hsum
            have rd := rq.rd 256
            rw [t.len] at rd
            have hs1 := rq.sumAt
            rw [hsum] at hs1
            have BND := Lib.hid (mem_bound (lo := 0) (hi := 4294967296) t.len (fun s hs => ⟨(t.low s hs).1, Int.le_trans (t.top s hs) (HGB.out s hs)⟩))
            have L1000 := Lib.hid (show (takeN c i G).length ≤ 1000 by rw [t.len]; omega)
            have RD := Lib.hid rd; have HS := Lib.hid hsum
            by_cases hiT : i < T
            · have hmany2 := HFIT.out.many
              obtain ⟨hb256, hz1, t2⟩ := took_step HLEN.out t (by rw [hsum]; omega)
              have HRI := Lib.hid (r8richest_l gq g0 o0 cap 3 (takeN c i G) c wr rq (H.out.kept hc (by simp)) t.len HLEN.out)
              have hst : takeN c (i + 1) G = (takeN c i G).set (richTo (takeN c i G) c 255) ((takeN c i G).getD (richTo (takeN c i G) c 255) 0 - 1) := by rw [takeN_succ]; rfl
              have hzt := t.top (richTo (takeN c i G) c 255) hb256
              have hzg := HGB.out (richTo (takeN c i G) c 255) hb256
              obtain ⟨b, hb⟩ : ∃ b, richTo (takeN c i G) c 255 = b := ⟨_, rfl⟩
              rw [hb] at hb256 hz1 hst HRI hzt hzg
              have aq := rq.cell b (by rw [t.len]; exact hb256)
              have fq := rq.free b
              obtain ⟨z, hz⟩ : ∃ z, (takeN c i G).getD b 0 = z := ⟨_, rfl⟩
              rw [hz] at hz1 hst aq hzt
              have rq1 := rq.set b (z - 1)
              rw [← hst] at rq1
              have c1 : Chg (fun _ => False) w2 (wr.setCell ⟨gq, b, none⟩ (.int .i64 (z - 1))) := hc.trans (Chg.setCell wr ⟨gq, b, none⟩ _) (fun q hq hh => by have := LQ.out; simp at hh; omega)
              have t3 := HTOOK.out (i + 1) (by omega)
              have hsum3 := t3.sum
              rw [HTG.out] at hsum3
              have hs3 := rq1.sumAt
              rw [hsum3] at hs3
              have hgt : (S : Int) < tG - (i : Int) := by omega
              have hbI : (b : Int) < 256 := by omega
              have hz2 : z ≤ 4294967296 := by omega
              have RQ1 := Lib.hid rq1; have C1 := Lib.hid c1; have HS1 := Lib.hid hs1; have HS3 := Lib.hid hs3; have HTT2 := Lib.hid htt
              clear rq1 c1 hs1 hs3 t3 hsum3 t t2 hst hz hb rq hc rd hsum hzt hzg hmany2
              go_wp2_with fail
              refine (r8sum_any _ _ wr RD.out BND.out L1000.out).mono ?_
              rintro e w7 ⟨rfl, rfl⟩
              rw [HS.out]
              clear htt
              go_wp2_with fail
              refine HRI.out.mono ?_
              rintro e w8 ⟨rfl, m, rfl⟩
              clear HRI
              go_wp2
              go_roundw
              case rel => exact ⟨i + 1, by omega, RowI.kept (w := w7.setCell ⟨gq, b, none⟩ (.int .i64 (z - 1))) RQ1.out ((Chg.refl (fun _ => False) _).drewN m) (by simp), C1.out.drewN m⟩
              case measure =>
                show (sumAt (w7.setCell ⟨gq, b, none⟩ (.int .i64 (z - 1))) gq - (S : Int)).toNat < (sumAt w7 gq - (S : Int)).toNat
                have := HTT2.out
                rw [HS1.out, HS3.out]; omega
            · obtain rfl : i = T := by omega
              have hle : ¬ (S : Int) < tG - (i : Int) := by omega
              rw [← HNC.out] at rq
              have hnl := norm_len HFIT.out
              have own := rq.own 256 w2.heap.size LQ.out
              rw [hnl, ← HNR.out] at own
              have OWN := Lib.hid own; have CC := Lib.hid hc
              clear rq own hnl hc t hs1 htt rd hsum
              go_wp2_with fail
              refine (r8sum_any _ _ wr RD.out BND.out L1000.out).mono ?_
              rintro e w7 ⟨rfl, rfl⟩
              rw [HS.out]
              go_wp2
              go_ret2
              exact ⟨_, by rw [if_pos HOK.out]; rfl, fun _ => OWN.out, fun hk => absurd HOK.out hk, CC.out⟩

end Go.Proofs.Ytkdfifkmgpogfaa

/- Normalized counts of few numbers: what puncheonref08.Some tells. -/
namespace Go.Proofs.Ytkdfifkmgpogfaa
open Go.RowKit

theorem norm_normQ {c : List Int} {k : Nat} (h : normOk c (k : Int)) : NormQ (normR c (k : Int)) k := by
  have hf := h.fit
  rw [Int.toNat_natCast] at hf
  unfold normR
  rw [Int.toNat_natCast]
  have h1 := h.2.2.1
  have h2 := h.2.2.2.1
  exact ⟨norm_len hf, norm_nonneg hf, norm_sum hf, by omega, by omega⟩
theorem right_bnds {c : List Int} (h : isRight c) : ∀ z ∈ c, -9223372036854775808 ≤ z ∧ z ≤ 9223372036854775807 := by
  intro z hz
  obtain ⟨i, hi, rfl⟩ := List.mem_iff_getElem.1 hz
  have := h.one i hi
  rw [List.getD_eq_getElem?_getD, List.getElem?_eq_getElem hi] at this
  simp only [Option.getD_some] at this
  omega
theorem right_seven {c : List Int} (h : isRight c) (h0 : tot c = 0) : isRight (c.set 7 1) ∧ 0 < tot (c.set 7 1) ∧ tot (c.set 7 1) ≤ 2621400 := by
  have hl := h.1
  have hs := tot_set c 7 1 (by omega)
  have h7 := h.one 7 (by omega)
  have hn : ∀ z ∈ c.set 7 1, 0 ≤ z := fun z hz => by
    rcases List.mem_or_eq_of_mem_set hz with h1 | h1
    · exact h.2.1 z h1
    · omega
  have hle : c.getD 7 0 ≤ tot c := by
    have := h.at 7 (by omega)
    have h1 := tot_take_succ c 7 (by omega)
    have h2 := tot_take_le c (7 + 1) h.2.1
    have h3 := tot_nonneg (c.take 7) fun z hz => h.2.1 z (List.mem_of_mem_take hz)
    omega
  exact ⟨⟨by rw [List.length_set]; exact hl, hn, by omega⟩, by omega, by omega⟩

set_option maxHeartbeats 2000000 in
theorem r8some_any (v : Value) (xs : List Nat) (r : Nat) (w : World) (h : RdH w v xs) (hx : ∀ x ∈ xs, x < 65536) (hl : xs.length < 10000000000) (hr : r < 256) :
    Calls Try.prog 14 #[v, .int .u8 (r : Int)] w fun e w' => ∃ v' q k, e = .returned (.tuple #[v', .int .i64 ((k : Nat) : Int)]) ∧ OwnI w' w.heap.size v' q ∧ NormQ q k ∧ 5 ≤ k ∧ k ≤ 9 ∧ Chg (fun _ => False) w w' := by
  have HS := Lib.hid (r5some_any v xs w h hx hl)
  have HRT := Lib.hid (someC_right xs hx)
  clear h hx hl
  obtain ⟨rr, hrr⟩ : ∃ rr, r % 5 = rr := ⟨_, rfl⟩
  have hrr' : (r : Int) % 5 = (rr : Int) := by omega
  obtain ⟨k0, hk0⟩ : ∃ k0, 5 + rr = k0 := ⟨_, rfl⟩
  have hkI : 5 + (rr : Int) = (k0 : Int) := by omega
  have hk9 : k0 ≤ 9 := by omega
  have hk5 : 5 ≤ k0 := by omega
  have hrr5 : (rr : Int) < 5 := by omega
  have HK9 := Lib.hid hk9; have HK5 := Lib.hid hk5
  clear hrr hk0 hk9 hk5
  go_enter Try.func14, Try.ntmps14
  go_wp2_with fail
  refine HS.out.mono ?_
  rintro e w1 ⟨v1, rfl, ho, hc⟩
  generalize hC : someC xs = C at *
  have hrt := HRT.out.1
  have htt := HRT.out.2
  obtain ⟨g, off, cap, rfl, -⟩ := id ho
  have HO := Lib.hid ho; have HC := Lib.hid hc; have HR := Lib.hid hrt; have HTT := Lib.hid htt
  clear ho hc HS HRT hC hrt htt
  go_wp2_with fail
  refine (r5total_any _ C w1 HO.out.rd (right_bnds HR.out) (by rw [HR.out.1]; omega)).mono ?_
  rintro e w1' ⟨rfl, rfl⟩
  rw [show totalI C = tot C by unfold totalI; rw [if_pos HR.out]]
  have h7 : 7 < C.length := by rw [HR.out.1]; omega
  have hsv := fun h0 => right_seven HR.out h0
  have htn := tot_nonneg C HR.out.2.1
  have hcell : w1'.cell? ⟨g, off + 7, none⟩ = some (.int .i64 (C.getD 7 0)) := by
    obtain ⟨g', off', he, hc⟩ := HO.out.rd.at 7 h7
    simp only [Option.some.injEq, Addr.mk.injEq] at he
    obtain ⟨rfl, rfl, -⟩ := he
    exact hc
  obtain ⟨hgw, hfr⟩ : w.heap.size ≤ g ∧ w1'.frozen? ⟨g, off + 7, none⟩ = false := by
    obtain ⟨g', off', cap', he, hb, -, -, hf⟩ := HO.out
    simp only [Value.slice.injEq, Option.some.injEq, Addr.mk.injEq] at he
    obtain ⟨⟨rfl, rfl, -⟩, -, -⟩ := he
    exact ⟨hb, hf 7⟩
  have hst := HO.out.store 7 h7 1
  have hc2 : Chg (fun _ => False) w (w1'.setCell ⟨g, off + 7, none⟩ (.int .i64 1)) := HC.out.trans (Chg.setCell w1' ⟨g, off + 7, none⟩ _) (fun q hq h => by simp at h; omega)
  have hn6 : C.length = 256 := HR.out.1
  obtain ⟨n, hn⟩ : ∃ n, C.length = n := ⟨_, rfl⟩
  rw [hn] at HO h7 hst hn6 ⊢
  have HST := Lib.hid hst; have HC2 := Lib.hid hc2; have HSV := Lib.hid hsv; have HN := Lib.hid hn6
  clear hst hc2 hsv hn hn6
  obtain ⟨T, hT⟩ : ∃ T, tot C = T := ⟨_, rfl⟩
  rw [hT] at HSV HTT htn ⊢
  have h7I : (7 : Int) < (n : Int) := by omega
  have HGW := Lib.hid hgw
  clear h7 hgw
  have key : ∃ (C' : List Int) (w2 : World), Hid (OwnI w2 w.heap.size (.slice (some ⟨g, off, none⟩) n cap) C' ∧ isRight C' ∧ 0 < tot C' ∧ Chg (fun _ => False) w w2) ∧ ((T = 0 ∧ w2 = w1'.setCell ⟨g, off + 7, none⟩ (.int .i64 1)) ∨ (T ≠ 0 ∧ w2 = w1')) := by
    by_cases h0 : T = 0
    · exact ⟨_, _, Lib.hid ⟨HST.out, (HSV.out h0).1, (HSV.out h0).2.1, HC2.out⟩, .inl ⟨h0, rfl⟩⟩
    · exact ⟨_, _, Lib.hid ⟨HO.out, HR.out, by omega, HC.out⟩, .inr ⟨h0, rfl⟩⟩
  obtain ⟨C', w2, KEY, hcase⟩ := key
  clear HST HC2 HSV HO HR HC HTT hT
  have HLEN := Lib.hid KEY.out.2.1.1
  have MN := Lib.hid <| r5many_any (.slice (some ⟨g, off, none⟩) n cap) C' w2 KEY.out.1.rd (right_bnds KEY.out.2.1) (by rw [HLEN.out]; omega)
  have hml := manyI_le C'
  have hmp : manyI C' = pos C' := by unfold manyI; rw [if_pos KEY.out.2.1]
  have HMP := Lib.hid hmp
  obtain ⟨M, hM⟩ : ∃ M, manyI C' = M := ⟨_, rfl⟩
  rw [hM] at MN hml HMP
  clear hM hmp
  have HCO := Lib.hid fun (k : Nat) (hk : k ≤ 9) => r8counts_any (.slice (some ⟨g, off, none⟩) n cap) C' (k : Int) w2 KEY.out.1.rd (right_bnds KEY.out.2.1) (by rw [HLEN.out]; omega) (by omega)
  have HNO := Lib.hid fun (k : Nat) (h5 : 5 ≤ k) (h9 : k ≤ 9) (hm : M ≤ 2 ^ k) => (show normOk C' (k : Int) from ⟨KEY.out.2.1, KEY.out.2.2.1, by omega, by omega, by rw [← HMP.out, Int.toNat_natCast]; omega⟩)
  rcases hcase with ⟨rfl, hw2⟩ | ⟨hT0, hw2⟩
  · go_wp2
    rw [← hw2]
    clear hw2 hcell hfr hrr' hkI
    go_loopw [7] (fun o7 wr => ∃ k : Nat, 5 ≤ k ∧ k ≤ 9 ∧ o7 = .int .i64 (k : Int) ∧ wr = w2) (fun o7 _ => 9 - (intOf o7).toNat)
    case atStart => exact ⟨k0, HK5.out, HK9.out, rfl, rfl⟩
    case round =>
      obtain ⟨k, h5, h9, rfl, rfl⟩ := hrel
      obtain ⟨P, hP⟩ : ∃ P, 2 ^ k = P := ⟨_, rfl⟩
      have hPI : (2 : Int) ^ k = (P : Int) := by rw [← hP]; simp
      have hk8 : P < 256 → k < 8 := fun h => by
        by_cases h8 : 8 ≤ k
        · have := pow_le h8
          have : (2 : Nat) ^ 8 = 256 := by decide
          omega
        · omega
      have hno := HNO.out k h5 h9
      rw [hP] at hno
      have hco := HCO.out k h9
      have HK8 := Lib.hid hk8; have HNK := Lib.hid hno; have HCK := Lib.hid hco
      have H5 := Lib.hid h5; have H9 := Lib.hid h9
      clear hk8 hno hco HNO HCO hP
      go_wp2_with fail
      refine (r8power_any k _ (by omega)).mono ?_
      rintro e w3 ⟨rfl, rfl⟩
      go_wp2_with fail
      refine MN.out.mono ?_
      rintro e w3 ⟨rfl, rfl⟩
      by_cases hlt : P < M
      · have hk8 := HK8.out (by omega)
        have dl : decide (P < M) = true := decide_eq_true hlt
        clear HK8 HNK HCK hlt
        go_wp2
        go_roundw
        case rel => exact ⟨k + 1, by omega, by omega, by go_num, trivial⟩
        case measure => simp [intOf]; omega
      · have hok := HNK.out (by omega)
        have HOK := Lib.hid hok
        clear hok HNK HK8
        go_wp2_with fail
        refine HCK.out.mono ?_
        rintro e w4 ⟨v4, rfl, ho4, -, hc4⟩
        rw [if_pos HOK.out]
        have HO4 := Lib.hid (ho4 HOK.out)
        have HC4 := Lib.hid hc4
        clear ho4 hc4 HCK
        go_wp2
        go_ret2
        exact ⟨_, _, k, rfl, HO4.out.mono KEY.out.2.2.2.size, norm_normQ HOK.out, H5.out, H9.out, KEY.out.2.2.2.trans HC4.out fun _ _ h => h⟩
  · have hT1 : (T == 0) = false := by simpa using hT0
    clear hT0
    go_wp2
    rw [← hw2]
    clear hw2 hcell hfr hrr' hkI
    go_loopw [7] (fun o7 wr => ∃ k : Nat, 5 ≤ k ∧ k ≤ 9 ∧ o7 = .int .i64 (k : Int) ∧ wr = w2) (fun o7 _ => 9 - (intOf o7).toNat)
    case atStart => exact ⟨k0, HK5.out, HK9.out, rfl, rfl⟩
    case round =>
      obtain ⟨k, h5, h9, rfl, rfl⟩ := hrel
      obtain ⟨P, hP⟩ : ∃ P, 2 ^ k = P := ⟨_, rfl⟩
      have hPI : (2 : Int) ^ k = (P : Int) := by rw [← hP]; simp
      have hk8 : P < 256 → k < 8 := fun h => by
        by_cases h8 : 8 ≤ k
        · have := pow_le h8
          have : (2 : Nat) ^ 8 = 256 := by decide
          omega
        · omega
      have hno := HNO.out k h5 h9
      rw [hP] at hno
      have hco := HCO.out k h9
      have HK8 := Lib.hid hk8; have HNK := Lib.hid hno; have HCK := Lib.hid hco
      have H5 := Lib.hid h5; have H9 := Lib.hid h9
      clear hk8 hno hco HNO HCO hP
      go_wp2_with fail
      refine (r8power_any k _ (by omega)).mono ?_
      rintro e w3 ⟨rfl, rfl⟩
      go_wp2_with fail
      refine MN.out.mono ?_
      rintro e w3 ⟨rfl, rfl⟩
      by_cases hlt : P < M
      · have hk8 := HK8.out (by omega)
        have dl : decide (P < M) = true := decide_eq_true hlt
        clear HK8 HNK HCK hlt
        go_wp2
        go_roundw
        case rel => exact ⟨k + 1, by omega, by omega, by go_num, trivial⟩
        case measure => simp [intOf]; omega
      · have hok := HNK.out (by omega)
        have HOK := Lib.hid hok
        clear hok HNK HK8
        go_wp2_with fail
        refine HCK.out.mono ?_
        rintro e w4 ⟨v4, rfl, ho4, -, hc4⟩
        rw [if_pos HOK.out]
        have HO4 := Lib.hid (ho4 HOK.out)
        have HC4 := Lib.hid hc4
        clear ho4 hc4 HCK
        go_wp2
        go_ret2
        exact ⟨_, _, k, rfl, HO4.out.mono KEY.out.2.2.2.size, norm_normQ HOK.out, H5.out, H9.out, KEY.out.2.2.2.trans HC4.out fun _ _ h => h⟩

end Go.Proofs.Ytkdfifkmgpogfaa
