/- slices.Clone of bytes; a bitf.Reader in memory; what bitf's begun, bitAt, Left, New do. -/
import Derived.Test.YthenjooffkbkpaaBrSplits
import Derived.Test.YthenjooffkbkpaaBwMany
namespace Go.Proofs.Ythenjooffkbkpaa
open Go.RowKit

theorem RdB.news {w : World} {a : Addr} {n cap : Nat} {xs : List Nat} (h : RdB w (.slice (some a) n cap) xs) : ∀ j u, (bv xs)[j]? = some u → w.cell? (a.add j) = some u := by
  intro j u hu
  rcases h with ⟨rfl, _⟩ | ⟨g, off, cap', he, hc⟩
  · simp [bv] at hu
  · simp only [Value.slice.injEq, Option.some.injEq] at he
    obtain ⟨rfl, rfl, rfl⟩ := he
    have hj : j < xs.length := by rw [← bv_length]; exact (List.getElem?_eq_some_iff.1 hu).1
    rw [bv_get xs j hj] at hu
    rw [← Option.some.inj hu, show (⟨g, off, none⟩ : Addr).add j = ⟨g, off + j, none⟩ from by unfold Addr.add; split <;> simp_all]
    exact hc j hj

theorem eqlNil (W : World) (a : Addr) (n c : Nat) : (binOp .eql 32 (.slice (some a) n c) (.slice none 0 0)).run Try.prog W = .ok (.bool false) W := by kernel_rfl
theorem eqlNil0 (W : World) (n c : Nat) : (binOp .eql 32 (.slice none n c) (.slice none 0 0)).run Try.prog W = .ok (.bool true) W := by kernel_rfl

set_option maxHeartbeats 1000000 in
theorem clone_any (v : Value) (xs : List Nat) (w : World) (h : RdB w v xs) (hl : xs.length < 100000000000) :
    Calls Try.prog 28 #[v] w fun e w' => ∃ v', e = .returned v' ∧ w'.ownsRow w.heap.size 5 1 v' xs.length (bv xs) ∧ Chg (fun _ => False) w w' := by
  obtain ⟨i, hi, hz0, hz1, hz2⟩ := info_parts Try.infoU8
  obtain ⟨ao, cap, hv⟩ := h.form
  subst hv
  cases ao with
  | none =>
    have h0 : xs = [] := by
      rcases h with ⟨h0, _⟩ | ⟨g, off, cap', he, _⟩
      · exact h0
      · simp at he
    subst h0
    clear h
    have hnil := eqlNil0 w 0 cap
    rw [List.length_nil]
    go_enter Try.func28, Try.ntmps28
    go_wp2
    go_ret
    exact ⟨_, rfl, by simpa [bv] using World.ownsRow_nil w w.heap.size 5 1, Chg.refl _ _⟩
  | some a =>
    have HCE := Lib.hid (RdB.news (h.kept (Chg.alloc (fun _ => False) w (.cells #[] 5)) (by simp)))
    clear h
    have hnil := eqlNil w a xs.length cap
    go_enter Try.func28, Try.ntmps28
    go_wp2_with (at_builtin; refine wpList_append_own _ rfl (.tmp 5) (.tmp 6) 32 rfl w.heap.size 5 i (.int .u8 0) 1 1 Try.underlying32 hi hz0 hz1 hz2 rfl (by decide) _ 0 _ rfl (World.ownsRow_made w #[] 0 (Nat.le_refl _) (by unfold maxLen; omega) rfl) a xs.length cap (bv xs) rfl (by rw [bv_length, Nat.mul_one]) HCE.out (bv_one xs) (by unfold maxLen; omega) (by omega) (by simp) ?_)
    intro v7 w7 ho7 hg7 _
    have hc7 : Chg (fun _ => False) w w7 := (Chg.alloc (fun _ => False) w _).trans (Chg.of_grown hg7) (fun j hj hx => by simp [Value.ownBlock] at hx; omega)
    have HO := Lib.hid ho7; have HC := Lib.hid hc7
    clear hg7 ho7 hc7
    go_wp2
    go_ret
    exact ⟨_, rfl, by simpa using HO.out, HC.out⟩

/-- The bitf.Reader at block b, its bytes xs in the block o (none: there are none), of which p bits were taken. -/
def Rf (w : World) (b : Nat) (o : Option Nat) (xs : List Nat) (p : Nat) : Prop :=
  (∀ x ∈ xs, x < 256) ∧ xs.length < 100000000000 ∧ p ≤ 8 * xs.length ∧
    ∃ v, w.heap[b]? = some (.cells #[v, .int .i64 (p : Int)] 56 (0, 0)) ∧ v.ownBlock = o ∧ w.ownsRow 0 5 1 v xs.length (bv xs)

theorem Rf.lt {w : World} {b : Nat} {o : Option Nat} {xs : List Nat} {p : Nat} (h : Rf w b o xs p) : b < w.heap.size ∧ ∀ k, o = some k → k < w.heap.size ∧ k ≠ b := by
  obtain ⟨_, _, _, v, hb, ho, hown⟩ := h
  refine ⟨lt_of_block hb, fun k hk => ?_⟩
  have hk' := ho.trans hk
  refine ⟨(hown.lt k hk').2, ?_⟩
  rcases hown.2 with ⟨rfl, _⟩ | ⟨q, cap, cur, rfl, _, hq, _⟩
  · simp [Value.ownBlock] at hk'
  · simp only [Value.ownBlock, Option.some.injEq] at hk'
    subst hk'
    rintro rfl
    rw [hb] at hq
    simp at hq

theorem Rf.kept {S : Nat → Prop} {w w' : World} {b : Nat} {o : Option Nat} {xs : List Nat} {p : Nat} (h : Rf w b o xs p) (hc : Chg S w w') (h1 : ¬ S b) (h2 : ∀ k, o = some k → ¬ S k) : Rf w' b o xs p := by
  have hl := h.lt
  obtain ⟨e1, e2, e3, v, hb, ho, hown⟩ := h
  exact ⟨e1, e2, e3, v, (hc.block b hl.1 h1).trans hb, ho, hc.own hown (fun k hk => h2 k (ho.symm.trans hk))⟩

theorem Rf.drewN {w : World} {b : Nat} {o : Option Nat} {xs : List Nat} {p : Nat} (h : Rf w b o xs p) (m : Nat) : Rf (w.drewN m) b o xs p := h

theorem begun_any (b p : Nat) (v : Value) (w : World) (hp : p < 1000000000000) (hb : w.heap[b]? = some (.cells #[v, .int .i64 (p : Int)] 56 (0, 0))) :
    Calls Try.prog 32 #[.pointer (some ⟨b, 0, none⟩)] w fun e w' => e = .returned (.int .i64 (((p + 7) / 8 : Nat) : Int)) ∧ w' = w := by
  obtain ⟨c0, c1, f0, f1⟩ := cells2 hb
  clear hb
  go_enter Try.func32, Try.ntmps32
  go_wp2
  go_ret
  exact ⟨congrArg (fun z => Ending.returned (Value.int .i64 z)) (by omega), rfl⟩

/-- the value is a slice of bytes -/
theorem fbitAt_any (g off i cap n x : Nat) (w : World) (hc : w.cell? ⟨g, off + i / 8, none⟩ = some (.int .u8 (x : Int))) (hi : i / 8 < n) (hi2 : i < 1000000000000) (hx : x < 256) :
    Calls Try.prog 33 #[.slice (some ⟨g, off, none⟩) n cap, .int .i64 (i : Int)] w fun e w' => e = .returned (.int .u32 ((x / 2 ^ (i % 8) % 2 : Nat) : Int)) ∧ w' = w := by
  have H := Lib.hid (and_one (x / 2 ^ (i % 8)) (by have := Nat.div_le_self x (2 ^ (i % 8)); omega))
  go_enter Try.func33, Try.ntmps33
  go_wp2
  go_ret
  refine ⟨congrArg (fun z => Ending.returned (Value.int .u32 z)) ?_, rfl⟩
  have e : ((x : Int) / 2 ^ (i % 8) % 4294967296) = ((x / 2 ^ (i % 8) : Nat) : Int) := by
    have e1 : ((x : Int) / 2 ^ (i % 8)) = ((x / 2 ^ (i % 8) : Nat) : Int) := by simp
    have := Nat.div_le_self x (2 ^ (i % 8))
    rw [e1]
    generalize x / 2 ^ (i % 8) = y at *
    omega
  rw [e]; exact H.out

theorem fbitAt_y (g off i cap n x y : Nat) (w : World) (hc : w.cell? ⟨g, off + i / 8, none⟩ = some (.int .u8 (x : Int))) (hi : i / 8 < n) (hi2 : i < 1000000000000) (hx : x < 256) (hy : x / 2 ^ (i % 8) % 2 = y) :
    Calls Try.prog 33 #[.slice (some ⟨g, off, none⟩) n cap, .int .i64 (i : Int)] w fun e w' => e = .returned (.int .u32 (y : Int)) ∧ w' = w := by
  rw [← hy]; exact fbitAt_any g off i cap n x w hc hi hi2 hx

theorem fleft_q (b : Nat) (o : Option Nat) (xs : List Nat) (p : Nat) (w : World) (h : Rf w b o xs p) :
    Calls Try.prog 21 #[.pointer (some ⟨b, 0, none⟩)] w fun e w' => e = .returned (.int .i64 ((8 * xs.length - p : Nat) : Int)) ∧ ∃ m, w' = w.drewN m := by
  obtain ⟨-, hl, hp, v, hb, -, hown⟩ := h
  obtain ⟨ao, cap, rfl, -⟩ := own_src hown
  obtain ⟨c0, c1, f0, f1⟩ := cells2 hb
  clear hb hown
  have hz : IntKind.i64.wrap ((xs.length : Int) * 8) = (xs.length : Int) * 8 := by rw [IntKind.wrap_i64]; omega
  go_enter Try.func21, Try.ntmps21
  go_wp2
  go_quiet (fail)
  go_wp2
  go_ret
  exact ⟨congrArg (fun z => Ending.returned (Value.int .i64 z)) (by omega), _, rfl⟩

theorem fleft_any (b : Nat) (o : Option Nat) (xs : List Nat) (p : Nat) (w : World) (h : Rf w b o xs p) :
    Calls Try.prog 21 #[.pointer (some ⟨b, 0, none⟩)] w fun e w' => e = .returned (.int .i64 ((8 * xs.length - p : Nat) : Int)) ∧ Chg (fun _ => False) w w' :=
  (fleft_q b o xs p w h).mono fun e w' ⟨h1, m, h2⟩ => ⟨h1, by rw [h2]; exact (Chg.refl _ _).drewN m⟩

theorem fnew_any (v : Value) (xs : List Nat) (w : World) (h : RdB w v xs) (hl : xs.length < 100000000000) (hx : ∀ x ∈ xs, x < 256) :
    Calls Try.prog 17 #[v] w fun e w' => ∃ b o, e = .returned (.pointer (some ⟨b, 0, none⟩)) ∧ Rf w' b o xs 0 ∧ Above w.heap.size b o ∧ Chg (fun _ => False) w w' := by
  go_enter Try.func17, Try.ntmps17
  go_wp2_with fail
  refine (clone_any v xs w h hl).mono ?_
  rintro e w1 ⟨v1, rfl, ho, hc⟩
  have hlt := ho.lt
  obtain ⟨ao, cap, hv, -⟩ := own_src ho
  subst hv
  have HO := Lib.hid ho; have HC := Lib.hid hc; have HLT := Lib.hid hlt
  have HX := Lib.hid hx
  clear h hx ho hc hlt
  go_wp2
  go_ret
  have hsz := HC.out.size
  exact ⟨w1.heap.size, (Value.slice ao xs.length cap).ownBlock, rfl, ⟨HX.out, hl, Nat.zero_le _, _, heap_alloc_new w1 _, rfl, ownsRow_mono (HO.out.alloc _) (Nat.zero_le _)⟩, ⟨hsz, fun k hk => (HLT.out k hk).1⟩, HC.out.trans (Chg.alloc _ w1 _) (fun _ _ h => h)⟩

end Go.Proofs.Ythenjooffkbkpaa
