/- What puncheonlaw02.awake tells: the chapter's example holds. -/
import Derived.Test.YtdejfoemofhpdaaBrNew
namespace Go.Proofs.Ytdejfoemofhpdaa
open Go.RowKit

theorem take_in (b g : Nat) (bs : List Bool) (n : Int) (w : World) (h : Rr w b g bs) (hn0 : 0 ≤ n) (hn : n ≤ 24) (hl : n ≤ bs.length) :
    Calls Try.prog 11 #[.pointer (some ⟨b, 0, none⟩), .int .i64 n] w fun e w' => e = .returned (.tuple #[.int .u32 ((takeV bs n.toNat : Nat) : Int), .bool true]) ∧ Rr w' b g (takeR bs n.toNat) ∧ Chg (fun k => k = b) w w' := by
  obtain ⟨m, rfl⟩ := Int.eq_ofNat_of_zero_le hn0
  exact take_yes b g bs m w h (by omega) (by omega)

theorem ex_open : openB [45] = [true, false, true, true, false] := by decide +kernel
theorem ex_take : takeV [true, false, true, true, false] 2 = 1 ∧ takeR [true, false, true, true, false] 2 = [true, false, true] ∧ takeV [true, false, true] 3 = 5 ∧ takeR [true, false, true] 3 = [] := by decide +kernel

theorem one_rdb (w : World) (x : Nat) : RdB (w.alloc (.cells #[.int .u8 (x : Int)] 5)) (.slice (some ⟨w.heap.size, 0, none⟩) 1 1) [x] := by
  refine .inr ⟨w.heap.size, 0, 1, rfl, fun j hj => ?_⟩
  have : j = 0 := by simpa using hj
  subst this
  rw [cell_of_row _ _ 0 _ _ _ (heap_alloc_new w _)]; rfl

set_option maxHeartbeats 1000000 in
theorem awake2_any (w : World) : Calls Try.prog 8 #[] w fun e w' => e = .returned (.bool true) ∧ Chg (fun _ => False) w w' := by
  have H1 := Lib.hid (one_rdb w 45)
  have HC1 := Lib.hid (Chg.alloc (fun _ => False) w (.cells #[.int .u8 ((45 : Nat) : Int)] 5))
  go_enter Try.func8, Try.ntmps8
  go_wp2_with fail
  refine (rnew_ok _ [45] _ H1.out (by decide) (by decide) (by decide)).mono ?_
  rintro e w1 ⟨b, g, rfl, h1, hb, hg, hc1⟩
  have hc1' : Chg (fun _ => False) w w1 := HC1.out.trans hc1 (fun _ _ h => h)
  have z1 : w.heap.size ≤ b := by have := HC1.out.size; omega
  rw [ex_open] at h1
  clear hc1 H1 HC1 hb hg
  go_wp2_with fail
  refine (left_any b g _ w1 h1).mono ?_
  rintro e w2 ⟨rfl, rfl⟩
  go_wp2_with fail
  refine (take_in b g _ 2 w1 h1 (by decide) (by decide) (by decide)).mono ?_
  rintro e w3 ⟨rfl, h3, hc3⟩
  have hc3' : Chg (fun _ => False) w w3 := hc1'.trans hc3 (fun k hk h => by omega)
  rw [show (2 : Int).toNat = 2 from rfl, ex_take.2.1] at h3
  rw [show (2 : Int).toNat = 2 from rfl, ex_take.1]
  clear hc3 h1 hc1'
  go_wp2_with fail
  refine (take_in b g _ 3 w3 h3 (by decide) (by decide) (by decide)).mono ?_
  rintro e w4 ⟨rfl, h4, hc4⟩
  have hc4' : Chg (fun _ => False) w w4 := hc3'.trans hc4 (fun k hk h => by omega)
  rw [show (3 : Int).toNat = 3 from rfl, ex_take.2.2.2] at h4
  rw [show (3 : Int).toNat = 3 from rfl, ex_take.2.2.1]
  clear hc4 h3 hc3'
  go_wp2_with fail
  refine (left_any b g _ w4 h4).mono ?_
  rintro e w5 ⟨rfl, rfl⟩
  go_wp2
  go_ret
  exact ⟨rfl, hc4'⟩

end Go.Proofs.Ytdejfoemofhpdaa
