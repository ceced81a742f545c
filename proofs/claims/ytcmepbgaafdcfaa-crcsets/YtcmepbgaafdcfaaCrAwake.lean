/- What puncheonlaw04.awake tells: the chapter's examples hold. -/
import Derived.Test.YtcmepbgaafdcfaaCrTab
import Derived.Lib.SlBytesConst
namespace Go.Proofs.Ytcmepbgaafdcfaa
open Go.RowKit

theorem cadd_c (b : Nat) (v : Value) (s : Nat) (xs : List Nat) (w : World) (ht : Tb w b) (h : RdB w v xs) (hx : ∀ x ∈ xs, x < 256) (hs : s < 4294967296) (hl : xs.length < 100000000000) :
    Calls Try.prog 12 #[.pointer (some ⟨b, 0, none⟩), .int .u32 (s : Int), v] w fun e w' => e = .returned (.int .u32 ((crcAdd s xs : Nat) : Int)) ∧ Chg (fun _ => False) w w' :=
  (cadd_any b v s xs w ht h hx hs hl).mono fun e w' ⟨h1, m, h2⟩ => ⟨h1, by rw [h2]; exact (Chg.refl _ _).drewN m⟩

theorem cof_c (b : Nat) (v : Value) (xs : List Nat) (w : World) (ht : Tb w b) (h : RdB w v xs) (hx : ∀ x ∈ xs, x < 256) (hl : xs.length < 100000000000) :
    Calls Try.prog 10 #[.pointer (some ⟨b, 0, none⟩), v] w fun e w' => e = .returned (.int .u32 ((crcAdd 0 xs : Nat) : Int)) ∧ Chg (fun _ => False) w w' :=
  (cof_any b v xs w ht h hx hl).mono fun e w' ⟨h1, m, h2⟩ => ⟨h1, by rw [h2]; exact (Chg.refl _ _).drewN m⟩

theorem ex_none : crcAdd 0 [] = 0 := by decide +kernel
theorem ex_nine : crcAdd 0 [49, 50, 51, 52, 53, 54, 55, 56, 57] = 3421780262 := by decide +kernel

/-- bytes that the call has laid -/
theorem rdb_alloc (w : World) (xs : List Nat) (cs : Array Value) (n : Nat) (fr : Nat × Nat) (h : cs.toList = bv xs) (hn : n = xs.length) : RdB (w.alloc (.cells cs 5 fr)) (.slice (some ⟨w.heap.size, 0, none⟩) n n) xs := by
  subst hn
  refine .inr ⟨w.heap.size, 0, xs.length, rfl, fun j hj => ?_⟩
  rw [World.cell?_alloc_mark, Nat.zero_add, ← Array.getElem?_toList, h, bv_get xs j hj]

set_option maxHeartbeats 1000000 in
theorem awake4_any (w : World) : Calls Try.prog 8 #[] w fun e w' => e = .returned (.bool true) ∧ Chg (fun _ => False) w w' := by
  go_enter Try.func8, Try.ntmps8
  go_wp2_with fail
  refine (cnew_any w).mono ?_
  rintro e w1 ⟨b, rfl, t1, hb, hc1⟩
  go_wp2_with fail
  refine (cof_c b _ [] w1 t1 (.inl ⟨rfl, _, _, rfl⟩) (by simp) (by simp)).mono ?_
  rintro e w2 ⟨rfl, hc2⟩
  rw [ex_none]
  have t2 := t1.kept hc2 (by simp)
  have hc2' := hc1.trans hc2 (fun _ _ h => h)
  clear t1 hc1 hc2
  have hrd := rdb_alloc w2 [49, 50, 51, 52, 53, 54, 55, 56, 57] #[.int .u8 49, .int .u8 50, .int .u8 51, .int .u8 52, .int .u8 53, .int .u8 54, .int .u8 55, .int .u8 56, .int .u8 57] 9 (9, 10) rfl rfl
  have hca := Chg.alloc (fun _ => False) w2 (.cells #[.int .u8 49, .int .u8 50, .int .u8 51, .int .u8 52, .int .u8 53, .int .u8 54, .int .u8 55, .int .u8 56, .int .u8 57] 5 (9, 10))
  have t3 := t2.kept hca (by simp)
  have hc3' := hc2'.trans hca (fun _ _ h => h)
  have HR := Lib.hid hrd; have HT := Lib.hid t3; have HC := Lib.hid hc3'
  clear hrd t3 hc3' hca t2 hc2'
  have hconv := Lib.run_convert_bytes_const (P := Try.prog) w2 22 5 #[.int .u8 49, .int .u8 50, .int .u8 51, .int .u8 52, .int .u8 53, .int .u8 54, .int .u8 55, .int .u8 56, .int .u8 57] 9 9 Try.underlying22 Try.underlying5
  go_wp2_with fail
  refine (cof_c b _ _ _ HT.out HR.out (by decide) (by decide)).mono ?_
  rintro e w4 ⟨rfl, hc4⟩
  rw [ex_nine]
  have hc4' := HC.out.trans hc4 (fun _ _ h => h)
  clear hc4 HC HT HR
  go_wp2
  go_ret
  exact ⟨rfl, hc4'⟩

end Go.Proofs.Ytcmepbgaafdcfaa
