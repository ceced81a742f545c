/- What the methods of norm's queue do. THIS SPEAKS OF THE PROGRAM'S OWN TEXT. -/
import Derived.Test.YtnijfkbnggdbnaaNqBase
import Derived.StillTailTactics
import Derived.BigRegion
import Derived.Deep.RegionHeld3
namespace Go.Proofs.Ytnijfkbnggdbnaa
open Go.RowKit

section
variable {b B f X : Nat} {w : World} {l : List Sh}

theorem own_form {v : Value} {n : Nat} {xs : List Value} (h : w.ownsRow B 49 5 v n xs) : ∃ ao cap, v = .slice ao n cap := by
  rcases h.2 with ⟨rfl, rfl⟩ | ⟨g, cap, cur, rfl, _⟩
  · exact ⟨_, _, rfl⟩
  · exact ⟨_, _, rfl⟩
theorem own_ne {v : Value} {n : Nat} {xs : List Value} {cs : Array Value} {fr : Nat × Nat} (h : w.ownsRow B 49 5 v n xs) (hb : w.heap[b]? = some (.cells cs 53 fr)) : v.ownBlock ≠ some b := by
  intro he
  rcases h.2 with ⟨rfl, rfl⟩ | ⟨g, cap, cur, rfl, _, hg, _⟩
  · cases he
  · simp only [Value.ownBlock, Option.some.injEq] at he
    subst he
    rw [hb] at hg
    simp at hg
theorem Qr.cells (h : Qr b B f X w l) : ∃ ao cap, w.cell? ⟨b, 0, none⟩ = some (.slice ao l.length cap) ∧ w.cell? ⟨b, 1, none⟩ = some (.func (.func f) #[] #[]) ∧ w.frozen? ⟨b, 0, none⟩ = false ∧ w.ownsRow B 49 5 (.slice ao l.length cap) l.length (svs l) ∧ l.length ≤ 100000 := by
  obtain ⟨v, h1, h2, h3, h4⟩ := h
  obtain ⟨ao, cap, rfl⟩ := own_form h2
  exact ⟨ao, cap, by rw [cell_of_row w b 0 _ _ _ h1]; rfl, by rw [cell_of_row w b 1 _ _ _ h1]; rfl, frozen_of_row w b _ _ _ h1, h2, h3⟩
theorem Qr.kept {S : Nat → Prop} {w' : World} (h : Qr b B f X w l) (hc : Chg S w w') (hS : ∀ k, Sq B X k → ¬ S k) : Qr b B f X w' l := by
  obtain ⟨v, h1, h2, h3, h4, h5, h6, h7⟩ := h
  refine ⟨v, (hc.block b (lt_of_block h1) (hS b ⟨h4, h5⟩)).trans h1, hc.own h2 ?_, h3, h4, h5, h6, Nat.lt_of_lt_of_le h7 hc.size⟩
  intro k hk
  exact hS k ⟨(h2.lt k hk).1, fun he => h6 (by rw [hk, he])⟩
theorem Qr.small (h : Qr b B f X w l) : l.length < 1000000000 := by obtain ⟨v, h1, h2, h3, h4⟩ := h; omega

set_option maxHeartbeats 1000000 in
theorem qlen_any (h : Qr b B f X w l) : Calls Try.prog 57 #[.pointer (some ⟨b, 0, none⟩)] w fun e w' => e = .returned (.int .i64 ((l.length : Nat) : Int)) ∧ Qr b B f X w' l ∧ Chg (Sq B X) w w' := by
  obtain ⟨ao, cap, h1, h2, -, -⟩ := h.cells
  have H := Lib.hid h
  clear h
  go_enter Try.func57, Try.ntmps57
  go_wp2
  go_ret
  exact ⟨rfl, H.out, Chg.refl _ _⟩

theorem own_slice {w : World} {ao : Option Addr} {n cap : Nat} {xs : List Value} (h : w.ownsRow B 49 5 (.slice ao n cap) n xs) (hn : 0 < n) : ∃ g, ao = some ⟨g, 0, none⟩ ∧ B ≤ g := by
  rcases h.2 with ⟨h1, h2⟩ | ⟨g, cap', cur, he, hb, hg, _⟩
  · omega
  · simp only [Value.slice.injEq] at he
    exact ⟨g, he.1, hb⟩
theorem own_at {w : World} {g n cap : Nat} (h : w.ownsRow B 49 5 (.slice (some ⟨g, 0, none⟩) n cap) n (svs l)) (hl : l.length = n) (i : Nat) (hi : i < n) :
    w.cell? ⟨g, i * 5, none⟩ = some (.int .i64 (l.getD i default).sym) ∧ w.cell? ⟨g, i * 5 + 1, none⟩ = some (.int .i64 (l.getD i default).cnt) ∧ w.cell? ⟨g, i * 5 + 2, none⟩ = some (.int .i64 (l.getD i default).plc) ∧
    w.cell? ⟨g, i * 5 + 3, none⟩ = some (.int .i64 (l.getD i default).lft) ∧ w.cell? ⟨g, i * 5 + 4, none⟩ = some (.bool (l.getD i default).rai) := by
  have hg := svs_get l i (by omega)
  rw [h.cellAt (i * 5) (by omega), h.cellAt (i * 5 + 1) (by omega), h.cellAt (i * 5 + 2) (by omega), h.cellAt (i * 5 + 3) (by omega), h.cellAt (i * 5 + 4) (by omega)]
  exact hg

set_option maxHeartbeats 1000000 in
theorem qless_any {lt : Sh → Sh → Bool} (hff : f = 31 ∨ f = 34) (hf : ∀ a c w, Calls Try.prog f #[sv a, sv c] w fun e w' => e = .returned (.bool (lt a c)) ∧ Chg (fun _ => False) w w') (h : Qr b B f X w l) (i j : Nat) (hi : i < l.length) (hj : j < l.length) :
    Calls Try.prog 58 #[.pointer (some ⟨b, 0, none⟩), .int .i64 (i : Int), .int .i64 (j : Int)] w fun e w' => e = .returned (.bool (lt (l.getD i default) (l.getD j default))) ∧ Qr b B f X w' l ∧ Chg (Sq B X) w w' := by
  obtain ⟨ao, cap, h1, h2, -, h3, h4⟩ := h.cells
  obtain ⟨g, rfl, hg⟩ := own_slice h3 (by omega)
  obtain ⟨n, hn⟩ : ∃ n, l.length = n := ⟨_, rfl⟩
  rw [hn] at h1 h3 hi hj
  obtain ⟨a0, a1, a2, a3, a4⟩ := own_at h3 hn i hi
  obtain ⟨c0, c1, c2, c3, c4⟩ := own_at h3 hn j hj
  have H := Lib.hid h
  obtain ⟨x, hx⟩ : ∃ x, l.getD i default = x := ⟨_, rfl⟩
  obtain ⟨y, hy⟩ : ∃ y, l.getD j default = y := ⟨_, rfl⟩
  rw [hx] at a0 a1 a2 a3 a4 ⊢
  rw [hy] at c0 c1 c2 c3 c4 ⊢
  have hfx := hf x y w.drew
  have HF := Lib.hid hfx
  have hin : (i : Int) < (n : Int) := by omega
  have hjn : (j : Int) < (n : Int) := by omega
  clear h h3 hf hfx hn hx hy
  obtain ⟨s1, k1, p1, l1, r1⟩ := x
  obtain ⟨s2, k2, p2, l2, r2⟩ := y
  unfold sv at HF
  simp only [] at HF a0 a1 a2 a3 a4 c0 c1 c2 c3 c4 
  rcases hff with rfl | rfl
  · go_enter Try.func58, Try.ntmps58
    go_wp2
    go_still_tail 18, (by kernel_rfl)
    change wpList _ _ _ _ _ w.drew
    go_wp2_with fail
    refine HF.out.mono ?_
    rintro e w2 ⟨rfl, hc⟩
    have HC := Lib.hid hc
    clear hc
    go_wp2
    go_ret
    have hcw : Chg (fun _ => False) w w2 := (Chg.refl (fun _ => False) w).drew.trans HC.out (fun _ _ h => h)
    exact ⟨rfl, H.out.kept hcw (by simp), hcw.mono fun _ _ h => h.elim⟩
  · go_enter Try.func58, Try.ntmps58
    go_wp2
    go_still_tail 18, (by kernel_rfl)
    change wpList _ _ _ _ _ w.drew
    go_wp2_with fail
    refine HF.out.mono ?_
    rintro e w2 ⟨rfl, hc⟩
    have HC := Lib.hid hc
    clear hc
    go_wp2
    go_ret
    have hcw : Chg (fun _ => False) w w2 := (Chg.refl (fun _ => False) w).drew.trans HC.out (fun _ _ h => h)
    exact ⟨rfl, H.out.kept hcw (by simp), hcw.mono fun _ _ h => h.elim⟩

end

end Go.Proofs.Ytnijfkbnggdbnaa
