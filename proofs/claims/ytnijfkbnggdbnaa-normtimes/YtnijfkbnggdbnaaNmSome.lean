/- Counts that are told by few numbers: what puncheonref05.Some tells. -/
import Derived.Test.YtnijfkbnggdbnaaNmRefB
namespace Go.Proofs.Ytnijfkbnggdbnaa
open Go.RowKit

/-- The value v is a slice of the uint16s xs. -/
def RdH (w : World) (v : Value) (xs : List Nat) : Prop :=
  (xs = [] ∧ ∃ ao c, v = .slice ao 0 c) ∨ ∃ g off cap, v = .slice (some ⟨g, off, none⟩) xs.length cap ∧ ∀ j, j < xs.length → w.cell? ⟨g, off + j, none⟩ = some (.int .u16 ((xs.getD j 0 : Nat) : Int))
theorem RdH.form {w : World} {v : Value} {xs : List Nat} (h : RdH w v xs) : ∃ ao cap, v = .slice ao xs.length cap := by
  rcases h with ⟨rfl, ao, c, rfl⟩ | ⟨g, off, cap, rfl, _⟩
  · exact ⟨ao, c, rfl⟩
  · exact ⟨_, cap, rfl⟩
theorem RdH.at {w : World} {ao : Option Addr} {n cap : Nat} {xs : List Nat} (h : RdH w (.slice ao n cap) xs) (k : Nat) (hk : k < xs.length) : ∃ g off, ao = some ⟨g, off, none⟩ ∧ w.cell? ⟨g, off + k, none⟩ = some (.int .u16 ((xs.getD k 0 : Nat) : Int)) := by
  rcases h with ⟨h0, _⟩ | ⟨g, off, cap', he, hc⟩
  · rw [h0] at hk; simp at hk
  · simp only [Value.slice.injEq] at he
    exact ⟨g, off, he.1, hc _ hk⟩
theorem RdH.kept {S : Nat → Prop} {w w' : World} {v : Value} {xs : List Nat} (h : RdH w v xs) (hc : Chg S w w') (hS : ∀ k, v.ownBlock = some k → ¬ S k) : RdH w' v xs := by
  rcases h with h | ⟨g, off, cap, rfl, hcell⟩
  · exact .inl h
  · refine .inr ⟨g, off, cap, rfl, fun j hj => ?_⟩
    have := hcell j hj
    have hlt : g < w.heap.size := block_lt_of_cell this
    rw [World.cell?_of_block (w := w) (hc.block g hlt (hS g rfl))]; exact this

/-- the counts that the first k pairs tell -/
def someTo (l : List Nat) : Nat → List Int
  | 0 => List.replicate 256 0
  | k + 1 => (someTo l k).set (l.getD (2 * k) 0 % 256) ((l.getD (2 * k + 1) 0 : Nat) : Int)
theorem someTo_succ (l : List Nat) (k : Nat) : someTo l (k + 1) = (someTo l k).set (l.getD (2 * k) 0 % 256) ((l.getD (2 * k + 1) 0 : Nat) : Int) := rfl
def pairsN (l : List Nat) : Nat := min (l.length / 2) 40
def someC (l : List Nat) : List Int := someTo l (pairsN l)

theorem someTo_facts (l : List Nat) (hx : ∀ x ∈ l, x < 65536) (k : Nat) (hk : 2 * k ≤ l.length) : (someTo l k).length = 256 ∧ (∀ s, s < 256 → 0 ≤ (someTo l k).getD s 0) ∧ tot (someTo l k) ≤ 65535 * (k : Int) := by
  induction k with
  | zero =>
    refine ⟨List.length_replicate, fun s hs => ?_, ?_⟩
    · show 0 ≤ (List.replicate 256 (0 : Int)).getD s 0
      rw [List.getD_eq_getElem?_getD, List.getElem?_replicate, if_pos hs]; exact Int.le_refl _
    · show tot (List.replicate 256 0) ≤ _
      rw [tot_zeros]; simp
  | succ k ih =>
    obtain ⟨i1, i2, i3⟩ := ih (by omega)
    rw [someTo_succ]
    have hv : l.getD (2 * k + 1) 0 < 65536 := by
      rw [List.getD_eq_getElem?_getD, List.getElem?_eq_getElem (by omega)]
      exact hx _ (List.getElem_mem _)
    have hm : l.getD (2 * k) 0 % 256 < 256 := Nat.mod_lt _ (by omega)
    generalize l.getD (2 * k) 0 % 256 = u at *
    generalize l.getD (2 * k + 1) 0 = y at *
    refine ⟨by rw [List.length_set]; exact i1, fun s hs => ?_, ?_⟩
    · rw [iset_getD _ _ _ _ (by omega)]
      split
      · omega
      · exact i2 s hs
    · have := tot_set (someTo l k) u (y : Int) (by omega)
      have := i2 u hm
      omega

theorem someC_len (l : List Nat) (hx : ∀ x ∈ l, x < 65536) : (someC l).length = 256 := (someTo_facts l hx (pairsN l) (by unfold pairsN; omega)).1
theorem someC_right (l : List Nat) (hx : ∀ x ∈ l, x < 65536) : isRight (someC l) ∧ tot (someC l) ≤ 2621400 := by
  obtain ⟨h1, h2, h3⟩ := someTo_facts l hx (pairsN l) (by unfold pairsN; omega)
  have hp : (pairsN l : Int) ≤ 40 := by unfold pairsN; omega
  have ht : tot (someC l) ≤ 2621400 := by unfold someC; omega
  refine ⟨⟨h1, fun c hc => ?_, by omega⟩, ht⟩
  obtain ⟨i, hi, rfl⟩ := List.mem_iff_getElem.1 hc
  have hl' : (someC l).length = 256 := h1
  have : 0 ≤ (someC l).getD i 0 := h2 i (by omega)
  rw [List.getD_eq_getElem?_getD, List.getElem?_eq_getElem hi] at this
  exact this

set_option maxHeartbeats 2000000 in
set_option maxRecDepth 100000 in
theorem r5some_any (v : Value) (xs : List Nat) (w : World) (h : RdH w v xs) (hx : ∀ x ∈ xs, x < 65536) (hl : xs.length < 10000000000) :
    Calls Try.prog 16 #[v] w fun e w' => ∃ v', e = .returned v' ∧ OwnI w' w.heap.size v' (someC xs) ∧ Chg (fun _ => False) w w' := by
  obtain ⟨ao, cap, rfl⟩ := h.form
  have H := Lib.hid h; have HX := Lib.hid hx
  have hpn : pairsN xs = min (xs.length / 2) 40 := rfl
  have hsc : someC xs = someTo xs (pairsN xs) := rfl
  obtain ⟨N, hN⟩ : ∃ N, pairsN xs = N := ⟨_, rfl⟩
  rw [hN] at hpn hsc
  have HPN := Lib.hid hpn; have HSC := Lib.hid hsc
  clear h hx hpn hsc hN
  go_enter Try.func16, Try.ntmps16
  go_wp2_with (at_make; refine wpList_make_ints rfl _ _ rfl 256 256 256 rfl rfl rfl rfl (by omega) (someTo xs 0) rfl ?_)
  intro w1 h1 hc1
  have H1 := Lib.hid h1; have HC1 := Lib.hid hc1
  clear h1 hc1
  go_wp2
  go_loopw [4] (fun o4 wr => ∃ k : Nat, k ≤ N ∧ o4 = .int .i64 ((2 * k : Nat) : Int) ∧ RowI wr w.heap.size 3 (someTo xs k) ∧ Chg (fun _ => False) w wr) (fun o4 _ => 2 * N - (intOf o4).toNat)
  case atStart => exact ⟨0, Nat.zero_le _, rfl, H1.out, HC1.out⟩
  case round =>
    obtain ⟨k, hk, rfl, hrow, hc⟩ := hrel
    clear H1 HC1
    have hpn := HPN.out
    obtain ⟨i, hi⟩ : ∃ i, 2 * k = i := ⟨_, rfl⟩
    have hlen := (someTo_facts xs HX.out k (by omega)).1
    rw [hi]
    by_cases hlt : k < N
    · have hi1 : i + 1 < xs.length := by omega
      have hi80 : i < 80 := by omega
      have hi1I : (i : Int) + 1 < (xs.length : Int) := by omega
      have hi80I : (i : Int) < 80 := by omega
      have hiI : (i : Int) < (xs.length : Int) := by omega
      obtain ⟨g, off, rfl, c1⟩ := (H.out.kept hc (by simp)).at i (by omega)
      obtain ⟨g', off', he, c2⟩ := (H.out.kept hc (by simp)).at (i + 1) hi1
      simp only [Option.some.injEq, Addr.mk.injEq] at he
      obtain ⟨rfl, rfl, -⟩ := he
      have hst := someTo_succ xs k
      rw [hi] at hst
      have hy : xs.getD (i + 1) 0 < 65536 := by
        rw [List.getD_eq_getElem?_getD, List.getElem?_eq_getElem hi1]; exact HX.out _ (List.getElem_mem _)
      have hx : xs.getD i 0 < 65536 := by
        rw [List.getD_eq_getElem?_getD, List.getElem?_eq_getElem (by omega)]; exact HX.out _ (List.getElem_mem _)
      obtain ⟨x, hxe⟩ : ∃ x, xs.getD i 0 = x := ⟨_, rfl⟩
      obtain ⟨y, hye⟩ : ∃ y, xs.getD (i + 1) 0 = y := ⟨_, rfl⟩
      rw [hxe] at c1 hst hx
      rw [hye] at c2 hst hy
      obtain ⟨u, hu⟩ : ∃ u, x % 256 = u := ⟨_, rfl⟩
      have hu' : (x : Int) % 256 = (u : Int) := by omega
      have hut : (x : Int).tmod 256 = (u : Int) := by rw [Int.tmod_eq_emod_of_nonneg (by omega)]; exact hu'
      have hu256 : u < 256 := by omega
      have huI : (u : Int) < 256 := by omega
      rw [hu] at hst
      have a0 := hrow.cell u (by rw [hlen]; exact hu256)
      have f0 := hrow.free u
      have r2 := hrow.set u (y : Int)
      rw [← hst] at r2
      have hc2 : Chg (fun _ => False) w (wr.setCell ⟨w.heap.size, u, none⟩ (.int .i64 (y : Int))) := hc.trans (Chg.setCell wr ⟨w.heap.size, u, none⟩ _) (fun q hq h => by simp at h; omega)
      obtain ⟨i1, hi1e⟩ : ∃ i1, i + 1 = i1 := ⟨_, rfl⟩
      rw [hi1e] at c2 hi1
      have he1 : (i : Int) + 1 = (i1 : Int) := by omega
      have hw1 : IntKind.i64.wrap (i1 : Int) = (i1 : Int) := by rw [IntKind.wrap_i64]; omega
      have hi1J : (i1 : Int) < (xs.length : Int) := by omega
      have hi1K : (0 : Int) ≤ (i1 : Int) := by omega
      have hw2 : IntKind.u16.wrap (u : Int) = (u : Int) := by rw [IntKind.wrap_u16]; omega
      have hw3 : IntKind.i64.wrap (y : Int) = (y : Int) := by rw [IntKind.wrap_i64]; omega
      generalize (someTo xs k).getD u 0 = old at a0
      have R2 := Lib.hid r2; have C2 := Lib.hid hc2; have HI := Lib.hid hi; have HPN2 := Lib.hid hpn
      clear r2 hc2 hrow hc hst hxe hye hu hi hpn hlen hi1I hi1e
      go_wp2
      go_still_tail 13, (by kernel_rfl)
      change wpList _ _ _ _ _ wr.drew
      go_wp2
      go_roundw
      case rel => exact ⟨k + 1, by omega, by have := HI.out; simp; omega, R2.out, C2.out.drew⟩
      case measure => simp [intOf]; have := HI.out; have := HPN2.out; omega
    · obtain rfl : k = N := by omega
      rw [← HSC.out] at hrow hlen
      have own := hrow.own 256 w.heap.size (Nat.le_refl _)
      rw [hlen] at own
      have OWN := Lib.hid own; have CC := Lib.hid hc
      clear hrow own hc hlen
      have hiB : (i : Int) ≤ 80 := by omega
      by_cases hi1 : (i : Int) + 1 < (xs.length : Int)
      · have hi80 : ¬ (i : Int) < 80 := by omega
        clear hpn hi
        go_wp2
        go_ret
        exact ⟨_, rfl, OWN.out, CC.out⟩
      · have hi1N : ¬ i + 1 < xs.length := by omega
        have d1 : decide ((i : Int) + 1 < (xs.length : Int)) = false := decide_eq_false hi1
        clear hpn hi
        go_wp2
        go_ret
        exact ⟨_, rfl, OWN.out, CC.out⟩

end Go.Proofs.Ytnijfkbnggdbnaa
