/- HeaderCost's walk. -/
import Derived.Test.YtllkfmnofklpmaaHdCut
import Derived.Test.YtllkfmnofklpmaaHdPuts
import Derived.Test.YtllkfmnofklpmaaBase3
namespace Go.Proofs.Ytllkfmnofklpmaa
open Go.RowKit

theorem RdB.head {w : World} {ao : Option Addr} {n cap : Nat} {xs : List Nat} (h : RdB w (.slice ao n cap) xs) (k : Nat) (hk : k ≤ xs.length) (c' : Nat) : RdB w (.slice ao k c') (xs.take k) := by
  by_cases hz : k = 0
  · exact .inl ⟨by rw [hz]; rfl, _, _, by rw [hz]⟩
  rcases h with ⟨h0, _⟩ | ⟨g, off, cp, he, hc⟩
  · rw [h0] at hk; simp at hk; omega
  · simp only [Value.slice.injEq] at he
    obtain ⟨rfl, rfl, rfl⟩ := he
    have elen : (xs.take k).length = k := by rw [List.length_take]; omega
    refine .inr ⟨g, off, c', by rw [elen], fun j hj => ?_⟩
    rw [elen] at hj
    rw [hc j (by omega)]
    simp [List.getD_eq_getElem?_getD, hj]

set_option maxRecDepth 20000 in
set_option maxHeartbeats 4000000 in
theorem headerCost_walk (v : Value) (xs : List Nat) (r a : Nat) (w : World) (h : RdH w v xs) (hx : ∀ x ∈ xs, x < 65536) (hr : r < 256) (ha : a < 65536) :
    Calls Try.prog 7 #[v, .int .u8 (r : Int), .int .u16 (a : Int)] w fun e w' => e = .returned (.bool true) ∧ Chg (fun _ => False) w w' := by
  obtain ⟨ao, cap, rfl⟩ := h.form
  have H := Lib.hid h; have HX := Lib.hid hx
  clear h hx
  have haI : (a : Int) < 65536 := by omega
  by_cases h80 : 80 < xs.length
  · have d3 : decide (80 < (xs.length : Int)) = true := decide_eq_true (by omega)
    go_enter Try.func7, Try.ntmps7
    go_wp2_with fail
    refine (awake15_any _).mono ?_
    rintro e w1 ⟨rfl, hc⟩
    go_wp2
    go_ret
    exact ⟨rfl, hc⟩
  have d3 : decide (80 < (xs.length : Int)) = false := decide_eq_false (by omega)
  go_enter Try.func7, Try.ntmps7
  go_wp2_with fail
  refine (awake15_any _).mono ?_
  rintro e w1 ⟨rfl, hc⟩
  have C1 := Lib.hid hc
  clear hc
  go_wp2_with fail
  refine (r8some_room _ xs r _ (H.out.kept C1.out (by simp)) HX.out (by omega) hr).mono ?_
  rintro e w2 ⟨v2, q, k, rfl, ho, hq, hk5, hk9, hc2, hrm⟩
  have HRM := Lib.hid hrm
  clear hrm
  have C2 := Lib.hid (C1.out.next hc2)
  have RQ2 := Lib.hid ho.rd
  have HQ := Lib.hid hq; have HBD := Lib.hid hq.bnd; have HQL := Lib.hid (show q.length < 100000000000 by rw [hq.1]; omega)
  have HOB := Lib.hid (show ∀ j, v2.ownBlock = some j → j < w2.heap.size by
    obtain ⟨g, off, cp, rfl, -, hl, -⟩ := ho
    intro j hj
    have : g = j := by simpa [Value.ownBlock] using hj
    omega)
  have hk64 : (k : Int) ≤ 9 := by omega
  clear ho hq hc2 C1
  go_wp2_with fail
  refine (new_wr w2).mono ?_
  rintro e w3 ⟨rfl, hw3, hc3⟩
  obtain ⟨b, hb⟩ : ∃ b, w2.heap.size = b := ⟨_, rfl⟩
  rw [hb] at hw3 ⊢
  have C3 := Lib.hid (C2.out.next hc3)
  have HW2 := Lib.hid hb
  have HBW := Lib.hid (show w.heap.size ≤ b by have := C2.out.size; omega)
  have AB := Lib.hid (show Above w.heap.size b none from ⟨HBW.out, by simp⟩)
  have NE := Lib.hid (show ∀ j, v2.ownBlock = some j → ¬ (j = b ∨ some j = (none : Option Nat)) from fun j hj => by have := HOB.out j hj; simp; omega)
  have RQ3 := Lib.hid (RQ2.out.kept hc3 (by simp))
  have PUT := Lib.hid (hdput_any b none [] v2 q w3 hw3 (by simp) RQ3.out HRM.out (fun _ => NE.out) HBD.out HQL.out)
  have hcost := HQ.out.cost
  have hsome : 0 < (hdBits q).length := by rw [HQ.out.bits]; exact hdGo_some 256 (by omega)
  have COST := Lib.hid fun W (hW : RdI W v2 q) => hdcost_any v2 q W hW HRM.out HBD.out HQL.out
  have SH := Lib.hid fun ys (hc : cutBits ys 0 (hdBits q)) => hd_short HQ.out hc
  rw [List.nil_append] at PUT
  obtain ⟨A, hA⟩ : ∃ A, hdBits q = A := ⟨_, rfl⟩
  rw [hA] at PUT hcost hsome COST SH
  obtain ⟨m, hm⟩ : ∃ m, A.length = m := ⟨_, rfl⟩
  rw [hm] at hcost hsome COST
  have hmI : (m : Int) ≤ 256 * ((k : Int) + 3) := by omega
  have hm2 : (m : Int) ≤ 3840 := by omega
  have HM := Lib.hid hm; have HM2 := Lib.hid (show 0 < m ∧ m ≤ 3840 from ⟨hsome, by omega⟩)
  clear hw3 hc3 hb hA hm hcost hsome RQ2 C2
  go_wp2_with fail
  refine (PUT.out).mono ?_
  rintro e w4 ⟨rfl, o4, hw4, hc4, ho4⟩
  have C4 := Lib.hid (C3.out.up hc4 AB.out); have W4 := Lib.hid hw4; have RQ4 := Lib.hid (RQ3.out.kept hc4 NE.out)
  have WL4 := Lib.hid hw4.lt
  clear hw4 hc4 ho4 PUT C3 RQ3
  go_wp2_with fail
  refine (bytes_any b o4 A w4 W4.out (by rw [HM.out]; have := HM2.out; omega)).mono ?_
  rintro e w5 ⟨g5, cap5, rfl, r5, hc5⟩
  have hcap : (pack A).length ≤ cap5 ∧ cap5 ≤ maxLen := by
    rcases r5.2 with ⟨h0, _⟩ | ⟨g', cp, cur, he, _, _, h1, h2, _⟩
    · simp at h0
    · simp only [Value.slice.injEq] at he
      obtain ⟨-, -, rfl⟩ := he
      exact ⟨h1, h2⟩
  have C5 := Lib.hid (C4.out.next hc5); have W5 := Lib.hid (W4.out.kept hc5 (by simp) (by simp)); have RQ5 := Lib.hid (RQ4.out.kept hc5 (by simp)); have S5 := Lib.hid hc5.size
  have RB5 := Lib.hid (RdB.of_own r5)
  have hpl := pack_length A
  have CUT := Lib.hid (cut_pack A)
  have PLT := Lib.hid (pack_lt A)
  obtain ⟨ys, hys⟩ : ∃ ys, pack A = ys := ⟨_, rfl⟩
  rw [hys] at hcap RB5 hpl CUT PLT ⊢
  obtain ⟨n, hn⟩ : ∃ n, ys.length = n := ⟨_, rfl⟩
  rw [hn] at hcap RB5 hpl CUT ⊢
  have hn0 : 0 < n := by rw [hpl, HM.out]; have := HM2.out; omega
  have hn5 : n ≤ 500 := by rw [hpl, HM.out]; have := HM2.out; omega
  obtain ⟨c, hc⟩ : ∃ c, a % n = c := ⟨_, rfl⟩
  have hcn : c < n := by rw [← hc]; exact Nat.mod_lt _ hn0
  have hcI : (a : Int) % (n : Int) = (c : Int) := by rw [← hc]; simp
  have hcT : (a : Int).tmod (n : Int) = (c : Int) := by rw [Int.tmod_eq_emod_of_nonneg (by omega)]; exact hcI
  have hs : ∀ W, (sizeOf (Try.prog.elem 31)).run Try.prog W = .ok 1 W := fun W => by kernel_rfl
  have hsl : ∀ W : World, (Instr.slice 31 (.slice (some ⟨g5, 0, none⟩) n cap5) none (some (.int .i64 (c : Int))) none).run Try.prog W = .ok (.slice (some ⟨g5, 0, none⟩) c cap5) W := by
    intro W
    rw [run_slice_h W 31 _ n cap5 (by kernel_rfl) .i64 (c : Int) (by omega) (by omega), hs]
    simp [Result.andThen, sliced, Addr.add]
  have HN := Lib.hid hn; have HCN := Lib.hid hcn
  have RH := Lib.hid fun W (hW : RdB W (.slice (some ⟨g5, 0, none⟩) n cap5) ys) => hW.head c (by rw [HN.out]; omega) cap5
  have hsh := SH.out _ (CUT.out c hcn)
  have hnI : (0 : Int) < (n : Int) := by omega
  have hnI5 : (n : Int) ≤ 500 := by omega
  have hnz : ((n : Int) == 0) = false := by simp; omega
  have hcnI : (c : Int) < (n : Int) := by omega
  clear r5 hc5 C4 W4 RQ4 hcap hpl hys hn hc hs SH CUT hcn
  obtain ⟨zs, hzs⟩ : ∃ zs, ys.take c = zs := ⟨_, rfl⟩
  rw [hzs] at hsh RH
  have HZS := Lib.hid (show zs.length < 100000000000 ∧ ∀ y ∈ zs, y < 256 from ⟨by rw [← hzs, List.length_take, HN.out]; omega, fun y hy => PLT.out y (List.mem_of_mem_take (by rw [hzs]; exact hy))⟩)
  have HSH := Lib.hid hsh
  clear hzs hsh
  have NW := Lib.hid fun W (hW : RdB W (.slice (some ⟨g5, 0, none⟩) n cap5) ys) => fnew_any _ zs W (RH.out W hW) HZS.out.1 HZS.out.2
  go_wp2_with fail
  refine (NW.out w5 RB5.out).mono ?_
  rintro e w6 ⟨br, orr, rfl, r6, ab6, hc6⟩
  have C6 := Lib.hid (C5.out.next hc6); have W6 := Lib.hid (W5.out.kept hc6 (by simp) (by simp)); have RQ6 := Lib.hid (RQ5.out.kept hc6 (by simp))
  have HBR := Lib.hid (show b < br ∧ (∀ j, o4 = some j → j < br) ∧ (∀ j, v2.ownBlock = some j → j < br) from ⟨by have := ab6.1; have := S5.out; have := WL4.out.1; omega, fun j hj => by have := ab6.1; have := S5.out; have := (WL4.out.2 j hj).2; omega, fun j hj => by
    have h1 := HOB.out j hj; have h2 := ab6.1; have h3 := S5.out; have h4 := WL4.out.1; have h5 := HW2.out; omega⟩)
  have TK := Lib.hid (hdtake_any br orr zs 0 (k : Int) w6 r6 (by omega))
  rw [HSH.out.1, HSH.out.2] at TK
  clear r6 ab6 hc6 C5 W5 RQ5 NW RB5
  go_wp2_with fail
  refine (TK.out).mono ?_
  rintro e w7 ⟨v7, rfl, q7, -, -, -, hc7⟩
  obtain ⟨a7, cp7, rfl⟩ := q7.form
  have C7 := Lib.hid (C6.out.trans hc7 (S := fun _ => False) (fun j hj (hh : j = br) => by have := HBR.out.1; have := HBW.out; omega))
  have W7 := Lib.hid (W6.out.kept hc7 (fun (hh : b = br) => by have := HBR.out.1; omega) (fun j hj (hh : j = br) => by have := HBR.out.2.1 j hj; omega))
  have RQ7 := Lib.hid (RQ6.out.kept hc7 (fun j hj (hh : j = br) => by have := HBR.out.2.2 j hj; omega))
  clear q7 hc7 C6 W6 RQ6 TK
  have dle : decide ((m : Int) ≤ 256 * ((k : Int) + 3)) = true := decide_eq_true hmI
  have hmm : ((m : Int) == (m : Int)) = true := by simp
  go_wp2_with fail
  refine (COST.out w7 RQ7.out).mono ?_
  rintro e w8 ⟨rfl, hc8⟩
  have C8 := Lib.hid (C7.out.next hc8); have W8 := Lib.hid (W7.out.kept hc8 (by simp) (by simp)); have RQ8 := Lib.hid (RQ7.out.kept hc8 (by simp))
  clear hc8 C7 W7 RQ7
  go_wp2_with fail
  refine (bits_any b o4 A w8 W8.out).mono ?_
  rintro e w9 ⟨rfl, rfl⟩
  rw [HM.out]
  go_wp2_with fail
  refine (COST.out w8 RQ8.out).mono ?_
  rintro e w10 ⟨rfl, hc10⟩
  have C10 := Lib.hid (C8.out.next hc10)
  clear hc10
  go_wp2
  go_ret
  exact ⟨rfl, C10.out⟩

end Go.Proofs.Ytllkfmnofklpmaa
