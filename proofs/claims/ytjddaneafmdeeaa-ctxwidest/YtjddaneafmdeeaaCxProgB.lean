/- What ctx's Present and Widest tell. THIS ALONE SPEAKS OF THE PROGRAM'S OWN TEXT. -/
import Derived.Test.YtjddaneafmdeeaaCxProg
import Derived.Test.YtjddaneafmdeeaaCxMathC
import Derived.Test.YtjddaneafmdeeaaRowBo
namespace Go.Proofs.Ytjddaneafmdeeaa
open Go.RowKit

theorem RdB.init {w : World} {ao : Option Addr} {n cap : Nat} {xs : List Nat} (h : RdB w (.slice ao n cap) xs) (k : Nat) (hk : k ≤ xs.length) (c' : Nat) : RdB w (.slice ao k c') (xs.take k) := by
  rcases h with ⟨rfl, ao', c, he⟩ | ⟨g, off, cap', he, hc⟩
  · simp only [Value.slice.injEq] at he
    simp at hk
    exact .inl ⟨by simp, ao, c', by rw [hk]⟩
  · simp only [Value.slice.injEq] at he
    refine .inr ⟨g, off, c', by rw [he.1, List.length_take, Nat.min_eq_left hk], fun j hj => ?_⟩
    rw [List.length_take] at hj
    rw [hc j (by omega), List.getD_eq_getElem?_getD, List.getD_eq_getElem?_getD, List.getElem?_take, if_pos (by omega)]

/-- no more than there is room for -/
def RoomOk (v : Value) : Prop := ∀ ao len cap, v = .slice ao len cap → len ≤ cap

theorem RoomOk.of {ao : Option Addr} {len cap : Nat} (h : len ≤ cap) : RoomOk (.slice ao len cap) := fun _ _ _ e => by cases e; exact h

theorem presTo_row {A : List Int} {xs : List Nat} {k : Nat} (hk : k < 256) (hA : ∀ c : Nat, c < 256 → (0 < A.getD c 0 ↔ 0 < (sel xs (c : Int)).length)) : presTo xs (k + 1) = presTo xs k ++ if 0 < A.getD k 0 then [(k : Int)] else [] := by
  rw [presTo_succ]
  by_cases h : 0 < A.getD k 0
  · rw [if_pos h, if_pos ((hA k hk).1 h)]
  · rw [if_neg h, if_neg (fun h2 => h ((hA k hk).2 h2))]

set_option maxHeartbeats 2000000 in
theorem xpresent_any (v : Value) (xs : List Nat) (w : World) (h : RdB w v xs) (hx : ∀ x ∈ xs, x < 256) (hl : xs.length < 10000000000) (hr : RoomOk v) :
    Calls Try.prog 14 #[v] w fun e w' => ∃ v', e = .returned v' ∧ RdI w' v' (pres xs) ∧ Chg (fun _ => False) w w' := by
  obtain ⟨ao, cap, rfl⟩ := h.form
  have hcap := hr _ _ _ rfl
  have H := Lib.hid h; have HX := Lib.hid hx
  clear h hx hr
  by_cases h0 : xs.length = 0
  · obtain rfl : xs = [] := List.eq_nil_of_length_eq_zero h0
    have hp : pres [] = [] := by decide +kernel
    have HP := Lib.hid hp
    clear hp h0 hl HX hcap
    go_enter Try.func14, Try.ntmps14
    go_wp2
    go_ret
    rw [HP.out]
    exact ⟨_, rfl, .inl ⟨rfl, none, 0, rfl⟩, Chg.refl _ _⟩
  obtain ⟨n, hn⟩ : ∃ n, xs.length = n + 1 := ⟨xs.length - 1, by omega⟩
  have hA : ∀ c : Nat, c < 256 → _ := fun c hc => ahead_pos xs n c hn hc
  have HA := Lib.hid hA
  have HI := Lib.hid (H.out.init n (by omega) cap)
  have HT := Lib.hid (show ∀ x ∈ xs.take n, x < 256 from fun x hx => HX.out x (List.mem_of_mem_take hx))
  have HTL := Lib.hid (show (xs.take n).length < 100000000000 by rw [List.length_take]; omega)
  have HB0 := Lib.hid (cnt_bound (xs.take n) 0 (by omega))
  have e0 : ((xs.length : Int) == 0) = false := beq_eq_false_iff_ne.2 (by omega)
  have e1 : IntKind.i64.wrap ((xs.length : Int) - 1) = (n : Int) := by rw [IntKind.wrap_i64]; omega
  have hsl : ∀ W : World, (Instr.slice 22 (.slice ao xs.length cap) none (some (.int .i64 (n : Int))) none).run Try.prog W = .ok (.slice ao n cap) W := by
    intro W
    have hs : (sizeOf (Try.prog.elem 22)).run Try.prog W = .ok 1 W := by kernel_rfl
    rw [run_slice_h W 22 ao xs.length cap (by kernel_rfl) .i64 (n : Int) (by omega) (by omega), hs]
    simp [Result.andThen, sliced]
    exact fun _ => by cases ao <;> simp [Addr.add]
  clear hA hn h0 hcap
  obtain ⟨N, hN⟩ : ∃ N, xs.length = N := ⟨_, rfl⟩
  rw [hN] at e0 e1 hsl
  rw [hN]
  clear hN hl H HX
  go_enter Try.func14, Try.ntmps14
  go_wp2_with fail
  refine (hof_any _ (xs.take n) w HI.out HT.out HTL.out).mono ?_
  rintro e w1 ⟨v1, rfl, ho1, hc1⟩
  have hA := HA.out
  have hb0 := HB0.out
  have hlen : ((cnt (xs.take n)).set 0 ((cnt (xs.take n)).getD 0 0 + 1)).length = 256 := by rw [List.length_set, cnt_length]
  have ht : (xs.take n).length < 100000000000 := HTL.out
  have hcl := cnt_length (xs.take n)
  obtain ⟨C, hC⟩ : ∃ C, cnt (xs.take n) = C := ⟨_, rfl⟩
  rw [hC] at hA ho1 hb0 hlen hcl
  obtain ⟨z, hz⟩ : ∃ z, C.getD 0 0 = z := ⟨_, rfl⟩
  rw [hz] at hA hb0 hlen
  obtain ⟨g1, off1, cap1, rfl, hg1, hgl1, hcell1, hfr1⟩ := ho1
  have ho1 : OwnI w1 w.heap.size (.slice (some ⟨g1, off1, none⟩) C.length cap1) C := ⟨g1, off1, cap1, rfl, hg1, hgl1, hcell1, hfr1⟩
  have hst := ho1.store 0 (by rw [hcl]; omega) (z + 1)
  have hcs := hc1.trans (Chg.setCell w1 ⟨g1, off1 + 0, none⟩ (.int .i64 (z + 1))) (S := fun _ => False) (fun q hq h => by simp at h; omega)
  have hc0 := hcell1 0 (by rw [hcl]; omega)
  have hf0 := hfr1 0
  rw [hz] at hc0
  rw [hcl] at hst ⊢
  rw [Nat.add_zero] at hst hcs hc0 hf0
  have hz1 : 0 ≤ z := hb0.1
  have hz2 : z ≤ 100000000000 := by omega
  obtain ⟨D, hD⟩ : ∃ D, C.set 0 (z + 1) = D := ⟨_, rfl⟩
  rw [hD] at hst hA hlen
  have HST := Lib.hid hst; have HCS := Lib.hid hcs; have HDL := Lib.hid hlen; have HAA := Lib.hid hA
  clear HA HI HT HTL HB0 hA hb0 hlen ht hC hz hcell1 hfr1 ho1 hst hcs hD hc1 hcl hg1 hgl1
  go_wp2
  go_loopw [4, 23] (fun o4 o23 wr => ∃ (k : Nat) (vo : Value), k ≤ 256 ∧ o23 = .int .i64 (k : Int) ∧ vo = o4 ∧ wr.ownsRow (w1.setCell ⟨g1, off1, none⟩ (.int .i64 (z + 1))).heap.size 3 1 vo (presTo xs k).length (iw (presTo xs k)) ∧ Chg (fun _ => False) (w1.setCell ⟨g1, off1, none⟩ (.int .i64 (z + 1))) wr) (fun _ o23 _ => 256 - (intOf o23).toNat)
  case atStart => exact ⟨0, _, Nat.zero_le _, rfl, rfl, nil_owns _ _, Chg.refl _ _⟩
  case round =>
    obtain ⟨k, vo, hk, rfl, rfl, hown, hcg⟩ := hrel
    obtain ⟨W, hW⟩ : ∃ W, w1.setCell ⟨g1, off1, none⟩ (.int .i64 (z + 1)) = W := ⟨_, rfl⟩
    rw [hW] at hown hcg HST HCS ⊢
    clear hW hc0 hf0
    by_cases hlt : k < 256
    · obtain ⟨g, off, hao, hcell⟩ := (HST.out.rd.kept hcg (by simp)).at k (by rw [HDL.out]; exact hlt)
      obtain ⟨rfl, rfl⟩ : g1 = g ∧ off1 = off := by simpa using hao
      have hps := presTo_row hlt HAA.out
      have hpl := presTo_length xs k
      obtain ⟨x, hxe⟩ : ∃ x, D.getD k 0 = x := ⟨_, rfl⟩
      rw [hxe] at hcell hps
      have HOWN := Lib.hid hown; have HCG := Lib.hid hcg; have HPS := Lib.hid hps; have HPL := Lib.hid hpl
      clear hown hcg hps hpl hxe hao
      have hkI : (k : Int) < 256 := by omega
      have d0 : decide ((k : Int) < 256) = true := decide_eq_true hkI
      by_cases hx0 : 0 < x
      · have d1 : decide (0 < x) = true := decide_eq_true hx0
        have hst := HPS.out
        rw [if_pos hx0] at hst
        have hca := Chg.alloc (fun _ => False) wr (.cells #[.int .i64 (k : Int)] 3)
        have hrd := rdi_new wr [(k : Int)] #[.int .i64 (k : Int)] 1 (0, 0) rfl rfl
        have hoa := hca.own HOWN.out (by simp)
        have hz : W.heap.size ≤ (wr.alloc (.cells #[.int .i64 (k : Int)] 3)).heap.size := Nat.le_trans HCG.out.size hca.size
        have hlt3 := HOWN.out.lt
        have HCA := Lib.hid hca; have HRD := Lib.hid hrd; have HOA := Lib.hid hoa; have HZ := Lib.hid hz; have HLT3 := Lib.hid hlt3; have HP2 := Lib.hid hst
        clear hca hrd hoa hz hlt3 hst HPS
        go_wp2_with (at_builtin; refine wpList_append_ints rfl (.tmp 30) (.tmp 32) rfl W.heap.size vo (presTo xs k) rfl HOA.out _ [(k : Int)] rfl HRD.out HZ.out (by have := HPL.out; simp; omega) ?_)
        intro v4 w4 ho4 hc4
        have ho4 := (show w4.ownsRow W.heap.size 3 1 v4 (presTo xs k ++ [(k : Int)]).length (iw (presTo xs k ++ [(k : Int)])) by simpa using ho4)
        rw [← HP2.out] at ho4
        have hc4' : Chg (fun _ => False) W w4 := (HCG.out.trans HCA.out (fun _ _ h => h)).trans hc4 (fun q hq hx => by have := (HLT3.out q hx.symm).1; omega)
        clear hc4 HCA HRD HOA HZ HLT3 HP2
        go_wp2
        go_roundw
        case rel => exact ⟨k + 1, _, by omega, by go_num, rfl, ho4, hc4'⟩
        case measure => simp [intOf]; omega
      · have d1 : decide (0 < x) = false := decide_eq_false hx0
        have hst := HPS.out
        rw [if_neg hx0, List.append_nil] at hst
        have HP2 := Lib.hid hst
        clear hst HPS
        go_wp2
        go_roundw
        case rel => exact ⟨k + 1, _, by omega, by go_num, rfl, by rw [HP2.out]; exact HOWN.out, HCG.out⟩
        case measure => simp [intOf]; omega
    · have hk2 : (k : Int) = 256 := by omega
      obtain rfl : k = 256 := by omega
      have hrd := RdI.of_own hown
      have hq := HCS.out.trans hcg (fun _ _ h => h)
      have HRD := Lib.hid hrd; have HQ := Lib.hid hq
      clear hown hcg hrd hq
      go_wp2
      go_ret
      exact ⟨_, rfl, HRD.out, HQ.out⟩

end Go.Proofs.Ytjddaneafmdeeaa
