/- RunsPuts' walk. -/
import Derived.Test.YthenjooffkbkpaaRnTakes
namespace Go.Proofs.Ythenjooffkbkpaa
open Go.RowKit

/-- all numbers put, one behind the other -/
def rnAll (bs : List Bool) : List Int → List Bool
  | [] => bs
  | z :: r => rnAll (rnPutB bs z) r
theorem rnAll_append (bs : List Bool) (a b : List Int) : rnAll bs (a ++ b) = rnAll (rnAll bs a) b := by
  induction a generalizing bs with
  | nil => rfl
  | cons p r ih => exact ih _
theorem rnAll_succ (bs : List Bool) (zs : List Int) (k : Nat) (h : k < zs.length) : rnAll bs (zs.take (k + 1)) = rnPutB (rnAll bs (zs.take k)) (zs.getD k 0) := by
  rw [List.take_succ_eq_append_getElem h, rnAll_append, List.getD_eq_getElem?_getD, List.getElem?_eq_getElem h]; rfl
theorem rnAll_length (bs : List Bool) (zs : List Int) : (rnAll bs zs).length ≤ bs.length + 172 * zs.length := by
  induction zs generalizing bs with
  | nil => simp [rnAll]
  | cons p r ih =>
    have h1 := rnPutB_length bs p
    have h2 := rnCost_le p
    have h3 := ih (rnPutB bs p)
    simp only [rnAll, List.length_cons]; omega
theorem rnAll_take (zs : List Int) (k : Nat) (h : k ≤ 30) : (rnAll [] (zs.take k)).length ≤ 5160 := by
  have h1 := rnAll_length [] (zs.take k)
  have h2 : (zs.take k).length ≤ k := List.length_take_le _ _
  simp only [List.length_nil] at h1; omega

set_option maxRecDepth 20000 in
set_option maxHeartbeats 4000000 in
theorem runsPuts_walk (v : Value) (zs : List Int) (w : World) (h : RdI w v zs) (hf : ∀ z ∈ zs, -9223372036854775808 ≤ z ∧ z ≤ 9223372036854775807) :
    Calls Try.prog 3 #[v] w fun e w' => e = .returned (.bool true) ∧ Chg (fun _ => False) w w' := by
  obtain ⟨ao, cap, rfl⟩ := h.form
  have H := Lib.hid h; have HF := Lib.hid hf
  clear h hf
  by_cases hbig : 30 < zs.length
  · have hb' : decide (30 < (zs.length : Int)) = true := decide_eq_true (by omega)
    go_enter Try.func3, Try.ntmps3
    go_wp2_with fail
    refine (awake14_any w).mono ?_
    rintro e w1 ⟨rfl, hc1⟩
    go_wp2
    go_ret
    exact ⟨rfl, hc1⟩
  have hb' : decide (30 < (zs.length : Int)) = false := decide_eq_false (by omega)
  go_enter Try.func3, Try.ntmps3
  go_wp2_with fail
  refine (awake14_any w).mono ?_
  rintro e w1 ⟨rfl, hc1⟩
  have C1 := Lib.hid hc1
  clear hc1
  go_wp2_with fail
  refine (new_wr w1).mono ?_
  rintro e w2 ⟨rfl, hw2, hc2⟩
  obtain ⟨b, hb⟩ : ∃ b, w1.heap.size = b := ⟨_, rfl⟩
  rw [hb] at hw2 ⊢
  have HBW := Lib.hid (show w.heap.size ≤ b by have := C1.out.size; omega)
  have W2 := Lib.hid hw2; have C2 := Lib.hid (C1.out.next hc2)
  clear hw2 hc2 C1 hb
  go_wp2
  go_loopw [5, 6, 7, 8] (fun o5 o6 _ _ wr => ∃ (k : Nat) (o : Option Nat), k ≤ zs.length ∧ o6 = .int .i64 (k : Int) ∧ Wr wr b o (rnAll [] (zs.take k)) ∧ Above w.heap.size b o ∧ wr.ownsRow w.heap.size 4 1 o5 (rnAll [] (zs.take k)).length (bl (rnAll [] (zs.take k))) ∧ Chg (fun _ => False) w wr) (fun _ o6 _ _ _ => zs.length - (intOf o6).toNat)
  case atStart => exact ⟨0, none, Nat.zero_le _, rfl, W2.out, ⟨HBW.out, by simp⟩, World.ownsRow_nil _ _ _ _, C2.out⟩
  case round =>
    obtain ⟨k, o, hk, rfl, hwr, hab, hbo, hcr⟩ := hrel
    clear W2 C2
    have hbl := rnAll_take zs k (by omega)
    by_cases hlt : k < zs.length
    · obtain ⟨g, off, rfl, c0⟩ := (H.out.kept hcr (by simp)).at k hlt
      have hfit := HF.out _ (getD_mem hlt)
      have hsu := rnAll_succ [] zs k hlt
      have HCELL : Hid (∀ W : World, Chg (fun _ => False) w W → W.cell? ⟨g, off + k, none⟩ = some (.int .i64 (zs.getD k 0))) := by
        refine Lib.hid fun W hW => ?_
        obtain ⟨g', off', he, hcc⟩ := (H.out.kept hW (by simp)).at k hlt
        simp only [Option.some.injEq, Addr.mk.injEq, and_true] at he
        obtain ⟨rfl, rfl⟩ := he
        exact hcc
      obtain ⟨x, hq⟩ : ∃ x, zs.getD k 0 = x := ⟨_, rfl⟩
      rw [hq] at c0 hfit hsu HCELL
      obtain ⟨A, hA⟩ : ∃ A, rnAll [] (zs.take k) = A := ⟨_, rfl⟩
      rw [hA] at hwr hbo hbl hsu
      have hpl := rnPutB_length A x
      have hcl := rnCost_le x
      have hok : decide (rnOk x) = decide (A.length < (rnPutB A x).length) := by
        rw [hpl]
        refine decide_eq_decide.2 ⟨fun hh => ?_, fun hh => ?_⟩
        · have : rnCostN x = 2 * (x.toNat / 3) + 2 := by unfold rnCostN; rw [if_pos hh]
          omega
        · by_cases h1 : rnOk x
          · exact h1
          · have : rnCostN x = 0 := by unfold rnCostN; rw [if_neg h1]
            omega
      have HCOST := Lib.hid fun W => rncost_any x W hfit
      obtain ⟨ct, hct⟩ : ∃ ct, rnCostN x = ct := ⟨_, rfl⟩
      rw [hct] at hpl hcl HCOST
      have RP := Lib.hid (r14put_any _ A x w.heap.size wr hbo hcr.size (by omega))
      obtain ⟨u5a, u5c, rfl, -⟩ := own_src hbo
      obtain ⟨n, hn⟩ : ∃ n, A.length = n := ⟨_, rfl⟩
      rw [hn] at RP hpl hok ⊢
      have WR := Lib.hid hwr; have AB := Lib.hid hab; have CR := Lib.hid hcr; have SU := Lib.hid hsu; have PL := Lib.hid hpl; have HN := Lib.hid hn; have HFIT := Lib.hid hfit; have HLT := Lib.hid hlt; have HBLN := Lib.hid hbl; have OK := Lib.hid hok
      have hn5 : (n : Int) ≤ 5160 := by omega
      have hct13 : (ct : Int) ≤ 172 := by omega
      clear hwr hab hbo hcr hsu hpl hn hq hA hct hbl hok
      go_wp2_with fail
      refine (RP.out).mono ?_
      rintro e w3 ⟨v3, rfl, ho3, hc3⟩
      have C3 := Lib.hid (CR.out.next hc3)
      have W3 := Lib.hid (WR.out.kept hc3 (by simp) (by simp))
      obtain ⟨B, hB⟩ : ∃ B, rnPutB A x = B := ⟨_, rfl⟩
      have hokB := OK.out
      have hlB := PL.out
      rw [hB] at ho3 hokB hlB
      have SUB := Lib.hid (SU.out.trans hB)
      obtain ⟨a3, cp3, rfl, -⟩ := own_src ho3
      obtain ⟨m, hm⟩ : ∃ m, B.length = m := ⟨_, rfl⟩
      rw [hm] at hokB hlB ⊢
      have hmI : (m : Int) - (n : Int) = (ct : Int) := by omega
      have hm6 : (m : Int) ≤ 5400 := by omega
      have O3 := Lib.hid ho3; have HM := Lib.hid hm
      have PUT := Lib.hid (rnput_any b o A x w3 W3.out (by have := HBLN.out; omega) HFIT.out)
      rw [hokB, hB] at PUT
      have hq1 : ((ct : Int) != (ct : Int)) = false := by simp
      have hq2 : ((m : Int) != (m : Int)) = false := by simp
      have c0' := HCELL.out w3 C3.out
      clear hc3 ho3 hB hm WR CR c0 RP hokB hlB OK PL SU
      obtain ⟨bc, hbc⟩ : ∃ bc, decide (n < m) = bc := ⟨_, rfl⟩
      rw [hbc] at PUT
      have hbI : decide ((n : Int) < (m : Int)) = bc := by rw [← hbc]; exact decide_eq_decide.2 (by omega)
      have hq3 : (bc != bc) = false := by simp
      go_wp2_with fail
      refine (PUT.out).mono ?_
      rintro e w4 ⟨rfl, o4, hw4, hc4, ho4⟩
      have C4 := Lib.hid (C3.out.up hc4 AB.out); have AB4 := Lib.hid (AB.out.step (w := w3) C3.out.size ho4); have W4 := Lib.hid hw4
      have O4 := Lib.hid (hc4.own O3.out (bools_apart O3.out W3.out))
      have c04 := HCELL.out w4 C4.out
      clear hw4 hc4 ho4 c0' PUT W3 O3 C3
      go_wp2_with fail
      refine (HCOST.out _).mono ?_
      rintro e w5 ⟨rfl, hc5⟩
      have C5 := Lib.hid (C4.out.next hc5); have W5 := Lib.hid (W4.out.kept hc5 (by simp) (by simp)); have O5 := Lib.hid (hc5.own O4.out (fun _ _ => by simp))
      clear hc5 W4 O4 C4 c04
      go_wp2_with fail
      refine (bits_any b o4 B w5 W5.out).mono ?_
      rintro e w6 ⟨rfl, rfl⟩
      rw [HM.out]
      go_wp2
      go_roundw
      case rel => exact ⟨k + 1, o4, by have := HLT.out; omega, by go_num, by rw [SUB.out]; exact W5.out, AB4.out, by have := O5.out; rw [SUB.out]; rw [HM.out] at this ⊢; exact this, C5.out⟩
      case measure => simp [intOf]; have := HLT.out; omega
    · obtain rfl : k = zs.length := by omega
      obtain ⟨A, hA⟩ : ∃ A, rnAll [] (zs.take zs.length) = A := ⟨_, rfl⟩
      rw [hA] at hwr hbo hbl
      have WR := Lib.hid hwr; have BO := Lib.hid hbo; have CR := Lib.hid hcr; have HBL := Lib.hid hbl
      clear hwr hbo hcr hab hA hbl
      go_wp2_with fail
      refine (bytes_any b o A wr WR.out (by have := HBL.out; omega)).mono ?_
      rintro e w5 ⟨g5, cap5, rfl, r5, hc5⟩
      have BO5 := Lib.hid (hc5.own BO.out (fun _ _ => by simp))
      have C5 := Lib.hid (CR.out.next hc5)
      have R5 := Lib.hid (RdB.of_own r5)
      clear hc5 r5 BO CR
      go_wp2_with fail
      refine (rbytes_any _ A w5 ⟨_, BO5.out⟩ (by have := HBL.out; omega)).mono ?_
      rintro e w6 ⟨g6, cap6, rfl, r6, hc6⟩
      have C6 := Lib.hid (C5.out.next hc6)
      have R56 := Lib.hid (R5.out.kept hc6 (by simp))
      have R6 := Lib.hid (RdB.of_own r6)
      clear hc6 r6 C5 R5
      go_wp2_with fail
      refine (same_any _ _ _ _ w6 R56.out R6.out (pack_lt _) (pack_lt _)).mono ?_
      rintro e w7 ⟨rfl, rfl⟩
      rw [show decide (pack A = pack A) = true from decide_eq_true rfl]
      go_wp2
      go_ret
      exact ⟨rfl, C6.out⟩

end Go.Proofs.Ythenjooffkbkpaa
