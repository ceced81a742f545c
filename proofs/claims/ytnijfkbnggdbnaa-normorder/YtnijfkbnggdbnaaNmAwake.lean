/- What puncheonlaw08.awake tells: the chapter's examples hold. -/
import Derived.Test.YtnijfkbnggdbnaaNmProg
namespace Go.Proofs.Ytnijfkbnggdbnaa
open Go.RowKit

def exC : List Int := ((List.replicate 256 0).set 0 5).set 1 3 |>.set 2 2
theorem ex_norm : ∃ Q : List Int, normR exC 3 = Q ∧ normOk exC 3 ∧ Q.length = 256 ∧ Q.getD 0 0 = 4 ∧ Q.getD 1 0 = 2 ∧ Q.getD 2 0 = 2 ∧ logI (totalI Q) = 3 := by
  refine ⟨_, rfl, ?_, ?_, ?_, ?_, ?_, ?_⟩ <;> decide +kernel
theorem exC_len : exC.length = 256 := by decide +kernel
theorem exC_bnd : ∀ z ∈ exC, -9223372036854775808 ≤ z ∧ z ≤ 9223372036854775807 := by decide +kernel

theorem normR_bnd {c : List Int} {r : Int} (h : normOk c r) : ∀ z ∈ normR c r, -9223372036854775808 ≤ z ∧ z ≤ 9223372036854775807 := by
  intro z hz
  have h0 := norm_nonneg h.fit z hz
  have hs := norm_sum h.fit
  obtain ⟨i, hi, rfl⟩ := List.mem_iff_getElem.1 hz
  have h1 := tot_take_le (normR c r) (i + 1) (norm_nonneg h.fit)
  rw [tot_take_succ _ i hi, List.getD_eq_getElem?_getD, List.getElem?_eq_getElem hi] at h1
  simp only [Option.getD_some] at h1
  have h2 := tot_nonneg ((normR c r).take i) (fun y hy => norm_nonneg h.fit y (List.mem_of_mem_take hy))
  have h3 : tot (normR c r) = ((2 ^ r.toNat : Nat) : Int) := hs
  have h4 := pow12 (k := r.toNat) (by have := h.2.2.2.1; omega)
  omega

set_option maxHeartbeats 2000000 in
set_option maxRecDepth 100000 in
theorem awake8_any (w : World) : Calls Try.prog 9 #[] w fun e w' => e = .returned (.bool true) ∧ Chg (fun _ => False) w w' := by
  obtain ⟨Q, hQ, hok, hlen, e0, e1, e2, hlg⟩ := ex_norm
  have HQ := Lib.hid hQ; have HOK := Lib.hid hok; have HLEN := Lib.hid hlen; have E0 := Lib.hid e0; have E1 := Lib.hid e1; have E2 := Lib.hid e2; have HLG := Lib.hid hlg
  have HBD := Lib.hid (hQ ▸ normR_bnd hok)
  clear hQ hok hlen e0 e1 e2 hlg
  obtain ⟨Z, hZ⟩ : ∃ Z : List Int, Z = List.replicate 256 0 := ⟨_, rfl⟩
  have hZl : Z.length = 256 := by rw [hZ]; exact List.length_replicate
  have hE : (((Z.set 0 5).set 1 3).set 2 2) = exC := by rw [hZ]; rfl
  have HZL := Lib.hid hZl; have HE := Lib.hid hE; have HZ := Lib.hid hZ
  clear hZl hE hZ
  go_enter Try.func9, Try.ntmps9
  go_wp2_with (at_make; refine wpList_make_ints rfl _ _ rfl 256 256 256 rfl rfl rfl rfl (by omega) Z HZ.out ?_)
  intro w1 r1 c1
  obtain ⟨g, hg⟩ : ∃ g, g = w.heap.size := ⟨_, rfl⟩
  rw [← hg] at r1 ⊢
  have s0 := Chg.setCell w1 ⟨g, 0, none⟩ (.int .i64 5)
  have r2 := r1.set 0 5
  have a0 := r1.cell 0 (by rw [HZL.out]; omega)
  have f0 := r1.free 0
  obtain ⟨W1, hW1⟩ : ∃ W1, w1.setCell ⟨g, 0, none⟩ (.int .i64 5) = W1 := ⟨_, rfl⟩
  rw [hW1] at s0 r2
  have s1 := Chg.setCell W1 ⟨g, 1, none⟩ (.int .i64 3)
  have r3 := r2.set 1 3
  have a1 := r2.cell 1 (by rw [List.length_set, HZL.out]; omega)
  have f1 := r2.free 1
  obtain ⟨W2, hW2⟩ : ∃ W2, W1.setCell ⟨g, 1, none⟩ (.int .i64 3) = W2 := ⟨_, rfl⟩
  rw [hW2] at s1 r3
  have s2 := Chg.setCell W2 ⟨g, 2, none⟩ (.int .i64 2)
  have r4 := r3.set 2 2
  have a2 := r3.cell 2 (by rw [List.length_set, List.length_set, HZL.out]; omega)
  have f2 := r3.free 2
  obtain ⟨W3, hW3⟩ : ∃ W3, W2.setCell ⟨g, 2, none⟩ (.int .i64 2) = W3 := ⟨_, rfl⟩
  rw [hW3] at s2 r4
  rw [HE.out] at r4
  have hc : Chg (fun _ => False) w W3 := ((c1.trans s0 (S := fun _ => False) (fun q hq hh => by simp at hh; omega)).trans s1 (fun q hq hh => by simp at hh; omega)).trans s2 (fun q hq hh => by simp at hh; omega)
  have rd := r4.rd 256
  rw [exC_len] at rd
  generalize Z.getD 0 0 = z0 at a0
  generalize (Z.set 0 5).getD 1 0 = z1 at a1
  generalize ((Z.set 0 5).set 1 3).getD 2 0 = z2 at a2
  have HRD := Lib.hid rd; have HC := Lib.hid hc
  clear rd hc r1 r2 r3 r4 s0 s1 s2 c1 HE HZ HZL hg
  go_wp2_with fail
  refine (ncounts_any _ exC 3 W3 HRD.out exC_bnd (by rw [exC_len]; omega) (by decide)).mono ?_
  rintro e w5 ⟨v5, rfl, hyes, -, hc5⟩
  rw [if_pos HOK.out]
  have ho := hyes HOK.out
  rw [HQ.out] at ho
  have q5 := HC.out.trans hc5 (fun _ _ h => h)
  obtain ⟨g5, o5, cap5, rfl, -, hgl, hcell, -⟩ := id ho
  have hrd := ho.rd
  have k0 := hcell 0 (by rw [HLEN.out]; omega)
  have k1 := hcell 1 (by rw [HLEN.out]; omega)
  have k2 := hcell 2 (by rw [HLEN.out]; omega)
  rw [E0.out, Nat.add_zero] at k0
  rw [E1.out] at k1
  rw [E2.out] at k2
  rw [HLEN.out] at hrd ⊢
  have HRD5 := Lib.hid hrd
  have KEEP : Hid (∀ W : World, Chg (fun _ => False) w5 W → W.cell? ⟨g5, o5, none⟩ = some (.int .i64 4) ∧ W.cell? ⟨g5, o5 + 1, none⟩ = some (.int .i64 2) ∧ W.cell? ⟨g5, o5 + 2, none⟩ = some (.int .i64 2)) := Lib.hid fun W hW => by
    refine ⟨?_, ?_, ?_⟩ <;> rw [World.cell?_of_block (w := w5) (hW.block g5 hgl (by simp))]
    · exact k0
    · exact k1
    · exact k2
  have HL := Lib.hid (show Q.length < 100000000000 by rw [HLEN.out]; omega)
  clear hyes ho hc5 hcell hrd k0 k1 k2 hgl HC HRD a0 a1 a2 f0 f1 f2 hW1 hW2 hW3
  go_wp2_with fail
  refine (nlog_any _ Q w5 HRD5.out HBD.out HL.out).mono ?_
  rintro e w6 ⟨rfl, hc6⟩
  rw [HLG.out]
  have q6 := q5.trans hc6 (fun _ _ h => h)
  obtain ⟨k0, k1, k2⟩ := KEEP.out w6 hc6
  have HRD6 := Lib.hid (HRD5.out.kept hc6 (by simp))
  clear q5 hc6 KEEP HRD5
  go_wp2_with fail
  refine (nright_any _ Q 3 w6 HRD6.out HBD.out HL.out (by decide)).mono ?_
  rintro e w7 ⟨rfl, hc7⟩
  rw [HLG.out, decide_eq_true (by decide)]
  have q7 := q6.trans hc7 (fun _ _ h => h)
  have HRD7 := Lib.hid (HRD6.out.kept hc7 (by simp))
  clear q6 hc7 HRD6 k0 k1 k2
  go_wp2_with fail
  refine (nright_any _ Q 4 w7 HRD7.out HBD.out HL.out (by decide)).mono ?_
  rintro e w8 ⟨rfl, hc8⟩
  rw [HLG.out, decide_eq_false (by decide)]
  have q8 := q7.trans hc8 (fun _ _ h => h)
  clear q7 hc8 HRD7
  go_wp2
  go_ret
  exact ⟨rfl, q8⟩

end Go.Proofs.Ytnijfkbnggdbnaa
