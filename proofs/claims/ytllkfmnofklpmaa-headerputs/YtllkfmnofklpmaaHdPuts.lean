/- HeaderPuts' walk. -/
import Derived.Test.YtllkfmnofklpmaaBase3
import Derived.Test.YtllkfmnofklpmaaRnPuts
namespace Go.Proofs.Ytllkfmnofklpmaa
open Go.RowKit

theorem hdGo_some {f : Nat → Nat} {k : Nat} (fu : Nat) (h12 : k ≤ 12) : 0 < (hdGo f (fu + 1) (2 ^ k) 0).length := by
  have hp := Nat.two_pow_pos k
  simp only [hdGo]
  rw [if_neg (by omega), List.length_append, bitsOf_length]
  have := (width_13 (l := ((2 ^ k : Nat) : Int)) (by omega) (by have := pow_le h12; omega)).1
  omega
theorem hdBits_some (q : List Int) : decide (logI (totalI q) ≠ 0) = decide (0 < (hdBits q).length) := by
  refine decide_eq_decide.2 ⟨fun h => ?_, fun h hh => ?_⟩
  · unfold hdBits
    rw [if_neg h]
    exact hdGo_some 256 (logI_le _)
  · unfold hdBits at h
    rw [if_pos hh] at h
    simp at h

theorem RdI.low {w : World} {v : Value} {q : List Int} (h : RdI w v q) (h0 : 0 < q.length) (k : Nat) (hk : v.ownBlock = some k) : k < w.heap.size := by
  rcases h with ⟨rfl, _⟩ | ⟨g, off, cap, rfl, hc⟩
  · simp at h0
  · have e : g = k := by simpa [Value.ownBlock] using hk
    subst e
    have := hc 0 h0
    by_cases hl : g < w.heap.size
    · exact hl
    · simp [World.cell?, Array.getElem?_eq_none (Nat.le_of_not_lt hl)] at this

set_option maxRecDepth 20000 in
set_option maxHeartbeats 4000000 in
theorem headerPuts_walk (v : Value) (q : List Int) (w : World) (h : RdI w v q) (hrm : RoomOk v) (hf : ∀ z ∈ q, -9223372036854775808 ≤ z ∧ z ≤ 9223372036854775807) :
    Calls Try.prog 3 #[v] w fun e w' => e = .returned (.bool true) ∧ Chg (fun _ => False) w w' := by
  obtain ⟨ao, cap, rfl⟩ := h.form
  have H := Lib.hid h; have HF := Lib.hid hf; have HLOW := Lib.hid h.low; have HRM := Lib.hid hrm
  clear h hf hrm
  by_cases hbig : 300 < q.length
  · have hb' : decide (300 < (q.length : Int)) = true := decide_eq_true (by omega)
    go_enter Try.func3, Try.ntmps3
    go_wp2_with fail
    refine (awake15_any w).mono ?_
    rintro e w1 ⟨rfl, hc1⟩
    go_wp2
    go_ret
    exact ⟨rfl, hc1⟩
  have hb' : decide (300 < (q.length : Int)) = false := decide_eq_false (by omega)
  have hlen : q.length < 100000000000 := by omega
  have HLEN := Lib.hid hlen
  clear hlen
  go_enter Try.func3, Try.ntmps3
  go_wp2_with fail
  refine (awake15_any w).mono ?_
  rintro e w1 ⟨rfl, hc1⟩
  have C1 := Lib.hid hc1
  clear hc1
  go_wp2_with fail
  refine (new_wr w1).mono ?_
  rintro e w2 ⟨rfl, hw2, hc2⟩
  obtain ⟨b, hb⟩ : ∃ b, w1.heap.size = b := ⟨_, rfl⟩
  rw [hb] at hw2 ⊢
  have HBW := Lib.hid (show w.heap.size ≤ b by have := C1.out.size; omega)
  have AB := Lib.hid (show Above w.heap.size b none from ⟨HBW.out, by simp⟩)
  have C2 := Lib.hid (C1.out.next hc2)
  have PUT := Lib.hid (hdput_any b none [] _ q w2 hw2 (by simp) (H.out.kept C2.out (by simp)) HRM.out (fun h0 k hk => by have := HLOW.out h0 k hk; have := HBW.out; simp; omega) HF.out HLEN.out)
  rw [List.nil_append, hdBits_some] at PUT
  have hbl := hdBits_length q
  have COST := Lib.hid fun W (hW : Chg (fun _ => False) w W) => hdcost_any _ q W (H.out.kept hW (by simp)) HRM.out HF.out HLEN.out
  have REF := Lib.hid fun W (hW : Chg (fun _ => False) w W) => r15put_any (.slice none 0 0) _ [] q W.heap.size W (World.ownsRow_nil _ _ _ _) (Nat.le_refl _) (by simp) (H.out.kept hW (by simp)) HF.out HLEN.out
  obtain ⟨B, hB⟩ : ∃ B, hdBits q = B := ⟨_, rfl⟩
  simp only [List.nil_append] at REF
  rw [hB] at PUT hbl COST REF
  obtain ⟨m, hm⟩ : ∃ m, B.length = m := ⟨_, rfl⟩
  rw [hm] at PUT hbl COST
  have HM := Lib.hid hm; have HBL := Lib.hid hbl
  have hmI : (m : Int) ≤ 3840 := by omega
  obtain ⟨bc, hbc⟩ : ∃ bc, decide (0 < m) = bc := ⟨_, rfl⟩
  rw [hbc] at PUT
  have hbI : decide (0 < (m : Int)) = bc := by rw [← hbc]; exact decide_eq_decide.2 (by omega)
  have hbb : (bc == bc) = true := by simp
  clear hw2 hc2 C1 hb hB hm hbl
  go_wp2_with fail
  refine (PUT.out).mono ?_
  rintro e w4 ⟨rfl, o4, hw4, hc4, ho4⟩
  have C4 := Lib.hid (C2.out.up hc4 AB.out); have W4 := Lib.hid hw4
  clear hw4 hc4 ho4 PUT C2
  go_wp2_with fail
  refine (REF.out w4 C4.out).mono ?_
  rintro e w5 ⟨v5, rfl, ho5, hc5⟩
  have O5 := Lib.hid ho5
  obtain ⟨a5, cp5, rfl, -⟩ := own_src ho5
  rw [HM.out] at O5 ⊢
  have W5 := Lib.hid (W4.out.kept hc5 (by simp) (by simp)); have C5 := Lib.hid (C4.out.next hc5)
  clear ho5 hc5 REF W4 C4
  go_wp2_with fail
  refine (bits_any b o4 B w5 W5.out).mono ?_
  rintro e w6 ⟨rfl, rfl⟩
  rw [HM.out]
  go_wp2_with fail
  refine (bytes_any b o4 B _ W5.out (by rw [HM.out]; have := HBL.out; omega)).mono ?_
  rintro e w7 ⟨g7, cap7, rfl, r7, hc7⟩
  have O7 := Lib.hid (hc7.own O5.out (fun _ _ => by simp))
  have C7 := Lib.hid (C5.out.next hc7)
  have R7 := Lib.hid (RdB.of_own r7)
  clear hc7 r7 C5 O5 W5
  go_wp2_with fail
  refine (rbytes_any _ B w7 ⟨_, by rw [HM.out]; exact O7.out⟩ (by rw [HM.out]; have := HBL.out; omega)).mono ?_
  rintro e w8 ⟨g8, cap8, rfl, r8, hc8⟩
  have C8 := Lib.hid (C7.out.next hc8)
  have R78 := Lib.hid (R7.out.kept hc8 (by simp))
  have R8 := Lib.hid (RdB.of_own r8)
  clear hc8 r8 C7 R7 O7
  go_wp2_with fail
  refine (same_eq _ _ _ w8 R78.out R8.out (pack_lt _)).mono ?_
  rintro e w9 ⟨rfl, rfl⟩
  go_wp2_with fail
  refine (COST.out w8 C8.out).mono ?_
  rintro e w10 ⟨rfl, hc10⟩
  have C10 := Lib.hid (C8.out.next hc10)
  clear hc10 C8
  go_wp2
  go_ret
  exact ⟨rfl, C10.out⟩

end Go.Proofs.Ytllkfmnofklpmaa
