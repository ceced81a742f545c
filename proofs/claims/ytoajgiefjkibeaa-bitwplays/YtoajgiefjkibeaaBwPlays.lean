/- The walk of BitwPlays. -/
import Derived.Test.YtoajgiefjkibeaaBwRef
import Derived.Deep.RegionWith
import Derived.Deep.RegionWith
namespace Go.Proofs.Ytoajgiefjkibeaa
open Go.RowKit

theorem bools_apart {w : World} {base n b : Nat} {v : Value} {xs : List Value} {o : Option Nat} {bs : List Bool} (h : w.ownsRow base 4 1 v n xs) (hw : Wr w b o bs) : ∀ k, v.ownBlock = some k → ¬ (k = b ∨ some k = o) := by
  intro k hk
  obtain ⟨v2, hb, ho, hown⟩ := hw
  rcases h.2 with ⟨rfl, _⟩ | ⟨g, cap, cur, rfl, _, hg, _⟩
  · simp [Value.ownBlock] at hk
  · simp only [Value.ownBlock, Option.some.injEq] at hk
    subst hk
    rintro (hx | hx)
    · subst hx; rw [hb] at hg; simp at hg
    · rcases hown.2 with ⟨rfl, _⟩ | ⟨g2, cap2, cur2, rfl, _, hg2, _⟩
      · rw [← hx] at ho; simp [Value.ownBlock] at ho
      · rw [← hx] at ho
        simp only [Value.ownBlock, Option.some.injEq] at ho
        subst ho
        rw [hg] at hg2; simp at hg2

set_option maxHeartbeats 4000000 in
set_option maxRecDepth 100000 in
theorem plays_any (v : Value) (ps : List (Nat × Int)) (w : World) (h : RdP w v ps) : Calls Try.prog 3 #[v] w fun e w' => Says w e w' := by
  obtain ⟨ao, cap, hv, hao⟩ := h.form
  subst hv
  have HA := Lib.hid hao
  have HG : Hid (∀ g off, ao = some ⟨g, off, none⟩ → 0 < ps.length → g < w.heap.size) := fun g off hg h0 => block_lt_of_cell (h.cells g off _ _ (by rw [hg]) 0 h0).1
  clear hao
  by_cases hbig : 60 < ps.length
  · go_enter Try.func3, Try.ntmps3
    go_wp2_with fail
    refine (awake_any w).mono ?_
    rintro e w1 ⟨rfl, hc1⟩
    go_wp2
    go_ret
    exact ⟨rfl, hc1⟩
  · have hd : decide (60 < (ps.length : Int)) = false := by simp; omega
    go_enter Try.func3, Try.ntmps3
    go_wp2_with fail
    refine (awake_any w).mono ?_
    rintro e w1 ⟨rfl, hc1⟩
    have z1 := hc1.size
    go_wp2_with fail
    refine (new_wr w1).mono ?_
    rintro e w2 ⟨rfl, hw2, hc2⟩
    have hc2' := hc1.next hc2
    clear hc1
    go_wp2
    go_loopw [5, 6] (fun o5 o6 wr => ∃ (k : Nat) (o : Option Nat), k ≤ ps.length ∧ o6 = .int .i64 (k : Int) ∧ Wr wr w1.heap.size o (putAll [] (ps.take k)) ∧ Above w.heap.size w1.heap.size o ∧ wr.ownsRow w.heap.size 4 1 o5 (putAll [] (ps.take k)).length (bl (putAll [] (ps.take k))) ∧ Chg (fun _ => False) w wr) (fun _ o6 _ => ps.length - (intOf o6).toNat)
    case atStart => exact ⟨0, none, Nat.zero_le _, rfl, hw2, ⟨z1, by simp⟩, World.ownsRow_nil _ _ _ _, hc2'⟩
    case round =>
      obtain ⟨k, o, hk, rfl, hwr, hab, hbo, hcr⟩ := hrel
      clear hw2 hc2 hc2'
      by_cases hlt : k < ps.length
      · obtain ⟨g, off, hao⟩ := HA.out (by omega)
        subst hao
        have hkept := h.kept hcr (fun _ _ => by simp)
        obtain ⟨q0, q1⟩ := hkept.cells g off _ _ rfl k hlt
        have hwf := h.wf ps[k] (List.getElem_mem hlt)
        have hpl := putAll_length [] (ps.take k)
        have htl : (ps.take k).length ≤ k := List.length_take_le _ _
        have hbl : (putAll [] (ps.take k)).length < 2000 := by simp at hpl; omega
        have HAb := Lib.hid hab
        have HSu := Lib.hid (putAll_succ [] ps k hlt)
        clear hpl htl hab
        by_cases hn : 0 ≤ ps[k].2 ∧ ps[k].2 ≤ 24
        · have d0 : decide (0 ≤ ps[k].2) = true := by simp; omega
          have d1 : decide (ps[k].2 ≤ 24) = true := by simp; omega
          obtain ⟨nn, hnn⟩ := Int.eq_ofNat_of_zero_le hn.1
          have hn24 : nn ≤ 24 := by omega
          rw [hnn] at q1 d0 d1 HSu
          have Hnn := Lib.hid hnn
          obtain ⟨uu, huu⟩ : ∃ x, x = ps[k].1 := ⟨_, rfl⟩
          rw [← huu] at q0 hwf HSu
          have Huu := Lib.hid huu
          clear hnn hn huu
          go_wp2
          go_region_with ((go_at_call 10; refine (put_yes w1.heap.size o (putAll [] (ps.take k)) uu nn _ hwr.drew (by omega) (by omega) hn24).mono ?_; rintro e w3 ⟨rfl, hto⟩))
          all_goals
            obtain ⟨o3, hw3, hc3, ho3⟩ := hto
            have hcd : Chg (fun _ => False) w wr.drew := hcr.drew
            have hc3' := hcd.up hc3 HAb.out
            have z3 := hcr.size
            have hab3 := HAb.out.step (w := wr.drew) z3 ho3
            have hbs : putAll [] (ps.take (k + 1)) = putAll [] (ps.take k) ++ bitsOf uu nn := by
              rw [HSu.out]; unfold putB; rw [if_pos ⟨by omega, by omega⟩]; rfl
            rw [← hbs] at hw3
            have hbo3 : w3.ownsRow w.heap.size 4 1 u5 (putAll [] (ps.take k)).length (bl (putAll [] (ps.take k))) := hc3.own (World.ownsRow.drew hbo) (bools_apart hbo hwr)
            have HAb3 := Lib.hid hab3; have HBS := Lib.hid hbs
            clear ho3 hc3 hab3 hbs hwr hbo hcr hcd q0 q1 hkept
            have hkept := h.kept hc3' (fun _ _ => by simp)
            obtain ⟨q0, q1⟩ := hkept.cells g off _ _ rfl k hlt
            rw [Hnn.out] at q1
            rw [← Huu.out] at q0
            have hbl3 : (putAll [] (ps.take (k + 1))).length < 3000 := by rw [HBS.out]; simp [bitsOf_length]; omega
            go_wp2
            go_still_tail 11, (by kernel_rfl)
            change wpList _ _ _ _ _ w3.drew
            go_wp2_with fail
            refine (rput_any u5 (putAll [] (ps.take k)) uu nn _ ⟨_, hbo3.drew⟩ (by omega) hn24 (by omega)).mono ?_
            rintro e w4 ⟨v4, rfl, hbo4, hc4⟩
            rw [← HBS.out] at hbo4
            have hw4 := hw3.drew.kept hc4 (by simp) (by simp)
            have z3' := hc3'.size
            have hbo4' := ownsRow_mono hbo4 (base' := w.heap.size) z3'
            have hc4' := (hc3'.drew).next hc4
            clear hbo3 hw3 hc3' hbo4 hc4 q0 q1 hkept
            have z4 := hc4'.size
            generalize hB : putAll [] (ps.take (k + 1)) = B at *
            have HB := Lib.hid hB
            clear hB
            obtain ⟨ao4, cap4, hv4, hs4⟩ := own_src hbo4'
            subst hv4
            clear hs4
            go_wp2_with fail
            refine (bits_any w1.heap.size o3 B w4 hw4).mono ?_
            rintro e w5 ⟨rfl, rfl⟩
            have hne : ((B.length : Int) != (B.length : Int)) = false := by simp
            go_wp2_with fail
            refine (bytes_any w1.heap.size o3 B w4 hw4 (by omega)).mono ?_
            rintro e w5 ⟨g5, cap5, rfl, r5, hc5⟩
            have hw5 := hw4.kept hc5 (by simp) (by simp)
            have hbo5 := hc5.own hbo4' (fun _ _ => by simp)
            have hc5' := hc4'.next hc5
            have r5' := RdB.of_own r5
            clear hw4 hbo4' hc5 hc4' r5 hne
            go_wp2_with fail
            refine (rbytes_any _ B w5 ⟨_, hbo5⟩ (by omega)).mono ?_
            rintro e w6 ⟨g6, cap6, rfl, r6, hc6⟩
            have hw6 := hw5.kept hc6 (by simp) (by simp)
            have hbo6 := hc6.own hbo5 (fun _ _ => by simp)
            have hc6' := hc5'.next hc6
            have r56 := r5'.kept hc6 (by simp)
            have r6' := RdB.of_own r6
            clear hw5 hbo5 hc6 hc5' r6 r5'
            go_wp2_with fail
            refine (same_any _ _ _ _ w6 r56 r6' (pack_lt _) (pack_lt _)).mono ?_
            rintro e w7 ⟨rfl, rfl⟩
            rw [show decide (pack B = pack B) = true from decide_eq_true rfl]
            clear r56 r6'
            go_wp2_with fail
            refine (close_any w1.heap.size o3 B w6 hw6 (by omega)).mono ?_
            rintro e w7 ⟨g7, cap7, rfl, r7, hc7⟩
            have hw7 := hw6.kept hc7 (by simp) (by simp)
            have hbo7 := hc7.own hbo6 (fun _ _ => by simp)
            have hc7' := hc6'.next hc7
            have r7' := RdB.of_own r7
            clear hw6 hbo6 hc7 hc6' r7
            go_wp2_with fail
            refine (rclose_any _ B w7 ⟨_, hbo7⟩ (by omega)).mono ?_
            rintro e w8 ⟨w8a, hc8a, g8, cap8, rfl, r8, hc8b⟩
            have hc8 := hc8a.next hc8b
            have hw8 := hw7.kept hc8 (by simp) (by simp)
            have hbo8 := hc8.own hbo7 (fun _ _ => by simp)
            have hc8' := hc7'.next hc8
            have r78 := r7'.kept hc8 (by simp)
            have r8' := RdB.of_own r8
            clear hw7 hbo7 hc8 hc7' r8 r7' hc8a hc8b
            go_wp2_with fail
            refine (same_any _ _ _ _ w8 r78 r8' (pack_lt _) (pack_lt _)).mono ?_
            rintro e w9 ⟨rfl, rfl⟩
            rw [show decide (pack (B ++ [true]) = pack (B ++ [true])) = true from decide_eq_true rfl]
            clear r78 r8'
            go_wp2
            go_roundw
            case rel => exact ⟨k + 1, o3, by omega, by go_num, by rw [HB.out]; exact hw8, HAb3.out, by rw [HB.out]; exact hbo8, hc8'⟩
            case measure => simp [intOf]; omega
        · have hne : ¬ (0 ≤ ps[k].2 ∧ ps[k].2 ≤ 24) := hn
          have hbs : putAll [] (ps.take (k + 1)) = putAll [] (ps.take k) := by
            rw [HSu.out]; unfold putB; rw [if_neg hn]
          obtain ⟨uu, huu⟩ : ∃ x, x = ps[k].1 := ⟨_, rfl⟩
          rw [← huu] at q0 hwf
          obtain ⟨nn, hnn⟩ : ∃ x, x = ps[k].2 := ⟨_, rfl⟩
          rw [← hnn] at q1 hn
          have HBS := Lib.hid hbs
          clear huu hnn hne hbs HSu
          by_cases hn0 : 0 ≤ nn
          · have d0 : decide (0 ≤ nn) = true := by simpa using hn0
            have d1 : decide (nn ≤ 24) = false := by simp; omega
            go_wp2
            go_region_with ((go_at_call 10; refine (put_no w1.heap.size (uu : Int) nn _ (by omega)).mono ?_; rintro e w3 ⟨rfl, rfl⟩))
            all_goals
              have hc4' : Chg (fun _ => False) w wr.drew := hcr.drew
              have hw4 : Wr wr.drew w1.heap.size o (putAll [] (ps.take (k + 1))) := by rw [HBS.out]; exact hwr.drew
              have hbo4' : wr.drew.ownsRow w.heap.size 4 1 u5 (putAll [] (ps.take (k + 1))).length (bl (putAll [] (ps.take (k + 1)))) := by rw [HBS.out]; exact World.ownsRow.drew hbo
              have hbl3 : (putAll [] (ps.take (k + 1))).length < 3000 := by rw [HBS.out]; omega
              clear hwr hbo hcr q0 q1 hkept
              generalize wr.drew = w4 at *
              have z4 := hc4'.size
              generalize hB : putAll [] (ps.take (k + 1)) = B at *
              have HB := Lib.hid hB
              clear hB
              obtain ⟨ao4, cap4, hv4, hs4⟩ := own_src hbo4'
              subst hv4
              clear hs4
              go_wp2_with fail
              refine (bits_any w1.heap.size o B w4 hw4).mono ?_
              rintro e w5 ⟨rfl, rfl⟩
              have hne : ((B.length : Int) != (B.length : Int)) = false := by simp
              go_wp2_with fail
              refine (bytes_any w1.heap.size o B w4 hw4 (by omega)).mono ?_
              rintro e w5 ⟨g5, cap5, rfl, r5, hc5⟩
              have hw5 := hw4.kept hc5 (by simp) (by simp)
              have hbo5 := hc5.own hbo4' (fun _ _ => by simp)
              have hc5' := hc4'.next hc5
              have r5' := RdB.of_own r5
              clear hw4 hbo4' hc5 hc4' r5 hne
              go_wp2_with fail
              refine (rbytes_any _ B w5 ⟨_, hbo5⟩ (by omega)).mono ?_
              rintro e w6 ⟨g6, cap6, rfl, r6, hc6⟩
              have hw6 := hw5.kept hc6 (by simp) (by simp)
              have hbo6 := hc6.own hbo5 (fun _ _ => by simp)
              have hc6' := hc5'.next hc6
              have r56 := r5'.kept hc6 (by simp)
              have r6' := RdB.of_own r6
              clear hw5 hbo5 hc6 hc5' r6 r5'
              go_wp2_with fail
              refine (same_any _ _ _ _ w6 r56 r6' (pack_lt _) (pack_lt _)).mono ?_
              rintro e w7 ⟨rfl, rfl⟩
              rw [show decide (pack B = pack B) = true from decide_eq_true rfl]
              clear r56 r6'
              go_wp2_with fail
              refine (close_any w1.heap.size o B w6 hw6 (by omega)).mono ?_
              rintro e w7 ⟨g7, cap7, rfl, r7, hc7⟩
              have hw7 := hw6.kept hc7 (by simp) (by simp)
              have hbo7 := hc7.own hbo6 (fun _ _ => by simp)
              have hc7' := hc6'.next hc7
              have r7' := RdB.of_own r7
              clear hw6 hbo6 hc7 hc6' r7
              go_wp2_with fail
              refine (rclose_any _ B w7 ⟨_, hbo7⟩ (by omega)).mono ?_
              rintro e w8 ⟨w8a, hc8a, g8, cap8, rfl, r8, hc8b⟩
              have hc8 := hc8a.next hc8b
              have hw8 := hw7.kept hc8 (by simp) (by simp)
              have hbo8 := hc8.own hbo7 (fun _ _ => by simp)
              have hc8' := hc7'.next hc8
              have r78 := r7'.kept hc8 (by simp)
              have r8' := RdB.of_own r8
              clear hw7 hbo7 hc8 hc7' r8 r7' hc8a hc8b
              go_wp2_with fail
              refine (same_any _ _ _ _ w8 r78 r8' (pack_lt _) (pack_lt _)).mono ?_
              rintro e w9 ⟨rfl, rfl⟩
              rw [show decide (pack (B ++ [true]) = pack (B ++ [true])) = true from decide_eq_true rfl]
              clear r78 r8'
              go_wp2
              go_roundw
              case rel => exact ⟨k + 1, o, by omega, by go_num, by rw [HB.out]; exact hw8, HAb.out, by rw [HB.out]; exact hbo8, hc8'⟩
              case measure => simp [intOf]; omega
          · have d0 : decide (0 ≤ nn) = false := by simpa using hn0
            go_wp2
            go_region_with ((go_at_call 10; refine (put_no w1.heap.size (uu : Int) nn _ (by omega)).mono ?_; rintro e w3 ⟨rfl, rfl⟩))
            all_goals
              have hc4' : Chg (fun _ => False) w wr.drew := hcr.drew
              have hw4 : Wr wr.drew w1.heap.size o (putAll [] (ps.take (k + 1))) := by rw [HBS.out]; exact hwr.drew
              have hbo4' : wr.drew.ownsRow w.heap.size 4 1 u5 (putAll [] (ps.take (k + 1))).length (bl (putAll [] (ps.take (k + 1)))) := by rw [HBS.out]; exact World.ownsRow.drew hbo
              have hbl3 : (putAll [] (ps.take (k + 1))).length < 3000 := by rw [HBS.out]; omega
              clear hwr hbo hcr q0 q1 hkept
              generalize wr.drew = w4 at *
              have z4 := hc4'.size
              generalize hB : putAll [] (ps.take (k + 1)) = B at *
              have HB := Lib.hid hB
              clear hB
              obtain ⟨ao4, cap4, hv4, hs4⟩ := own_src hbo4'
              subst hv4
              clear hs4
              go_wp2_with fail
              refine (bits_any w1.heap.size o B w4 hw4).mono ?_
              rintro e w5 ⟨rfl, rfl⟩
              have hne : ((B.length : Int) != (B.length : Int)) = false := by simp
              go_wp2_with fail
              refine (bytes_any w1.heap.size o B w4 hw4 (by omega)).mono ?_
              rintro e w5 ⟨g5, cap5, rfl, r5, hc5⟩
              have hw5 := hw4.kept hc5 (by simp) (by simp)
              have hbo5 := hc5.own hbo4' (fun _ _ => by simp)
              have hc5' := hc4'.next hc5
              have r5' := RdB.of_own r5
              clear hw4 hbo4' hc5 hc4' r5 hne
              go_wp2_with fail
              refine (rbytes_any _ B w5 ⟨_, hbo5⟩ (by omega)).mono ?_
              rintro e w6 ⟨g6, cap6, rfl, r6, hc6⟩
              have hw6 := hw5.kept hc6 (by simp) (by simp)
              have hbo6 := hc6.own hbo5 (fun _ _ => by simp)
              have hc6' := hc5'.next hc6
              have r56 := r5'.kept hc6 (by simp)
              have r6' := RdB.of_own r6
              clear hw5 hbo5 hc6 hc5' r6 r5'
              go_wp2_with fail
              refine (same_any _ _ _ _ w6 r56 r6' (pack_lt _) (pack_lt _)).mono ?_
              rintro e w7 ⟨rfl, rfl⟩
              rw [show decide (pack B = pack B) = true from decide_eq_true rfl]
              clear r56 r6'
              go_wp2_with fail
              refine (close_any w1.heap.size o B w6 hw6 (by omega)).mono ?_
              rintro e w7 ⟨g7, cap7, rfl, r7, hc7⟩
              have hw7 := hw6.kept hc7 (by simp) (by simp)
              have hbo7 := hc7.own hbo6 (fun _ _ => by simp)
              have hc7' := hc6'.next hc7
              have r7' := RdB.of_own r7
              clear hw6 hbo6 hc7 hc6' r7
              go_wp2_with fail
              refine (rclose_any _ B w7 ⟨_, hbo7⟩ (by omega)).mono ?_
              rintro e w8 ⟨w8a, hc8a, g8, cap8, rfl, r8, hc8b⟩
              have hc8 := hc8a.next hc8b
              have hw8 := hw7.kept hc8 (by simp) (by simp)
              have hbo8 := hc8.own hbo7 (fun _ _ => by simp)
              have hc8' := hc7'.next hc8
              have r78 := r7'.kept hc8 (by simp)
              have r8' := RdB.of_own r8
              clear hw7 hbo7 hc8 hc7' r8 r7' hc8a hc8b
              go_wp2_with fail
              refine (same_any _ _ _ _ w8 r78 r8' (pack_lt _) (pack_lt _)).mono ?_
              rintro e w9 ⟨rfl, rfl⟩
              rw [show decide (pack (B ++ [true]) = pack (B ++ [true])) = true from decide_eq_true rfl]
              clear r78 r8'
              go_wp2
              go_roundw
              case rel => exact ⟨k + 1, o, by omega, by go_num, by rw [HB.out]; exact hw8, HAb.out, by rw [HB.out]; exact hbo8, hc8'⟩
              case measure => simp [intOf]; omega
      · obtain rfl : k = ps.length := by omega
        rw [List.take_length] at hwr hbo
        have hpl := putAll_length [] ps
        have hbl : (putAll [] ps).length < 2000 := by simp at hpl; omega
        generalize putAll [] ps = bs at *
        clear hpl
        go_wp2_with fail
        refine (bytes_any w1.heap.size o bs wr hwr (by omega)).mono ?_
        rintro e w3 ⟨g3, cap3, rfl, r3, hc3⟩
        have hw3 := hwr.kept hc3 (by simp) (by simp)
        have hc3' := hcr.next hc3
        have hpk := pack_length bs
        rw [hpk]
        have HP := Lib.hid hpk
        clear r3 hc3 hcr hwr hpk hbo hab
        go_wp2_with fail
        refine (bits_any w1.heap.size o bs w3 hw3).mono ?_
        rintro e w4 ⟨rfl, rfl⟩
        clear hw3
        have heq : ((((bs.length + 7) / 8 : Nat) : Int) == ((bs.length : Int) + 7) / 8) = true := by rw [beq_iff_eq]; omega
        go_wp2
        go_ret
        exact ⟨rfl, hc3'⟩

end Go.Proofs.Ytoajgiefjkibeaa
