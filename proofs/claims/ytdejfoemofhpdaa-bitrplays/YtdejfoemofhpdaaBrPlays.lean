/- The walk of BitrPlays. -/
import Derived.Test.YtdejfoemofhpdaaBrRef
import Derived.Test.YtdejfoemofhpdaaOpGen
namespace Go.Proofs.Ytdejfoemofhpdaa
open Go.RowKit

theorem RdI.form {w : World} {v : Value} {zs : List Int} (h : RdI w v zs) : ∃ ao cap, v = .slice ao zs.length cap := by
  rcases h with ⟨rfl, ao, c, rfl⟩ | ⟨g, off, cap, rfl, _⟩
  · exact ⟨ao, c, rfl⟩
  · exact ⟨_, cap, rfl⟩

set_option maxHeartbeats 4000000 in
set_option maxRecDepth 100000 in
theorem rplays_any (v u : Value) (xs : List Nat) (zs : List Int) (w : World) (h : RdB w v xs) (hxs : ∀ y ∈ xs, y < 256) (hu : RdI w u zs) :
    Calls Try.prog 3 #[v, u] w fun e w' => Says w e w' := by
  obtain ⟨ao, cap, hv⟩ := h.form
  subst hv
  obtain ⟨au, capu, hvu⟩ := hu.form
  subst hvu
  have H := Lib.hid h; have HXS := Lib.hid hxs; have HU := Lib.hid hu
  clear h hxs hu
  by_cases hbig : 200 < xs.length
  · have hb' : decide (200 < (xs.length : Int)) = true := by simp; omega
    go_enter Try.func3, Try.ntmps3
    go_wp2_with fail
    refine (awake2_any w).mono ?_
    rintro e w1 ⟨rfl, hc1⟩
    go_wp2
    go_ret
    exact ⟨rfl, hc1⟩
  have hb' : decide (200 < (xs.length : Int)) = false := by simp; omega
  by_cases hbig2 : 60 < zs.length
  · have hb2' : decide (60 < (zs.length : Int)) = true := by simp; omega
    go_enter Try.func3, Try.ntmps3
    go_wp2_with fail
    refine (awake2_any w).mono ?_
    rintro e w1 ⟨rfl, hc1⟩
    go_wp2
    go_ret
    exact ⟨rfl, hc1⟩
  have hb2' : decide (60 < (zs.length : Int)) = false := by simp; omega
  by_cases hmk : Marked xs
  · go_enter Try.func3, Try.ntmps3
    go_wp2_with fail
    refine (awake2_any w).mono ?_
    rintro e w1 ⟨rfl, hc1⟩
    have h1 := H.out.kept hc1 (by simp)
    have z1 := hc1.size
    go_wp2_with fail
    refine (rnew_ok _ xs w1 h1 hmk (by omega) HXS.out).mono ?_
    rintro e w2 ⟨b, g, rfl, r2, zb, zg, hc2⟩
    have h2 := h1.kept hc2 (by simp)
    have hc2' := hc1.trans hc2 (fun _ _ h => h)
    have hl2 := r2.lt
    clear hc1 hc2 h1
    go_wp2_with fail
    refine (ropen_ok _ xs w2 h2 hmk (by omega) HXS.out).mono ?_
    rintro e w3 ⟨v3, gl, rfl, rl3, zgl, hc3⟩
    have r3 := r2.kept hc3 (by simp) (by simp)
    have hc3' := hc2'.trans hc3 (fun _ _ h => h)
    have HD : Hid (gl ≠ b ∧ w.heap.size ≤ b) := Lib.hid (by omega)
    clear hc3 hc2' h2 r2 hl2 zgl zb zg z1
    obtain ⟨bs0, hbs0⟩ : ∃ bs0, openB xs = bs0 := ⟨_, rfl⟩
    rw [hbs0] at r3 rl3
    clear hbs0
    go_wp2
    go_loopw [8, 10] (fun o8 o10 wr => ∃ (k : Nat) (bs : List Bool), k ≤ zs.length ∧ o10 = .int .i64 (k : Int) ∧ Rr wr b g bs ∧ RdL wr o8 gl 0 bs ∧ Chg (fun _ => False) w wr) (fun _ o10 _ => zs.length - (intOf o10).toNat)
    case atStart => exact ⟨0, bs0, Nat.zero_le _, rfl, r3, rl3, hc3'⟩
    case round =>
      obtain ⟨k, bs, hk, rfl, r, rl, hc⟩ := hrel
      clear r3 rl3 hc3'
      by_cases hlt : k < zs.length
      · obtain ⟨gu, offu, capu', hvu, hcu⟩ : ∃ gu offu capu', Value.slice au zs.length capu = .slice (some ⟨gu, offu, none⟩) zs.length capu' ∧ ∀ j, j < zs.length → wr.cell? ⟨gu, offu + j, none⟩ = some (.int .i64 (zs.getD j 0)) := by
          rcases HU.out.kept hc (by simp) with ⟨h0, _⟩ | h
          · rw [h0] at hlt; simp at hlt
          · exact h
        simp only [Value.slice.injEq, true_and] at hvu
        obtain ⟨rfl, rfl⟩ := hvu
        have HCU : Hid (∀ j, j < zs.length → w.cell? ⟨gu, offu + j, none⟩ = some (.int .i64 (zs.getD j 0))) := by
          rcases HU.out with ⟨h0, _⟩ | ⟨g', off', cap', he, hcc⟩
          · rw [h0] at hlt; simp at hlt
          · simp only [Value.slice.injEq, Option.some.injEq, Addr.mk.injEq, and_true, true_and] at he
            obtain ⟨⟨rfl, rfl⟩, rfl⟩ := he
            exact Lib.hid hcc
        have hcell := hcu k hlt
        obtain ⟨n, hn⟩ : ∃ n, zs.getD k 0 = n := ⟨_, rfl⟩
        rw [hn] at hcell
        clear hcu hn
        have hgu : gu < wr.heap.size := block_lt_of_cell hcell
        obtain ⟨capl, hvl, hrest⟩ := rl
        subst hvl
        have RL : Hid (RdL wr (.slice (some ⟨gl, 0, none⟩) bs.length capl) gl 0 bs) := Lib.hid ⟨capl, rfl, hrest⟩
        clear hrest
        by_cases hno : n < 0 ∨ 24 < n ∨ (bs.length : Int) < n
        · have HNO := Lib.hid hno
          clear hno
          go_wp2_with fail
          refine (take_no b g bs n wr r HNO.out).mono ?_
          rintro e w5 ⟨rfl, rfl⟩
          go_wp2_with fail
          refine (rtake_no _ gl 0 bs n wr RL.out HNO.out).mono ?_
          rintro e w5 ⟨rfl, rfl⟩
          go_wp2_with fail
          refine (left_any b g bs wr r).mono ?_
          rintro e w5 ⟨rfl, rfl⟩
          clear hcell HNO
          go_wp2
          go_roundw
          case rel => exact ⟨k + 1, bs, by omega, by go_num, r, RL.out, hc⟩
          case measure => simp [intOf]; omega
        · obtain ⟨m, rfl⟩ := Int.eq_ofNat_of_zero_le (show 0 ≤ n by omega)
          have hm24 : m ≤ 24 := by omega
          have hml : m ≤ bs.length := by omega
          clear hno
          go_wp2_with fail
          refine (take_yes b g bs m wr r hm24 hml).mono ?_
          rintro e w5 ⟨rfl, r5, hc5⟩
          have rl5 := RL.out.kept hc5 HD.out.1
          have hc5' := hc.trans hc5 (S := fun _ => False) (fun i hi h => by have := HD.out; omega)
          have hcell5 : w5.cell? ⟨gu, offu + k, none⟩ = some (.int .i64 (m : Int)) := by
            have hne : ¬ gu = b := fun hx => by
              have h1 : gu < w.heap.size := block_lt_of_cell (HCU.out k hlt)
              have := HD.out; omega
            rw [World.cell?_of_block (w := wr) (a := ⟨gu, offu + k, none⟩) (hc5.block gu hgu hne)]; exact hcell
          clear r hc5 hc RL hcell
          go_wp2_with fail
          refine (rtake_yes _ gl 0 bs m w5 rl5 hm24 hml).mono ?_
          rintro e w6 ⟨v6, rfl, rl6, hc6⟩
          have r6 := r5.kept hc6 (by simp) (by simp)
          have hc6' := hc5'.trans hc6 (fun _ _ h => h)
          obtain ⟨capl6, hvl, hrest⟩ := rl6
          subst hvl
          have RL : Hid (RdL w6 (.slice (some ⟨gl, 0, none⟩) (takeR bs m).length capl6) gl 0 (takeR bs m)) := Lib.hid ⟨capl6, rfl, hrest⟩
          clear hrest r5 hc6 hc5' rl5 hcell5
          generalize takeR bs m = rest at *
          generalize takeV bs m = vv at *
          go_wp2_with fail
          refine (left_any b g rest w6 r6).mono ?_
          rintro e w7 ⟨rfl, rfl⟩
          go_wp2
          go_roundw
          case rel => exact ⟨k + 1, rest, by omega, by go_num, r6, RL.out, hc6'⟩
          case measure => simp [intOf]; omega
      · obtain rfl : k = zs.length := by omega
        obtain ⟨capl, hvl, -⟩ := rl
        subst hvl
        by_cases hz : 0 < zs.length
        · have hz' : decide (0 < (zs.length : Int)) = true := decide_eq_true (by omega)
          go_wp2
          go_ret
          exact ⟨rfl, hc⟩
        · have hz' : decide (0 < (zs.length : Int)) = false := decide_eq_false (by omega)
          go_wp2_with fail
          refine (left_any b g bs wr r).mono ?_
          rintro e w7 ⟨rfl, rfl⟩
          go_wp2
          go_ret
          exact ⟨rfl, hc⟩
  · go_enter Try.func3, Try.ntmps3
    go_wp2_with fail
    refine (awake2_any w).mono ?_
    rintro e w1 ⟨rfl, hc1⟩
    have h1 := H.out.kept hc1 (by simp)
    go_wp2_with fail
    refine (rnew_no _ xs w1 h1 hmk (by omega)).mono ?_
    rintro e w2 ⟨rfl, rfl⟩
    go_wp2_with fail
    refine (ropen_no _ xs w1 h1 hmk (by omega)).mono ?_
    rintro e w2 ⟨rfl, rfl⟩
    clear h1
    go_wp2
    go_ret
    exact ⟨rfl, hc1⟩

end Go.Proofs.Ytdejfoemofhpdaa
