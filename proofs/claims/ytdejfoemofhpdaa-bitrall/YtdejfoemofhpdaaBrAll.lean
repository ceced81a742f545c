/- The walk of BitrAll. -/
import Derived.Test.YtdejfoemofhpdaaBrSplits
import Derived.Test.YtdejfoemofhpdaaBwMany
namespace Go.Proofs.Ytdejfoemofhpdaa
open Go.RowKit

def uv (zs : List Nat) : List Value := zs.map fun n : Nat => .int .u32 (n : Int)
theorem uv_length (zs : List Nat) : (uv zs).length = zs.length := by simp [uv]
theorem uv_get (zs : List Nat) (i : Nat) (h : i < zs.length) : (uv zs)[i]? = some (.int .u32 ((zs.getD i 0 : Nat) : Int)) := by simp [uv, List.getElem?_eq_getElem h]
theorem uv_snoc (zs : List Nat) (n : Nat) : uv zs ++ [.int .u32 (n : Int)] = uv (zs ++ [n]) := by simp [uv]

/-- the last k bits, the last one first, as numbers -/
def lastK (bs : List Bool) (k : Nat) : List Nat := ((bs.reverse).take k).map Bool.toNat

theorem lastK_length (bs : List Bool) (k : Nat) (h : k ≤ bs.length) : (lastK bs k).length = k := by simp [lastK]; omega

theorem takeV_one (bs : List Bool) (h : 0 < bs.length) : takeV bs 1 = (bs[bs.length - 1]).toNat := by
  unfold takeV
  rw [List.drop_eq_getElem_cons (by omega), show bs.length - 1 + 1 = bs.length from by omega, List.drop_length]
  simp [val]

theorem lastK_succ (bs : List Bool) (k : Nat) (h : k < bs.length) : lastK bs (k + 1) = lastK bs k ++ [takeV (takeR bs k) 1] := by
  unfold lastK
  have hr : (takeR bs k).length = bs.length - k := takeR_length bs k
  rw [List.take_succ_eq_append_getElem (by simp; exact h), List.map_append, takeV_one _ (by omega)]
  congr 2
  simp only [List.getElem_reverse, hr, List.map_cons, List.map_nil]
  unfold takeR
  simp only [List.getElem_take]
  congr 3
  omega

theorem takeR_succ (bs : List Bool) (k : Nat) (h : k < bs.length) : takeR (takeR bs k) 1 = takeR bs (k + 1) := by
  unfold takeR
  rw [List.length_take, List.take_take]
  congr 1
  omega

/-- put again, the last one first: after k rounds the first k bits stand there -/
theorem back_get (bs : List Bool) (i : Nat) (h : i < bs.length) : (lastK bs bs.length).getD (bs.length - 1 - i) 0 = (bs[i]).toNat := by
  unfold lastK
  rw [List.take_of_length_le (by simp), List.getD_eq_getElem?_getD, List.getElem?_map, List.getElem?_reverse (by omega)]
  rw [show bs.length - 1 - (bs.length - 1 - i) = i from by omega, List.getElem?_eq_getElem h]
  rfl

theorem put_bit (bs : List Bool) (i : Nat) (h : i < bs.length) : bs.take i ++ bitsOf ((bs[i]).toNat) 1 = bs.take (i + 1) := by
  rw [List.take_succ_eq_append_getElem h]
  congr 1
  cases bs[i] <;> rfl

theorem Try.infoU32 : (Try.prog.info? 32).map (fun i => (i.zero, i.size, i.bytes)) = some (some (.int .u32 0), 1, 4) := by kernel_rfl

theorem row_apart {w : World} {base n b g : Nat} {v : Value} {xs : List Value} {bs : List Bool} (h : w.ownsRow base 32 1 v n xs) (hr : Rr w b g bs) : ∀ k, v.ownBlock = some k → k ≠ b ∧ k ≠ g := by
  intro k hk
  obtain ⟨ys, -, -, -, -, hb, hg⟩ := hr
  rcases h.2 with ⟨rfl, _⟩ | ⟨q, cap, cur, rfl, _, hq, _⟩
  · simp [Value.ownBlock] at hk
  · simp only [Value.ownBlock, Option.some.injEq] at hk
    subst hk
    constructor
    · rintro rfl; rw [hb] at hq; simp at hq
    · rintro rfl; rw [hg] at hq; simp at hq

set_option maxHeartbeats 4000000 in
set_option maxRecDepth 100000 in
theorem rall_any (v : Value) (xs : List Nat) (w : World) (h : RdB w v xs) (hxs : ∀ y ∈ xs, y < 256) :
    Calls Try.prog 6 #[v] w fun e w' => Says w e w' := by
  obtain ⟨ao, cap, hv⟩ := h.form
  subst hv
  have H := Lib.hid h; have HXS := Lib.hid hxs
  clear h hxs
  by_cases hbig : 60 < xs.length
  · go_enter Try.func6, Try.ntmps6
    go_wp2_with fail
    refine (awake2_any w).mono ?_
    rintro e w1 ⟨rfl, hc1⟩
    go_wp2
    go_ret
    exact ⟨rfl, hc1⟩
  · by_cases hmk : Marked xs
    · obtain ⟨i, hi, hz0, hz1, hz2⟩ := info_parts Try.infoU32
      have hlen := openB_length xs HXS.out hmk.1 hmk.2
      have hmp := markPos_lt xs HXS.out hmk.1 hmk.2
      have hpk := pack_openB xs HXS.out hmk.1 hmk.2
      obtain ⟨bs, hbs⟩ : ∃ bs, openB xs = bs := ⟨_, rfl⟩
      rw [hbs] at hlen hpk
      have hbl : bs.length < 500 := by omega
      have HPK := Lib.hid hpk; have HBS := Lib.hid hbs
      clear hlen hmp hpk hbs
      go_enter Try.func6, Try.ntmps6
      go_wp2_with fail
      refine (awake2_any w).mono ?_
      rintro e w1 ⟨rfl, hc1⟩
      have h1 := H.out.kept hc1 (by simp)
      go_wp2_with fail
      refine (rnew_ok _ xs w1 h1 hmk (by omega) HXS.out).mono ?_
      rintro e w2 ⟨b, g, rfl, r2, zb, zg, hc2⟩
      rw [HBS.out] at r2
      have z1 := hc1.size
      have hc2' := hc1.trans hc2 (fun _ _ h => h)
      have HZ : Hid (w.heap.size ≤ b ∧ w.heap.size ≤ g) := Lib.hid (by omega)
      clear h1 hc1 hc2 zb zg z1
      go_wp2_with fail
      refine (left_any b g bs w2 r2).mono ?_
      rintro e w3 ⟨rfl, rfl⟩
      go_wp2
      go_loopw [6, 8] (fun o6 o8 wr => ∃ k : Nat, k ≤ bs.length ∧ o8 = .int .i64 (k : Int) ∧ wr.ownsRow w.heap.size 32 1 o6 k (uv (lastK bs k)) ∧ Rr wr b g (takeR bs k) ∧ Chg (fun _ => False) w wr) (fun _ o8 _ => bs.length - (intOf o8).toNat)
      case atStart => exact ⟨0, Nat.zero_le _, rfl, by simpa [lastK, uv] using World.ownsRow_nil w2 w.heap.size 32 1, by simpa [takeR] using r2, hc2'⟩
      case round =>
        obtain ⟨k, hk, rfl, ho, r, hc⟩ := hrel
        clear r2 hc2'
        by_cases hlt : k < bs.length
        · have hz := HZ.out
          go_wp2_with fail
          refine (take_in b g (takeR bs k) 1 wr r (by decide) (by decide) (by rw [takeR_length]; omega)).mono ?_
          rintro e w4 ⟨rfl, r4, hc4⟩
          have hap := row_apart ho r
          have ho4 := hc4.own ho (fun q hq hx => (hap q hq).1 hx)
          have hc4' := hc.trans hc4 (S := fun _ => False) (fun j hj hx => by omega)
          rw [show (1 : Int).toNat = 1 from rfl] at r4 ⊢
          rw [takeR_succ bs k hlt] at r4
          have hv1 := takeV_lt (takeR bs k) 1
          have hls := lastK_succ bs k hlt
          obtain ⟨y, hy⟩ : ∃ y, takeV (takeR bs k) 1 = y := ⟨_, rfl⟩
          rw [hy] at hv1 hls ⊢
          have HLS := Lib.hid hls
          have hv2 : y < 2 := by simpa using hv1
          have z4 := hc4'.size
          clear hls hv1 hy ho r hc hc4 hap
          go_wp2_with (at_builtin; refine wpList_append_own _ rfl (.tmp 48) (.tmp 50) 48 rfl w.heap.size 32 i (.int .u32 0) 1 4 Try.underlying48 hi hz0 hz1 hz2 rfl (by decide) _ k _ rfl (ho4.alloc _) ⟨w4.heap.size, 0, none⟩ 1 1 _ rfl rfl (cell_one_new _ _ _) ?_ (by unfold maxLen; omega) (by omega) (by simp; omega) ?_)
          · intro x hx; simp at hx; subst hx; rfl
          intro v' w5 ho5 hg5 _
          have hap4 := row_apart ho4 r4
          have hcg : Chg (fun q => some q = _) w4 w5 := (Chg.alloc _ w4 _).trans (Chg.of_grown hg5) (fun _ _ hx => hx)
          have r5 := r4.kept hcg (fun hx => (hap4 b hx.symm).1 rfl) (fun hx => (hap4 g hx.symm).2 rfl)
          have hc5 := hc4'.trans hcg (S := fun _ => False) (fun j hj hx => by have := (ho4.lt j hx.symm).1; omega)
          rw [uv_snoc, ← HLS.out] at ho5
          clear hcg hg5 ho4 r4 hc4' hap4
          go_wp2
          go_roundw
          case rel => exact ⟨k + 1, by omega, by go_num, ho5, r5, hc5⟩
          case measure => simp [intOf]; omega
        · obtain rfl : k = bs.length := by omega
          obtain ⟨wa, hwa⟩ : ∃ wa, wa = wr := ⟨_, rfl⟩
          subst hwa
          have he : takeR bs bs.length = [] := by unfold takeR; simp
          rw [he] at r
          clear he hlt
          obtain ⟨ao6, cap6, hv6, -⟩ := own_src ho
          subst hv6
          have hrl := r.lt
          have hlo := ho.lt
          have hz := HZ.out
          have hzs := hc.size
          go_wp2_with fail
          refine (new_wr wa).mono ?_
          rintro e w6 ⟨rfl, hw6, hc6⟩
          have r6 := r.kept hc6 (by simp) (by simp)
          have ho6 := hc6.own ho (by simp)
          have hc6' := hc.trans hc6 (fun _ _ h => h)
          have HL : Hid (b < wa.heap.size ∧ g < wa.heap.size ∧ ∀ q, (Value.slice ao6 bs.length cap6).ownBlock = some q → q < wa.heap.size) := Lib.hid ⟨hrl.1, hrl.2.1, fun q hq => (hlo q hq).2⟩
          have HS : Hid (w.heap.size ≤ wa.heap.size) := Lib.hid hzs
          clear r ho hc hc6 hrl hlo hz hzs
          go_wp2
          go_loopw [12] (fun o12 wr => ∃ (j : Nat) (o : Option Nat), j ≤ bs.length ∧ o12 = .int .i64 ((j : Int) - 1) ∧ Wr wr wa.heap.size o (bs.take (bs.length - j)) ∧ Above wa.heap.size wa.heap.size o ∧ wr.ownsRow w.heap.size 32 1 (.slice ao6 bs.length cap6) bs.length (uv (lastK bs bs.length)) ∧ Rr wr b g [] ∧ Chg (fun _ => False) w wr) (fun o12 _ => (intOf o12 + 1).toNat)
          case atStart => exact ⟨bs.length, none, Nat.le_refl _, rfl, by simpa using hw6, ⟨Nat.le_refl _, by simp⟩, ho6, r6, hc6'⟩
          case round =>
            obtain ⟨j, o, hj, rfl, hw, ha, ho, r, hc⟩ := hrel
            clear hw6 ho6 r6 hc6'
            rcases j with _ | j
            · have hfull : bs.take (bs.length - 0) = bs := by simp
              rw [hfull] at hw
              clear hfull
              go_wp2_with fail
              refine (left_any b g [] wr r).mono ?_
              rintro e w7 ⟨rfl, rfl⟩
              go_wp2_with fail
              refine (close_any wa.heap.size o bs wr hw (by omega)).mono ?_
              rintro e w8 ⟨g8, cap8, rfl, hr8, hc8⟩
              have hc8' := hc.trans hc8 (fun _ _ h => h)
              have rd8 := RdB.of_own hr8
              have rdx := H.out.kept hc8' (by simp)
              clear hc8 hr8 hw ho r hc
              go_wp2_with fail
              refine (same_any _ _ _ _ w8 rd8 rdx (pack_lt _) HXS.out).mono ?_
              rintro e w9 ⟨rfl, rfl⟩
              rw [HPK.out, show decide (xs = xs) = true from decide_eq_true rfl]
              clear rd8 rdx
              go_wp2
              go_ret
              exact ⟨rfl, hc8'⟩
            · have hij : (((j + 1 : Nat) : Int) - 1) = (j : Int) := by omega
              rw [hij]
              have hil : bs.length - 1 - j < bs.length := by omega
              obtain ⟨gl, capl, hvl, hgl⟩ := slice_of_own ho (by omega)
              simp only [Value.slice.injEq, true_and] at hvl
              obtain ⟨rfl, rfl⟩ := hvl
              have hcell := ho.cellAt j (by omega)
              rw [uv_get _ _ (by rw [lastK_length _ _ (Nat.le_refl _)]; omega)] at hcell
              have hb := back_get bs (bs.length - 1 - j) hil
              rw [show bs.length - 1 - (bs.length - 1 - j) = j from by omega] at hb
              have hpb := put_bit bs (bs.length - 1 - j) hil
              rw [hb] at hcell
              obtain ⟨y, hy⟩ : ∃ y, (bs[bs.length - 1 - j]).toNat = y := ⟨_, rfl⟩
              rw [hy] at hcell hpb
              have hy2 : y < 2 := by rw [← hy]; cases bs[bs.length - 1 - j] <;> decide
              rw [show bs.length - 1 - j + 1 = bs.length - j from by omega, show bs.length - 1 - j = bs.length - (j + 1) from by omega] at hpb
              have hcell' : wr.cell? ⟨gl, j, none⟩ = some (.int .u32 (y : Int)) := hcell
              have HPB := Lib.hid hpb; have HA := Lib.hid ha
              clear hcell hb hy hpb hij ha
              have htl : (bs.take (bs.length - (j + 1))).length ≤ bs.length := List.length_take_le' _ _
              go_wp2_with fail
              refine (put_in wa.heap.size o (bs.take (bs.length - (j + 1))) (y : Int) 1 wr hw (by omega) (by omega) (by omega) (by decide) (by decide)).mono ?_
              rintro e w7 ⟨rfl, o7, hw7, hc7, ho7⟩
              rw [Int.toNat_natCast, show (1 : Int).toNat = 1 from rfl, HPB.out] at hw7
              have hL := HL.out
              have hA := HA.out
              have hns : ∀ q, q < wa.heap.size → ¬ (q = wa.heap.size ∨ some q = o) := by
                rintro q hq (hx | hx)
                · omega
                · have := hA.2 q hx.symm; omega
              have r7 := r.kept hc7 (hns b hL.1) (hns g hL.2.1)
              have hr7 := hc7.own ho (fun q hq => hns q (hL.2.2 q hq))
              have hcs := HS.out
              have hc7' := hc.trans hc7 (S := fun _ => False) (fun q hq hx => hns q (by omega) hx)
              have hwz := hw.lt.1
              have ha7 := hA.step (w := wr) (by omega) ho7
              clear hw hc7 ho7 r ho hc hns hA
              go_wp2
              go_roundw
              case rel => exact ⟨j, o7, by omega, by go_num, hw7, ha7, hr7, r7, hc7'⟩
              case measure => simp [intOf]
    · go_enter Try.func6, Try.ntmps6
      go_wp2_with fail
      refine (awake2_any w).mono ?_
      rintro e w1 ⟨rfl, hc1⟩
      have h1 := H.out.kept hc1 (by simp)
      go_wp2_with fail
      refine (rnew_no _ xs w1 h1 hmk (by omega)).mono ?_
      rintro e w2 ⟨rfl, rfl⟩
      clear h1
      go_wp2
      go_ret
      exact ⟨rfl, hc1⟩

end Go.Proofs.Ytdejfoemofhpdaa
