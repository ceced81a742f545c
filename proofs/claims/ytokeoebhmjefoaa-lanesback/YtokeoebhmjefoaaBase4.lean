/- Texts that other texts of this claim rest on, one behind the other (DtOf LgLen LgProg DtProgA DtOnce DtProgB DtProgC ApCells DtProg LnLs LnOfT CxRef MdRef MdRefB MdRefC EtRef BwLawPut BwBytes BwAwake BwFoot BwMark BwRef). -/
import Derived.Test.YtokeoebhmjefoaaBase3
import Derived.Deep.RegionHeld3
import Derived.Laws.MathBits
import Derived.Handy
import Derived.BigQuiet
import Derived.Deep.CutRange
import Derived.Deep.LoopGhost
import Derived.WalkMore
import Derived.Deep.OwnRows
/- What the document's own dtab.Of (puncheonref11.Of) tells. -/
namespace Go.Proofs.Ytokeoebhmjefoaa
open Go.RowKit

/-- what Of tells -/
def DtabSays (w : World) (q : List Int) (e : Ending) (w' : World) : Prop :=
  ∃ v', e = .returned (.tuple #[v', .int .i64 (if logI (totalI q) = 0 then 1 else 0)]) ∧ (logI (totalI q) ≠ 0 → ∃ l, RdC w' v' l ∧ IsDtab (fq q) (logI (totalI q)) l) ∧ (logI (totalI q) = 0 → RdC w' v' []) ∧ Chg (fun _ => False) w w'

/-- the keys up to that of s and d have their cells -/
def DoneC (f : Nat → Nat) (R s d : Nat) (out : List Cl) : Prop := ∀ t e, (t < s ∧ e < f t) ∨ (t = s ∧ e < d) → out.getD (placeF f 256 t (f t + e)) cl0 = cellOf R t (f t + e)
theorem doneC_zero (f : Nat → Nat) (R : Nat) (out : List Cl) : DoneC f R 0 0 out := fun t e h => by omega
theorem doneC_next {f : Nat → Nat} {R s : Nat} {out : List Cl} (h : DoneC f R s (f s) out) : DoneC f R (s + 1) 0 out := fun t e ht => by
  refine h t e ?_
  by_cases hts : t = s
  · subst hts; exact .inr ⟨rfl, by omega⟩
  · exact .inl ⟨by omega, by omega⟩
theorem doneC_step {f : Nat → Nat} {R s d : Nat} {out : List Cl} (hl : out.length = sumTo f 256) (hs : s < 256) (hd : d < f s) (h : DoneC f R s d out) : DoneC f R s (d + 1) (out.set (placeF f 256 s (f s + d)) (cellOf R s (f s + d))) := fun t e ht => by
  have hp := place_room (f := f) (N := 256) hs hd
  by_cases hk : t = s ∧ e = d
  · obtain ⟨rfl, rfl⟩ := hk
    exact getD_set_self (by omega) _
  · have hte : t ≤ s ∧ e < f t := by
      rcases ht with ⟨h1, h2⟩ | ⟨rfl, h2⟩
      · exact ⟨by omega, h2⟩
      · exact ⟨Nat.le_refl _, by omega⟩
    rw [getD_set_other (fun he => hk (by
      have := place_inj (f := f) (N := 256) hs (by omega) hd hte.2 he
      exact ⟨this.1.symm, this.2.symm⟩))]
    exact h t e (by omega)
theorem doneC_all {f : Nat → Nat} {R : Nat} {out : List Cl} (hl : out.length = 2 ^ R) (h : DoneC f R 256 0 out) : IsDtab f R out := ⟨hl, fun s d hs hd => h s d (.inl ⟨hs, hd⟩)⟩

theorem Try.infoCell : (Try.prog.info? 76).map (fun i => (i.zero, i.size, i.bytes)) = some (some (.agg #[.int .u8 0, .int .i64 0, .int .i64 0]), 3, 24) := by kernel_rfl
theorem zeros_cvs (n : Nat) : (madeCells (Value.agg #[.int .u8 0, .int .i64 0, .int .i64 0]).cells (n * 3)).toList = cvs (List.replicate n cl0) := by
  have hl : (madeCells (Value.agg #[.int .u8 0, .int .i64 0, .int .i64 0]).cells (n * 3)).toList.length = n * 3 := by simp [madeCells]
  apply List.ext_getElem?
  intro i
  by_cases hi : i < n * 3
  · obtain ⟨j, r, hr, rfl⟩ : ∃ j r, r < 3 ∧ i = j * 3 + r := ⟨i / 3, i % 3, Nat.mod_lt _ (by decide), by omega⟩
    have hj : j < n := by omega
    have hg := cvs_get (List.replicate n cl0) j (by simpa using hj)
    have h0 : (List.replicate n cl0).getD j cl0 = cl0 := by simp [List.getD_eq_getElem?_getD, hj]
    rw [h0] at hg
    have hm : (madeCells (Value.agg #[.int .u8 0, .int .i64 0, .int .i64 0]).cells (n * 3)).toList[j * 3 + r]? = some ((Value.agg #[.int .u8 0, .int .i64 0, .int .i64 0]).cells[(j * 3 + r) % 3]!) := by
      simp only [madeCells, Array.toList_map, List.getElem?_map, Array.toList_range, List.getElem?_range hi, Option.map_some]
      rfl
    rw [hm]
    obtain rfl | rfl | rfl : r = 0 ∨ r = 1 ∨ r = 2 := by omega
    · rw [show (j * 3 + 0) % 3 = 0 by omega]; exact hg.1.symm
    · rw [show (j * 3 + 1) % 3 = 1 by omega]; exact hg.2.1.symm
    · rw [show (j * 3 + 2) % 3 = 2 by omega]; exact hg.2.2.symm
  · rw [List.getElem?_eq_none (by rw [hl]; omega), List.getElem?_eq_none (by rw [cvs_length]; simp; omega)]
theorem RowC.of_own {w : World} {base g n : Nat} {l : List Cl} (h : w.ownsRow base 76 3 (.slice (some ⟨g, 0, none⟩) n n) n (cvs l)) : RowC w g 76 l := by
  rcases h.2 with ⟨h0, _⟩ | ⟨g', cap, cur, he, _, hg, _, _, hs, ht⟩
  · simp at h0
  · simp only [Value.slice.injEq, Option.some.injEq, Addr.mk.injEq, and_true, true_and] at he
    obtain ⟨rfl, rfl⟩ := he
    have : cur = (cvs l).toArray := by
      apply Array.ext'
      rw [← ht, List.take_of_length_le (by rw [Array.length_toList, hs]; exact Nat.le_refl _)]
    rw [this] at hg
    exact hg
theorem wpList_make_cells {ops : Array Oper} {rest : List Oper} {o : Oper} {a : Act} {w : World} {Q : Exit → Act → World → Prop} (hg : o.guard = none) (l c : Operand) (hop : o.op = Op.makeSlice 62 l c)
    (L C : Int) (n : Nat) (hl : a.eval l = .int .i64 L) (hc : a.eval c = .int .i64 C) (hL : L = (n : Int)) (hC : C = (n : Int)) (hn : n < 100000000000) (Z : List Cl) (hZ : Z = List.replicate n cl0)
    (hK : ∀ w', RowC w' w.heap.size 76 Z → Chg (fun _ => False) w w' → wpList Try.prog ops Q rest (a.put o.dst (.slice (some ⟨w.heap.size, 0, none⟩) n n)) w') : wpList Try.prog ops Q (o :: rest) a w := by
  obtain ⟨i, hi, hz0, hz1, hz2⟩ := info_parts Try.infoCell
  refine wpList_make_full w hg l c 62 hop w.heap.size 76 i (.agg #[.int .u8 0, .int .i64 0, .int .i64 0]) 3 Try.underlying62 hi hz0 hz1 .i64 .i64 L C n hl hc hL hC (by rw [hz2]; omega) (by unfold maxLen; omega) (Nat.le_refl _) ?_
  intro w1 h1 h2
  rw [zeros_cvs, ← hZ] at h1
  exact hK w1 (RowC.of_own h1) ((Chg.of_grown h2).mono fun k _ hk => by simp at hk)

/-- the same, in memory that is new -/
def DtabOwn (w : World) (q : List Int) (e : Ending) (w' : World) : Prop :=
  ∃ v', e = .returned (.tuple #[v', .int .i64 (if logI (totalI q) = 0 then 1 else 0)]) ∧ (logI (totalI q) ≠ 0 → ∃ l g n, v' = .slice (some ⟨g, 0, none⟩) l.length n ∧ w.heap.size ≤ g ∧ RowC w' g 76 l ∧ IsDtab (fq q) (logI (totalI q)) l) ∧ (logI (totalI q) = 0 → RdC w' v' []) ∧ Chg (fun _ => False) w w'

set_option maxHeartbeats 2000000 in
theorem r11of_own (v : Value) (q : List Int) (w : World) (h : RdI w v q) (hb : ∀ z ∈ q, -9223372036854775808 ≤ z ∧ z ≤ 9223372036854775807) (hl : q.length < 100000000000) :
    Calls Try.prog 37 #[v] w fun e w' => DtabOwn w q e w' := by
  have HLG := Lib.hid (r8log_any v q w h hb hl)
  by_cases hk : logI (totalI q) = 0
  · clear hb hl
    go_enter Try.func37, Try.ntmps37
    go_wp2_with fail
    refine HLG.out.mono ?_
    rintro e w1 ⟨rfl, rfl⟩
    rw [hk]
    have HK := Lib.hid hk
    clear hk h HLG
    go_wp2
    go_ret2
    exact ⟨_, by rw [if_pos HK.out]; rfl, fun h => absurd HK.out h, fun _ => .inl ⟨rfl, none, 0, rfl⟩, Chg.refl _ _⟩
  · have hq := normQ_of hk
    have hkk : ((logI (totalI q) : Nat) : Int) ≠ 0 := by omega
    obtain ⟨k, hke⟩ : ∃ k, logI (totalI q) = k := ⟨_, rfl⟩
    rw [hke] at hq hkk
    rw [hke] at HLG
    have HK := Lib.hid hk
    clear hk
    obtain ⟨ao, cap, rfl⟩ := h.form
    have hsum := hq.sum
    have hsz := hq.size
    have hat := hq.at
    have hle := hq.le
    have h256 := hq.1
    have hk12 := hq.2.2.2.2
    obtain ⟨L, hL⟩ : ∃ L, 2 ^ k = L := ⟨_, rfl⟩
    rw [hL] at hsum hsz
    have hLI : (2 : Int) ^ k = (L : Int) := by rw [← hL]; simp
    have hcells : ∀ W, Chg (fun _ => False) w W → ∀ s, s < 256 → ∃ g off, ao = some ⟨g, off, none⟩ ∧ W.cell? ⟨g, off + s, none⟩ = some (.int .i64 ((fq q s : Nat) : Int)) := fun W hc s hs => by
      obtain ⟨g, off, h1, h2⟩ := (h.kept hc (by simp)).at s (by omega)
      rw [hat s] at h2
      exact ⟨g, off, h1, h2⟩
    obtain ⟨g, off, rfl, -⟩ := hcells w (Chg.refl _ _) 0 (by omega)
    have HCELL := Lib.hid fun W (hc : Chg (fun _ => False) w W) s hs => (show W.cell? ⟨g, off + s, none⟩ = some (.int .i64 ((fq q s : Nat) : Int)) by
      obtain ⟨g', off', h1, h2⟩ := hcells W hc s hs
      simp only [Option.some.injEq, Addr.mk.injEq] at h1
      obtain ⟨rfl, rfl, -⟩ := h1
      exact h2)
    have HPL := Lib.hid fun W (hc : Chg (fun _ => False) w W) (s i : Nat) hs hi => r10place_any (.slice (some ⟨g, off, none⟩) q.length cap) q k s i W (h.kept hc (by simp)) hq hs hi
    have hlenI : (q.length : Int) = 256 := by omega
    obtain ⟨n, hn⟩ : ∃ n, q.length = n := ⟨_, rfl⟩
    rw [hn] at hlenI HLG HPL ⊢
    have HSUM := Lib.hid hsum; have HLE := Lib.hid hle; have HKE := Lib.hid hke; have HL := Lib.hid hL; have HK12 := Lib.hid hk12
    have HLN := Lib.hid hlenI
    have hk64 : (k : Int) < 64 := by omega
    have hkL : (k : Int) ≤ 12 := by omega
    clear hcells hat hle h256 hL hsum h hq hb hl hn hke hlenI hk12
    go_enter Try.func37, Try.ntmps37
    go_wp2_with fail
    refine HLG.out.mono ?_
    rintro e w1 ⟨rfl, rfl⟩
    have hkk' : ((k : Int) == 0) = false := by simpa using hkk
    clear hkk HLG
    go_wp2_with (at_make; refine wpList_make_cells rfl _ _ rfl (L : Int) (L : Int) L rfl rfl rfl rfl (by omega) (List.replicate L cl0) rfl ?_)
    intro w2 hrow hc
    obtain ⟨Z, hZ⟩ : ∃ Z : List Cl, List.replicate L cl0 = Z := ⟨_, rfl⟩
    have hZl : Z.length = L := by rw [← hZ]; simp
    rw [hZ] at hrow
    have HROW := Lib.hid hrow; have HC := Lib.hid hc; have HZL := Lib.hid hZl
    clear hZ hrow hc hZl
    go_wp2
    obtain ⟨G, hG⟩ : ∃ G, w1.heap.size = G := ⟨_, rfl⟩
    rw [hG] at HROW ⊢
    have HG := Lib.hid hG
    clear hG
    go_loopw [7, 8, 9] (fun o7 _ _ wr => ∃ (s : Nat) (out : List Cl), s ≤ 256 ∧ o7 = .int .i64 (s : Int) ∧ out.length = L ∧ RowC wr G 76 out ∧ DoneC (fq q) k s 0 out ∧ Chg (fun _ => False) w1 wr) (fun o7 _ _ _ => 256 - (intOf o7).toNat)
    case atStart => exact ⟨0, Z, Nat.zero_le _, rfl, HZL.out, HROW.out, doneC_zero _ _ _, HC.out⟩
    case round =>
      obtain ⟨s, out, hs, rfl, hol, hrow, hdone, hc⟩ := hrel
      clear HROW HC HZL
      by_cases hlt : s < 256
      · have hcell := HCELL.out wr hc s hlt
        have hf4 := HLE.out s
        have dl : decide ((s : Int) < 256) = true := decide_eq_true (by omega)
        have hsn : (s : Int) < (n : Int) := by have := HLN.out; omega
        have HOL := Lib.hid hol; have HROW := Lib.hid hrow; have HDN := Lib.hid hdone; have HC := Lib.hid hc
        obtain ⟨F, hF⟩ : ∃ F, fq q s = F := ⟨_, rfl⟩
        rw [hF] at hcell hf4
        have HF := Lib.hid hF
        clear hol hrow hdone hc hF
        go_wp2
        obtain ⟨wa, hwa⟩ : ∃ wa, wa = wr := ⟨_, rfl⟩
        subst hwa
        go_loopw [8, 9] (fun o8 _ wr => ∃ (d : Nat) (out : List Cl), d ≤ F ∧ o8 = .int .i64 ((F + d : Nat) : Int) ∧ out.length = L ∧ RowC wr G 76 out ∧ DoneC (fq q) k s d out ∧ Chg (fun _ => False) w1 wr) (fun o8 _ _ => 2 * F - (intOf o8).toNat)
        case atStart => exact ⟨0, out, Nat.zero_le _, rfl, HOL.out, HROW.out, HDN.out, HC.out⟩
        case round =>
          obtain ⟨d, out2, hd, rfl, hol, hrow, hdone, hc⟩ := hrel
          clear HOL HROW HDN HC hcell
          have hcell := HCELL.out wr hc s hlt
          rw [HF.out] at hcell
          obtain ⟨J, hJ⟩ : ∃ J, F + d = J := ⟨_, rfl⟩
          rw [hJ]
          have HJ := Lib.hid hJ
          have hJ8 : J ≤ 8192 := by omega
          by_cases hlt2 : d < F
          · have dl2 : decide ((J : Int) < 2 * (F : Int)) = true := decide_eq_true (by omega)
            have hroom := place_room (f := fq q) (N := 256) (s := s) (d := d) hlt (by rw [HF.out]; exact hlt2)
            have hstep := doneC_step (R := k) (by rw [HSUM.out]; exact hol) hlt (by rw [HF.out]; exact hlt2) hdone
            rw [HF.out, hJ] at hroom hstep
            rw [HSUM.out] at hroom
            have hpl := HPL.out
            obtain ⟨P, hP⟩ : ∃ P, placeF (fq q) 256 s J = P := ⟨_, rfl⟩
            rw [hP] at hroom hstep
            have hPL : (P : Int) < (L : Int) := by omega
            have HSTEP := Lib.hid hstep; have HROW := Lib.hid hrow; have HOL := Lib.hid hol; have HC := Lib.hid hc; have HP := Lib.hid hP
            have h256 : (s : Int) % 256 = (s : Int) := by omega
            have hfl := r7floor_any (J : Int) wr (by omega) (by omega)
            have hfJ : floorI (J : Int) = Nat.log2 J := by unfold floorI; rw [Int.toNat_natCast]
            have hlg : Nat.log2 J ≤ k := log2_lt (by omega) (by have := f_le (f := fq q) (R := k) (s := s) (by rw [HL.out]; exact HSUM.out) hlt; rw [HF.out] at this; rw [two_pow_succ]; omega)
            rw [hfJ] at hfl
            obtain ⟨b, hb⟩ : ∃ b, bitsN k J = b := ⟨_, rfl⟩
            have hbI : (k : Int) - ((Nat.log2 J : Nat) : Int) = (b : Int) := by rw [← hb]; unfold bitsN; omega
            have hb12 : b ≤ 12 := by rw [← hb]; unfold bitsN; omega
            obtain ⟨B, hB⟩ : ∃ B, 2 ^ b = B := ⟨_, rfl⟩
            have hBI : (2 : Int) ^ b = (B : Int) := by rw [← hB]; simp
            obtain ⟨X, hX⟩ : ∃ X, J * B = X := ⟨_, rfl⟩
            have hXI : (J : Int) * (B : Int) = (X : Int) := by rw [← hX]; simp
            have hB4 : B ≤ 4096 := by rw [← hB]; exact pow12 hb12
            have hX4 : X ≤ 33554432 := by rw [← hX]; exact Nat.le_trans (Nat.mul_le_mul hJ8 hB4) (by decide)
            have hcl : cellOf k s J = ⟨s, (b : Int), (X : Int) - (L : Int)⟩ := by unfold cellOf; rw [hb, hB, hX, HL.out]
            rw [hcl] at HSTEP
            obtain ⟨lj, hlj⟩ : ∃ lj, Nat.log2 J = lj := ⟨_, rfl⟩
            rw [hlj] at hfl hbI
            have hbb : (b : Int) ≤ 12 := by omega
            have hljb : (lj : Int) ≤ 12 := by omega
            have HFL := Lib.hid hfl
            have HLT := Lib.hid hlt; have HLT2 := Lib.hid hlt2
            have hw1 : IntKind.u8.wrap (s : Int) = (s : Int) := by rw [IntKind.wrap_u8]; omega
            have hw2 : IntKind.i64.wrap (B : Int) = (B : Int) := by rw [IntKind.wrap_i64]; omega
            have hw3 : IntKind.i64.wrap (X : Int) = (X : Int) := by rw [IntKind.wrap_i64]; omega
            have hw4 : IntKind.i64.wrap ((X : Int) - (L : Int)) = (X : Int) - (L : Int) := by rw [IntKind.wrap_i64]; omega
            clear hfl hpl hstep hol hrow hdone hc hP hJ hroom hfJ hlg hb hB hX hcl hlj hb12 hlt hlt2
            go_wp2_with fail
            refine HFL.out.mono ?_
            rintro e w3 ⟨rfl, rfl⟩
            have hpd : Calls Try.prog 49 #[.slice (some ⟨g, off, none⟩) n cap, .int .i64 (s : Int), .int .i64 (J : Int)] w3.drew fun e w' => e = .returned (.int .i64 (P : Int)) ∧ RowC w' G 76 out2 ∧ Chg (fun _ => False) w1 w' := by
              refine (HPL.out w3.drew HC.out.drew s J (by have := HLT.out; omega) (by omega)).mono ?_
              rintro e w4 ⟨rfl, m, rfl⟩
              rw [HP.out]
              exact ⟨rfl, HROW.out.kept ((Chg.refl (fun _ => False) w3).drew.drewN m) (by simp), HC.out.drew.drewN m⟩
            have HPD := Lib.hid hpd
            have hPo : P < out2.length := by have := HOL.out; omega
            have HPO := Lib.hid hPo
            clear hpd hPo HROW HC hcell HFL
            go_wp2
            go_region_held3 (fun _ => True) (trivial) (first
              | (go_at_call 49; refine (HPD.out).mono ?_; rintro e w4 ⟨rfl, hr4, hc4⟩; have hcl := hr4.cell P HPO.out; have f0 := hr4.free (P * 3); have f1 := hr4.free (P * 3 + 1); have f2 := hr4.free (P * 3 + 2); obtain ⟨c0, c1, c2⟩ := hcl; have HR4 := Lib.hid hr4; have HC4 := Lib.hid hc4; clear hr4 hc4))
            have hr5 := HR4.out.set P HPO.out ⟨s, (b : Int), (X : Int) - (L : Int)⟩
            simp only [] at hr5
            have hc5 : Chg (fun _ => False) w1 (((w4.setCell ⟨G, P * 3, none⟩ (.int .u8 (s : Int))).setCell ⟨G, P * 3 + 1, none⟩ (.int .i64 (b : Int))).setCell ⟨G, P * 3 + 2, none⟩ (.int .i64 ((X : Int) - (L : Int)))) :=
              ((HC4.out.trans (Chg.setCell _ ⟨G, P * 3, none⟩ _) (fun q hq h => by simp at h; have := HG.out; omega)).trans (Chg.setCell _ ⟨G, P * 3 + 1, none⟩ _) (fun q hq h => by simp at h; have := HG.out; omega)).trans (Chg.setCell _ ⟨G, P * 3 + 2, none⟩ _) (fun q hq h => by simp at h; have := HG.out; omega)
            have HR5 := Lib.hid hr5; have HC5 := Lib.hid hc5
            clear hr5 hc5 HR4 HC4 c0 c1 c2 f0 f1 f2
            go_wp2
            go_roundw
            case rel => exact ⟨d + 1, out2.set P ⟨s, (b : Int), (X : Int) - (L : Int)⟩, by have := HLT2.out; omega, by have := HJ.out; go_num, by rw [List.length_set]; exact HOL.out, HR5.out, HSTEP.out, HC5.out⟩
            case measure => have := HJ.out; have := HLT2.out; simp [intOf]; omega
          · have dl2 : decide ((J : Int) < 2 * (F : Int)) = false := decide_eq_false (by omega)
            have hdF : d = F := by omega
            have hdn : DoneC (fq q) k (s + 1) 0 out2 := doneC_next (by rw [HF.out]; rw [← hdF]; exact hdone)
            have HDN := Lib.hid hdn; have HROW := Lib.hid hrow; have HOL := Lib.hid hol; have HC := Lib.hid hc
            clear hdn hrow hol hc hdone hJ hdF
            go_wp2
            go_roundw
            case rel => exact ⟨s + 1, out2, by omega, by go_num, HOL.out, HROW.out, HDN.out, HC.out⟩
            case measure => simp [intOf]; omega
      · have hs6 : s = 256 := by omega
        have dl : decide ((s : Int) < 256) = false := decide_eq_false (by omega)
        have hsp := doneC_all (f := fq q) (R := k) (out := out) (by rw [HL.out]; exact hol) (by rw [hs6] at hdone; exact hdone)
        have HSP := Lib.hid hsp; have HROW := Lib.hid hrow; have HOL := Lib.hid hol; have HC := Lib.hid hc
        clear hsp hrow hol hc hdone hs6
        go_wp2
        go_ret2
        exact ⟨_, by rw [if_neg HK.out]; rfl, fun _ => ⟨out, G, L, by rw [HOL.out]; rfl, by have := HG.out; omega, HROW.out, by rw [HKE.out]; exact HSP.out⟩, fun h => absurd h HK.out, HC.out⟩
theorem r11of_any (v : Value) (q : List Int) (w : World) (h : RdI w v q) (hb : ∀ z ∈ q, -9223372036854775808 ≤ z ∧ z ≤ 9223372036854775807) (hl : q.length < 100000000000) :
    Calls Try.prog 37 #[v] w fun e w' => DtabSays w q e w' :=
  (r11of_own v q w h hb hl).mono fun e w' ⟨v', h1, h2, h3, h4⟩ => ⟨v', h1, fun hk => by
    obtain ⟨l, g, n, rfl, _, hr, hi⟩ := h2 hk
    exact ⟨l, hr.rd n, hi⟩, h3, h4⟩

end Go.Proofs.Ytokeoebhmjefoaa

/- What math/bits.Len64 and math/bits.Len tell of any number. -/
namespace Go.Proofs.Ytokeoebhmjefoaa
open Go.RowKit

theorem len_fin {x y c : Int} (b : Nat) (hc : c = (b : Int)) (hb : b ≤ 56) (hy : y.toNat = x.toNat / 2 ^ b) (hy1 : 1 ≤ y) (hy2 : y < 256) : wrap64 (c + wrap64 ((bitLen y.toNat : Nat) : Int)) = ((bitLen x.toNat : Nat) : Int) := by
  have h8 := bitLen_le8 y.toNat (by omega)
  have hs := bitLen_shift x.toNat b (by omega)
  rw [← hy] at hs
  rw [hs, hc]
  generalize bitLen y.toNat = l at *
  unfold wrap64
  omega

set_option maxRecDepth 100000 in
set_option maxHeartbeats 4000000 in
theorem len64_any (x : Int) (h0 : 0 ≤ x) (hx : x ≤ 18446744073709551615) (w : World) : Calls Try.prog 111 #[.int .u64 x] w fun e w' => e = .returned (.int .i64 (bitLen x.toNat : Int)) ∧ w' = w := by
  go_enter Try.func111, Try.ntmps111
  go_wp2
  all_goals rw [len8tab_get]
  all_goals go_ret
  all_goals refine ⟨congrArg (fun z => Ending.returned (Value.int .i64 z)) ?_, rfl⟩
  · exact len_fin 56 rfl (by decide) (by omega) (by omega) (by omega)
  · exact len_fin 48 rfl (by decide) (by omega) (by omega) (by omega)
  · exact len_fin 40 rfl (by decide) (by omega) (by omega) (by omega)
  · exact len_fin 32 rfl (by decide) (by omega) (by omega) (by omega)
  · exact len_fin 24 rfl (by decide) (by omega) (by omega) (by omega)
  · exact len_fin 16 rfl (by decide) (by omega) (by omega) (by omega)
  · exact len_fin 8 rfl (by decide) (by omega) (by omega) (by omega)
  · have h8 := bitLen_le8 x.toNat (by omega)
    generalize bitLen x.toNat = l at *
    unfold wrap64
    omega

theorem len_any (x : Int) (h0 : 0 ≤ x) (hx : x ≤ 18446744073709551615) (w : World) : Calls Try.prog 109 #[.int .u64 x] w fun e w' => e = .returned (.int .i64 (bitLen x.toNat : Int)) ∧ w' = w := by
  have H := fun w => len64_any x h0 hx w
  go_enter Try.func109, Try.ntmps109
  go_wp2_with fail
  refine (H _).mono ?_
  rintro e w' ⟨rfl, rfl⟩
  go_wp2
  go_ret
  exact ⟨rfl, rfl⟩

end Go.Proofs.Ytokeoebhmjefoaa

/- What logs' Floor, Ceil, Width and Pick tell. THIS ALONE SPEAKS OF THE PROGRAM'S OWN TEXT. -/
namespace Go.Proofs.Ytokeoebhmjefoaa
open Go.RowKit

theorem bitLen_width {n : Int} (h : 1 ≤ n) : bitLen n.toNat = widthI n := by
  unfold bitLen widthI
  rw [if_neg (by omega), if_neg (by omega)]

theorem lwidth_w (n : Int) (w : World) (hn : n ≤ 1099511627776) (hlo : -9223372036854775808 ≤ n) :
    Calls Try.prog 105 #[.int .i64 n] w fun e w' => e = .returned (.int .i64 ((widthI n : Nat) : Int)) ∧ w' = w := by
  by_cases h1 : n < 1
  · have hw := width_small h1
    go_enter Try.func105, Try.ntmps105
    go_wp2
    go_ret
    rw [hw]
    exact ⟨rfl, rfl⟩
  · have hw := bitLen_width (n := n) (by omega)
    have H := fun w => len_any n (by omega) (by omega) w
    have hm : n % 18446744073709551616 = n := by omega
    go_enter Try.func105, Try.ntmps105
    go_wp2_with fail
    refine (H _).mono ?_
    rintro e w' ⟨rfl, rfl⟩
    go_wp2
    go_ret
    exact ⟨rfl, rfl⟩

theorem lfloor_w (n : Int) (w : World) (hn : n ≤ 1099511627776) (hlo : -9223372036854775808 ≤ n) :
    Calls Try.prog 88 #[.int .i64 n] w fun e w' => e = .returned (.int .i64 ((floorI n : Nat) : Int)) ∧ w' = w := by
  by_cases h1 : n < 2
  · have hw := floor_small h1
    go_enter Try.func88, Try.ntmps88
    go_wp2
    go_ret
    rw [hw]
    exact ⟨rfl, rfl⟩
  · have H := fun w => lwidth_w n w hn hlo
    have hw := width_floor (n := n) (by omega)
    have h40 := floor_le40 hn
    rw [hw] at H
    generalize floorI n = f at *
    have hs : ((f + 1 : Nat) : Int) - 1 = (f : Int) := by omega
    have hwr : wrap64 ((f : Int)) = (f : Int) := by unfold wrap64; omega
    obtain ⟨q, hq⟩ : ∃ q : Int, q = ((f + 1 : Nat) : Int) := ⟨_, rfl⟩
    rw [← hq] at H hs
    have hq1 : 0 ≤ q ∧ q ≤ 41 := by omega
    go_enter Try.func88, Try.ntmps88
    go_wp2_with fail
    refine (H _).mono ?_
    rintro e w' ⟨rfl, rfl⟩
    go_wp2
    go_ret
    refine ⟨congrArg (fun z => Ending.returned (Value.int .i64 z)) ?_, rfl⟩
    omega

theorem lwidth_any (n : Int) (w : World) (hn : n ≤ 1099511627776) (hlo : -9223372036854775808 ≤ n) :
    Calls Try.prog 105 #[.int .i64 n] w fun e w' => e = .returned (.int .i64 ((widthI n : Nat) : Int)) ∧ Chg (fun _ => False) w w' :=
  (lwidth_w n w hn hlo).mono fun _ _ h => ⟨h.1, h.2 ▸ Chg.refl _ _⟩
theorem lfloor_any (n : Int) (w : World) (hn : n ≤ 1099511627776) (hlo : -9223372036854775808 ≤ n) :
    Calls Try.prog 88 #[.int .i64 n] w fun e w' => e = .returned (.int .i64 ((floorI n : Nat) : Int)) ∧ Chg (fun _ => False) w w' :=
  (lfloor_w n w hn hlo).mono fun _ _ h => ⟨h.1, h.2 ▸ Chg.refl _ _⟩
theorem foldl_take_succ (a : Int) (zs : List Int) (k : Nat) (hk : k < zs.length) : (zs.take (k + 1)).foldl max a = max ((zs.take k).foldl max a) (zs.getD k 0) := by
  rw [List.take_add_one, List.foldl_append]
  simp [List.getElem?_eq_getElem hk]

end Go.Proofs.Ytokeoebhmjefoaa

/- What dtab's cell, mayBeMany, fitted and Step tell. THIS SPEAKS OF THE PROGRAM'S OWN TEXT. -/
namespace Go.Proofs.Ytokeoebhmjefoaa
open Go.RowKit

/-- may it be gone on from x with more? -/
def canC (l : List Cl) (x : Int) (more : Nat) : Prop := 0 ≤ x ∧ x < (l.length : Int) ∧ 0 ≤ (l.getD x.toNat cl0).Bits ∧ (l.getD x.toNat cl0).Bits ≤ 24 ∧ more < 2 ^ (l.getD x.toNat cl0).Bits.toNat
instance (l : List Cl) (x : Int) (more : Nat) : Decidable (canC l x more) := by unfold canC; infer_instance
def stepS (l : List Cl) (x : Int) (more : Nat) : Nat := if canC l x more then (l.getD x.toNat cl0).Sym else 0
def stepN (l : List Cl) (x : Int) (more : Nat) : Int := if canC l x more then (l.getD x.toNat cl0).Base + (more : Int) else 0
/-- no base is out of what is promised -/
def baseOk (l : List Cl) (x : Int) : Prop := 0 ≤ x → x < (l.length : Int) → -1099511627776 ≤ (l.getD x.toNat cl0).Base ∧ (l.getD x.toNat cl0).Base ≤ 1099511627776

/-- a block that holds a cell -/
def Cb (w : World) (g : Nat) (c : Cl) : Prop := w.heap[g]? = some (.cells #[.int .u8 (c.Sym : Int), .int .i64 c.Bits, .int .i64 c.Base] 76 (0, 0))
theorem Cb.cells {w : World} {g : Nat} {c : Cl} (h : Cb w g c) : w.cell? ⟨g, 0, none⟩ = some (.int .u8 (c.Sym : Int)) ∧ w.cell? ⟨g, 1, none⟩ = some (.int .i64 c.Bits) ∧ w.cell? ⟨g, 2, none⟩ = some (.int .i64 c.Base) := by
  refine ⟨?_, ?_, ?_⟩
  · rw [cell_of_row _ _ 0 _ _ _ h]; rfl
  · rw [cell_of_row _ _ 1 _ _ _ h]; rfl
  · rw [cell_of_row _ _ 2 _ _ _ h]; rfl
theorem Cb.kept {S : Nat → Prop} {w w' : World} {g : Nat} {c : Cl} (h : Cb w g c) (hc : Chg S w w') (hS : ¬ S g) : Cb w' g c := (hc.block g (lt_of_block h) hS).trans h
theorem Cb.free {w : World} {g : Nat} {c : Cl} (h : Cb w g c) (k : Nat) : w.frozen? ⟨g, k, none⟩ = false := frozen_of_row w g k _ _ h
/-- a cell is laid into a block -/
def C3 (w : World) (g : Nat) (c : Cl) : World := ((w.setCell ⟨g, 0, none⟩ (.int .u8 (c.Sym : Int))).setCell ⟨g, 1, none⟩ (.int .i64 c.Bits)).setCell ⟨g, 2, none⟩ (.int .i64 c.Base)
theorem C3_chg (w : World) (g : Nat) (c : Cl) : Chg (fun q => q = g) w (C3 w g c) :=
  ((Chg.setCell w ⟨g, 0, none⟩ _).trans (Chg.setCell _ ⟨g, 1, none⟩ _) fun _ _ h => h).trans (Chg.setCell _ ⟨g, 2, none⟩ _) fun _ _ h => h
theorem C3_cb {w : World} {g : Nat} {c0 : Cl} (h : Cb w g c0) (c : Cl) : Cb (C3 w g c) g c := by
  have h1 := heap_setCell_same w g 0 _ _ (.int .u8 (c.Sym : Int)) h
  have h2 := heap_setCell_same _ g 1 _ _ (.int .i64 c.Bits) h1
  have h3 := heap_setCell_same _ g 2 _ _ (.int .i64 c.Base) h2
  exact h3
theorem C3_cells {w : World} {g : Nat} {c0 : Cl} (h : Cb w g c0) (S : Nat) (I B : Int) :
    (w.setCell ⟨g, 0, none⟩ (.int .u8 (S : Int))).cell? ⟨g, 0, none⟩ = some (.int .u8 (S : Int)) ∧ ((w.setCell ⟨g, 0, none⟩ (.int .u8 (S : Int))).setCell ⟨g, 1, none⟩ (.int .i64 I)).cell? ⟨g, 1, none⟩ = some (.int .i64 I) ∧ (C3 w g ⟨S, I, B⟩).cell? ⟨g, 2, none⟩ = some (.int .i64 B) := by
  have h1 := heap_setCell_same w g 0 _ _ (.int .u8 (S : Int)) h
  have h2 := heap_setCell_same _ g 1 _ _ (.int .i64 I) h1
  have h3 := heap_setCell_same _ g 2 _ _ (.int .i64 B) h2
  exact ⟨by rw [cell_of_row _ _ 0 _ _ _ h1]; rfl, by rw [cell_of_row _ _ 1 _ _ _ h2]; rfl, by unfold C3; rw [cell_of_row _ _ 2 _ _ _ h3]; rfl⟩
theorem zeroCell (W : World) : (zeroValue 76).run Try.prog W = .ok (.agg #[.int .u8 0, .int .i64 0, .int .i64 0]) W := by kernel_rfl

set_option maxHeartbeats 600000 in
theorem dcell_any (s i k : Nat) (w : World) (h1 : 1 ≤ i) (h2 : i < 2 ^ (k + 1)) (hk : k ≤ 12) :
    Calls Try.prog 57 #[.int .u8 (s : Int), .int .i64 (i : Int), .int .i64 (k : Int)] w fun e w' => e = .returned (.agg #[.int .u8 ((cellOf k s i).Sym : Int), .int .i64 (cellOf k s i).Bits, .int .i64 (cellOf k s i).Base]) ∧ Chg (fun _ => False) w w' := by
  have hlg : Nat.log2 i ≤ k := log2_lt h1 h2
  have hi8 : i ≤ 8192 := by
    have : 2 ^ (k + 1) ≤ 2 ^ 13 := Nat.pow_le_pow_right (by decide) (by omega)
    omega
  have hfl := fun W => lfloor_w (i : Int) W (by omega) (by omega)
  have hfi : floorI (i : Int) = Nat.log2 i := by unfold floorI; rw [Int.toNat_natCast]
  rw [hfi] at hfl
  obtain ⟨lj, hlj⟩ : ∃ lj, Nat.log2 i = lj := ⟨_, rfl⟩
  obtain ⟨b, hb⟩ : ∃ b, bitsN k i = b := ⟨_, rfl⟩
  have hbI : (k : Int) - ((lj : Nat) : Int) = (b : Int) := by rw [← hb, ← hlj]; unfold bitsN; omega
  have hb12 : b ≤ 12 := by rw [← hb]; unfold bitsN; omega
  obtain ⟨B, hB⟩ : ∃ B, 2 ^ b = B := ⟨_, rfl⟩
  have hBI : (2 : Int) ^ b = (B : Int) := by rw [← hB]; simp
  obtain ⟨L, hL⟩ : ∃ L, 2 ^ k = L := ⟨_, rfl⟩
  have hLI : (2 : Int) ^ k = (L : Int) := by rw [← hL]; simp
  have hL4 : L ≤ 4096 := by rw [← hL]; exact pow12 hk
  obtain ⟨X, hX⟩ : ∃ X, i * B = X := ⟨_, rfl⟩
  have hXI : (i : Int) * (B : Int) = (X : Int) := by rw [← hX]; simp
  have hB4 : B ≤ 4096 := by rw [← hB]; exact pow12 hb12
  have hX4 : X ≤ 33554432 := by rw [← hX]; exact Nat.le_trans (Nat.mul_le_mul hi8 hB4) (by decide)
  have hcl : cellOf k s i = ⟨s, (b : Int), (X : Int) - (L : Int)⟩ := by unfold cellOf; rw [hb, hB, hX, hL]
  rw [hcl]
  simp only []
  rw [hlj] at hfl
  have hcb : Cb (w.alloc (.cells #[.int .u8 0, .int .i64 0, .int .i64 0] 76)) w.heap.size cl0 := heap_alloc_new w _
  have hc0 := Chg.alloc (fun _ => False) w (.cells #[.int .u8 0, .int .i64 0, .int .i64 0] 76)
  have hz := zeroCell
  obtain ⟨W0, hW0⟩ : ∃ W0, w.alloc (.cells #[.int .u8 0, .int .i64 0, .int .i64 0] 76) = W0 := ⟨_, rfl⟩
  rw [hW0] at hcb hc0
  obtain ⟨G, hG⟩ : ∃ G, w.heap.size = G := ⟨_, rfl⟩
  rw [hG] at hcb
  have h3 := C3_cb hcb ⟨s, (b : Int), (X : Int) - (L : Int)⟩
  have hcc : Chg (fun _ => False) w (C3 W0 G ⟨s, (b : Int), (X : Int) - (L : Int)⟩) := hc0.trans (C3_chg W0 G ⟨s, (b : Int), (X : Int) - (L : Int)⟩) fun q hq he => by omega
  obtain ⟨u0, u1, u2⟩ := h3.cells
  obtain ⟨y0, y1, y2⟩ := C3_cells hcb s (b : Int) ((X : Int) - (L : Int))
  obtain ⟨z0, z1, z2⟩ := hcb.cells
  have f0 := hcb.free 0
  have f1 := hcb.free 1
  have f2 := hcb.free 2
  unfold C3 at u0 u1 u2 hcc y2
  simp only [] at u0 u1 u2 hcc z0 z1 z2 y2
  have HCC := Lib.hid hcc
  have hb64 : (b : Int) < 64 := by omega
  have hk64 : (k : Int) < 64 := by omega
  have hw0 : IntKind.i64.wrap (b : Int) = (b : Int) := by rw [IntKind.wrap_i64]; omega
  have hw2 : IntKind.i64.wrap (B : Int) = (B : Int) := by rw [IntKind.wrap_i64]; omega
  have hw5 : IntKind.i64.wrap (L : Int) = (L : Int) := by rw [IntKind.wrap_i64]; omega
  have hw3 : IntKind.i64.wrap (X : Int) = (X : Int) := by rw [IntKind.wrap_i64]; omega
  have hw4 : IntKind.i64.wrap ((X : Int) - (L : Int)) = (X : Int) - (L : Int) := by rw [IntKind.wrap_i64]; omega
  have HFL := Lib.hid hfl
  have hljI : (lj : Int) ≤ 12 := by omega
  have hkI : (k : Int) ≤ 12 := by omega
  have hbI0 : (b : Int) ≤ 12 := by omega
  have hiI : (i : Int) ≤ 8192 := by omega
  clear hcc h3 hcb hc0 hcl hX hB hL hb hlj hfl hfi hlg hi8 h1 h2 hk hb12 hL4 hB4 hX4
  go_enter Try.func57, Try.ntmps57
  go_wp2_with fail
  refine (HFL.out _).mono ?_
  rintro e w1 ⟨rfl, rfl⟩
  go_wp2
  go_region
  go_wp2
  refine bodyPost_ret (v := .agg #[.int .u8 (s : Int), .int .i64 (b : Int), .int .i64 ((X : Int) - (L : Int))]) (by simp [results, Try.results57, go_sem, y0, y1, y2]; try rfl) rfl ?_
  exact ⟨rfl, HCC.out.drew⟩

/-- there is a table of so many states -/
def IsPow (n : Int) : Prop := ∃ R, 1 ≤ R ∧ R ≤ 12 ∧ n = ((2 ^ R : Nat) : Int)
theorem IsPow.iff {n : Int} (h2 : 2 ≤ n) (h4 : n ≤ 4096) : floorI n = ceilI n ↔ IsPow n := by
  have hbo := both_at (n := n) (by omega)
  rw [eq_comm, hbo]
  refine ⟨fun h => ⟨floorI n, ?_, ?_, h⟩, fun ⟨R, hR, _, he⟩ => ?_⟩
  · have h1 : floorI n ≠ 0 := fun h0 => by rw [h0] at h; simp at h; omega
    omega
  · have : floorI n < 13 := lt_of_pow (a := floorI n) (b := 13) (by have : (2:Nat) ^ 13 = 8192 := rfl; omega)
    omega
  · rw [he, floor_at]
theorem IsPow.bnd {n : Int} (h : IsPow n) : 2 ≤ n ∧ n ≤ 4096 := by
  obtain ⟨R, h1, h2, rfl⟩ := h
  have := pow12 h2
  have : 2 ^ 1 ≤ 2 ^ R := Nat.pow_le_pow_right (by decide) h1
  omega

set_option maxHeartbeats 600000 in
theorem dstep_any (v : Value) (l : List Cl) (x : Int) (more : Nat) (w : World) (h : RdC w v l) (hf : ∀ c ∈ l, c.fits) (_hl : l.length < 100000000000) (hx : -9223372036854775808 ≤ x ∧ x ≤ 9223372036854775807) (hm : more < 4294967296) (hb : baseOk l x) :
    Calls Try.prog 59 #[v, .int .i64 x, .int .u32 (more : Int)] w fun e w' => e = .returned (.tuple #[.int .u8 ((stepS l x more : Nat) : Int), .int .i64 (stepN l x more), .bool (decide (canC l x more))]) ∧ Chg (fun _ => False) w w' := by
  obtain ⟨ao, cap, rfl⟩ := h.form
  by_cases h0 : x < 0
  · have hn : ¬ canC l x more := fun hc => by have := hc.1; omega
    unfold stepS stepN
    rw [if_neg hn, if_neg hn, decide_eq_false hn]
    have d0 : decide (x < 0) = true := decide_eq_true h0
    clear hf _hl h hb hn hx
    go_enter Try.func59, Try.ntmps59
    go_wp2
    go_returns
    exact ⟨rfl, Chg.refl _ _⟩
  · have d0 : decide (x < 0) = false := decide_eq_false h0
    by_cases h1 : (l.length : Int) ≤ x
    · have hn : ¬ canC l x more := fun hc => by have := hc.2.1; omega
      unfold stepS stepN
      rw [if_neg hn, if_neg hn, decide_eq_false hn]
      have d1 : decide ((l.length : Int) ≤ x) = true := decide_eq_true h1
      clear hf _hl h hb hn hx
      go_enter Try.func59, Try.ntmps59
      go_wp2
      go_returns
      exact ⟨rfl, Chg.refl _ _⟩
    · obtain ⟨j, rfl⟩ : ∃ j : Nat, x = (j : Int) := ⟨x.toNat, by omega⟩
      have hj : j < l.length := by omega
      have d1 : decide ((l.length : Int) ≤ (j : Int)) = false := decide_eq_false h1
      obtain ⟨g, off, rfl, a0, a1, a2⟩ := h.at j hj
      have hbj := hb (by omega) (by omega)
      rw [Int.toNat_natCast] at hbj
      have hcan : canC l (j : Int) more ↔ (0 ≤ (l.getD j cl0).Bits ∧ (l.getD j cl0).Bits ≤ 24 ∧ more < 2 ^ (l.getD j cl0).Bits.toNat) := by
        unfold canC
        rw [Int.toNat_natCast]
        exact ⟨fun h => h.2.2, fun h => ⟨by omega, by omega, h⟩⟩
      have hfit := hf (l.getD j cl0) (by rw [List.getD_eq_getElem?_getD, List.getElem?_eq_getElem hj]; exact List.getElem_mem hj)
      obtain ⟨D, hD⟩ : ∃ D, decide (canC l (j : Int) more) = D := ⟨_, rfl⟩
      obtain ⟨P, hP⟩ : ∃ P, stepS l (j : Int) more = P := ⟨_, rfl⟩
      obtain ⟨N, hN⟩ : ∃ N, stepN l (j : Int) more = N := ⟨_, rfl⟩
      rw [hD, hP, hN]
      have hno : ¬ (0 ≤ (l.getD j cl0).Bits ∧ (l.getD j cl0).Bits ≤ 24 ∧ more < 2 ^ (l.getD j cl0).Bits.toNat) → D = false ∧ P = 0 ∧ N = 0 := fun hn => by
        rw [← hD, ← hP, ← hN]
        unfold stepS stepN
        rw [← hcan] at hn
        rw [if_neg hn, if_neg hn]
        exact ⟨decide_eq_false hn, rfl, rfl⟩
      have hyes : (0 ≤ (l.getD j cl0).Bits ∧ (l.getD j cl0).Bits ≤ 24 ∧ more < 2 ^ (l.getD j cl0).Bits.toNat) → D = true ∧ P = (l.getD j cl0).Sym ∧ N = (l.getD j cl0).Base + (more : Int) := fun hn => by
        rw [← hD, ← hP, ← hN]
        unfold stepS stepN
        rw [← hcan] at hn
        rw [if_pos hn, if_pos hn, Int.toNat_natCast]
        exact ⟨decide_eq_true hn, rfl, rfl⟩
      clear hcan hb hf hD hP hN
      obtain ⟨c, hc⟩ : ∃ c, l.getD j cl0 = c := ⟨_, rfl⟩
      rw [hc] at a0 a1 a2 hbj hfit hno hyes
      clear hc
      obtain ⟨s, bi, ba⟩ := c
      unfold Cl.fits at hfit
      simp only [] at a0 a1 a2 hbj hfit hno hyes
      obtain ⟨-, ⟨fb0, fb1⟩, -⟩ := hfit
      obtain ⟨W1, hW1⟩ : ∃ W1, w.alloc (.cells #[.int .u8 (s : Int), .int .i64 bi, .int .i64 ba] 76) = W1 := ⟨_, rfl⟩
      have c1 : Chg (fun _ => False) w W1 := by rw [← hW1]; exact Chg.alloc _ _ _
      have n1 : Cb W1 w.heap.size ⟨s, bi, ba⟩ := by rw [← hW1]; exact heap_alloc_new _ _
      obtain ⟨b0, b1, b2⟩ := n1.cells
      simp only [] at b0 b1 b2
      obtain ⟨gx, hgx⟩ : ∃ gx, w.heap.size = gx := ⟨_, rfl⟩
      rw [hgx] at b0 b1 b2
      have HC := Lib.hid c1
      have hjl : (j : Int) < (l.length : Int) := by omega
      have hjn : ¬ l.length ≤ j := by omega
      obtain ⟨n, hn⟩ : ∃ n, l.length = n := ⟨_, rfl⟩
      rw [hn] at d1 hjl hjn ⊢
      clear c1 n1 h hj _hl hn h1 h0
      by_cases e0 : bi < 0
      · obtain ⟨rfl, rfl, rfl⟩ := hno fun hc => by omega
        have d2 : decide (bi < 0) = true := decide_eq_true e0
        clear hx hbj hno hyes
        go_enter Try.func59, Try.ntmps59
        go_wp2
        go_returns
        exact ⟨rfl, HC.out⟩
      · have d2 : decide (bi < 0) = false := decide_eq_false e0
        by_cases e1 : 24 < bi
        · obtain ⟨rfl, rfl, rfl⟩ := hno fun hc => by omega
          have d3 : decide (24 < bi) = true := decide_eq_true e1
          clear hx hbj hno hyes
          go_enter Try.func59, Try.ntmps59
          go_wp2
          go_returns
          exact ⟨rfl, HC.out⟩
        · have d3 : decide (24 < bi) = false := decide_eq_false e1
          obtain ⟨b, rfl⟩ : ∃ b : Nat, bi = (b : Int) := ⟨bi.toNat, by omega⟩
          rw [Int.toNat_natCast] at hno hyes
          have hb24 : b ≤ 24 := by omega
          have hbI : (b : Int) ≤ 24 := by omega
          obtain ⟨B, hB⟩ : ∃ B, 2 ^ b = B := ⟨_, rfl⟩
          have hBI : (2 : Int) ^ b = (B : Int) := by rw [← hB]; simp
          have hB24 : B ≤ 16777216 := by rw [← hB]; exact Nat.pow_le_pow_right (n := 2) (by decide) hb24
          have hBl : (B : Int) ≤ 16777216 := by omega
          rw [hB] at hno hyes
          clear hB
          by_cases e2 : more < B
          · obtain ⟨rfl, rfl, rfl⟩ := hyes ⟨by omega, hbI, e2⟩
            have d4 : decide ((B : Int) ≤ (more : Int)) = false := decide_eq_false (by omega)
            have e3 : ¬ B ≤ more := by omega
            have hw1 : IntKind.i64.wrap (more : Int) = (more : Int) := by rw [IntKind.wrap_i64]; omega
            have hw2 : IntKind.i64.wrap (ba + (more : Int)) = ba + (more : Int) := by rw [IntKind.wrap_i64]; omega
            have hw3 : IntKind.u32.wrap (B : Int) = (B : Int) := by rw [IntKind.wrap_u32]; omega
            clear hno hyes hx hb24 hB24
            go_enter Try.func59, Try.ntmps59
            go_wp2
            go_quiet (fail)
            go_wp2
            go_returns
            exact ⟨rfl, HC.out.drewN _⟩
          · obtain ⟨rfl, rfl, rfl⟩ := hno fun hc => e2 hc.2.2
            have e3 : B ≤ more := by omega
            have d4 : decide ((B : Int) ≤ (more : Int)) = true := decide_eq_true (by omega)
            have hw3 : IntKind.u32.wrap (B : Int) = (B : Int) := by rw [IntKind.wrap_u32]; omega
            clear hx hbj hno hyes hb24 hB24
            go_enter Try.func59, Try.ntmps59
            go_wp2
            go_returns
            exact ⟨rfl, HC.out⟩

end Go.Proofs.Ytokeoebhmjefoaa

/- Plain mathematics of dtab's marks: rows of marks, a row for each symbol that is there; how many are not set yet. -/
namespace Go.Proofs.Ytokeoebhmjefoaa
open Go

def falses : List Bool → Nat
  | [] => 0
  | b :: r => (if b then 0 else 1) + falses r
theorem falses_set : ∀ (r : List Bool) (x : Nat), x < r.length → r.getD x false = false → falses (r.set x true) + 1 = falses r
  | [], x, h, _ => by simp at h
  | b :: r, 0, _, h => by
    have : b = false := by simpa using h
    subst this
    simp [falses]; omega
  | b :: r, x + 1, h, h2 => by
    have := falses_set r x (by simpa using h) (by simpa using h2)
    simp only [List.set_cons_succ, falses]
    omega
theorem falses_rep (n : Nat) : falses (List.replicate n false) = n := by
  induction n with
  | zero => rfl
  | succ n ih => rw [List.replicate_succ, falses, ih]; simp; omega
theorem falses_le : ∀ r : List Bool, falses r ≤ r.length
  | [] => Nat.le_refl _
  | b :: r => by
    have := falses_le r
    simp only [falses, List.length_cons]
    split <;> omega
theorem falses_zero : ∀ r : List Bool, falses r = 0 ↔ ∀ x, x < r.length → r.getD x false = true
  | [] => by simp [falses]
  | b :: r => by
    have ih := falses_zero r
    constructor
    · intro h x hx
      simp only [falses] at h
      cases x with
      | zero => cases b <;> simp_all
      | succ x => simpa using ih.1 (by omega) x (by simpa using hx)
    · intro h
      have h0 := h 0 (by simp)
      have hb : b = true := by simpa using h0
      have : falses r = 0 := ih.2 fun x hx => by simpa using h (x + 1) (by simpa using hx)
      simp only [falses, hb, this]
      simp

def updM (M : Nat → List Bool) (s : Nat) (r : List Bool) : Nat → List Bool := fun t => if t = s then r else M t
theorem updM_self (M : Nat → List Bool) (s : Nat) (r : List Bool) : updM M s r s = r := by unfold updM; rw [if_pos rfl]
theorem updM_other (M : Nat → List Bool) {s t : Nat} (r : List Bool) (h : t ≠ s) : updM M s r t = M t := by unfold updM; rw [if_neg h]
def miss (M : Nat → List Bool) : Nat := sumTo (fun s => falses (M s)) 256
theorem sumTo_upd (f g : Nat → Nat) (s v : Nat) (hg : g s = v) (ho : ∀ t, t ≠ s → g t = f t) : ∀ n, s < n → sumTo g n + f s = sumTo f n + v
  | 0, h => by omega
  | n + 1, h => by
    simp only [sumTo]
    by_cases hn : s = n
    · subst hn
      rw [sumTo_congr s (g := g) (h := f) fun a ha => ho a (by omega), hg]; omega
    · have := sumTo_upd f g s v hg ho n (by omega)
      rw [ho n (by omega)]; omega
theorem miss_upd (M : Nat → List Bool) (s : Nat) (r : List Bool) (h : s < 256) : miss (updM M s r) + falses (M s) = miss M + falses r := by
  unfold miss
  exact sumTo_upd (fun t => falses (M t)) (fun t => falses (updM M s r t)) s (falses r) (by simp only [updM_self]) (fun t ht => by simp only [updM_other M r ht]) 256 h
theorem miss_zero (M : Nat → List Bool) : miss M = 0 ↔ ∀ s, s < 256 → falses (M s) = 0 := by
  unfold miss
  constructor
  · intro h s hs
    have := sumTo_at (fun s => falses (M s)) 256 s hs
    exact Nat.le_zero.1 (h ▸ this)
  · intro h
    have := sumTo_congr (g := fun s => falses (M s)) (h := fun _ => 0) 256 h
    rw [this, sumTo_zero]

/-- what is marked: P; of which symbols there is a row: S -/
structure Inv (n : Nat) (P : Nat → Nat → Prop) (S : Nat → Prop) (M : Nat → List Bool) : Prop where
  len : ∀ s, s < 256 → M s = [] ∨ (M s).length = n
  seen : ∀ s, s < 256 → (M s ≠ [] ↔ S s)
  at' : ∀ s x, s < 256 → x < n → ((M s).getD x false = true ↔ P s x)

/-- no two of the first k cells hold one state of one symbol -/
def Apart (l : List Cl) (k : Nat) : Prop := ∀ a b, a < k → b < k → ∀ s x, inC (l.getD a cl0) s x → inC (l.getD b cl0) s x → a = b
def MarkD (l : List Cl) (k s x : Nat) : Prop := ∃ b, b < k ∧ inC (l.getD b cl0) s x
def Seen (l : List Cl) (k s : Nat) : Prop := ∃ b, b < k ∧ (l.getD b cl0).Sym = s
/-- .. and the first t states of the cell k -/
def MarkDT (l : List Cl) (k t s x : Nat) : Prop := MarkD l k s x ∨ (s = (l.getD k cl0).Sym ∧ (l.getD k cl0).Base ≤ (x : Int) ∧ (x : Int) < (l.getD k cl0).Base + (t : Int))

theorem inv_start (n : Nat) (l : List Cl) : Inv n (MarkD l 0) (Seen l 0) (fun _ => []) :=
  ⟨fun _ _ => .inl rfl, fun s _ => ⟨fun h => absurd rfl h, fun ⟨b, hb, _⟩ => by omega⟩, fun s x _ _ => ⟨fun h => by simp at h, fun ⟨b, hb, _⟩ => by omega⟩⟩
theorem apart_start (l : List Cl) : Apart l 0 := fun a b ha => by omega
theorem miss_start : miss (fun _ => []) = 0 := sumTo_zero 256

theorem Seen.succ {l : List Cl} {k s : Nat} : Seen l (k + 1) s ↔ Seen l k s ∨ s = (l.getD k cl0).Sym := by
  constructor
  · rintro ⟨b, hb, h⟩
    by_cases hbk : b = k
    · subst hbk; exact .inr h.symm
    · exact .inl ⟨b, by omega, h⟩
  · rintro (⟨b, hb, h⟩ | h)
    · exact ⟨b, by omega, h⟩
    · exact ⟨k, by omega, h.symm⟩
/-- a row is made for the symbol of the cell k, if there is none -/
theorem Inv.make {n : Nat} {l : List Cl} {k : Nat} {M : Nat → List Bool} (h : Inv n (MarkD l k) (Seen l k) M) (hn : 0 < n) (h0 : M (l.getD k cl0).Sym = []) (hs : (l.getD k cl0).Sym < 256) :
    Inv n (MarkDT l k 0) (Seen l (k + 1)) (updM M (l.getD k cl0).Sym (List.replicate n false)) := by
  refine ⟨fun s hsl => ?_, fun s hsl => ?_, fun s x hsl hx => ?_⟩
  · by_cases he : s = (l.getD k cl0).Sym
    · rw [he, updM_self]; exact .inr List.length_replicate
    · rw [updM_other _ _ he]; exact h.len s hsl
  · rw [Seen.succ]
    by_cases he : s = (l.getD k cl0).Sym
    · rw [he, updM_self]
      refine ⟨fun _ => .inr rfl, fun _ hh => ?_⟩
      have := congrArg List.length hh
      simp at this; omega
    · rw [updM_other _ _ he, h.seen s hsl]
      exact ⟨.inl, fun h => h.resolve_right he⟩
  · have hM : ¬ MarkD l k (l.getD k cl0).Sym x := fun hm => by
      have := (h.at' _ x hs hx).2 hm
      rw [h0] at this; simp at this
    by_cases he : s = (l.getD k cl0).Sym
    · rw [he, updM_self]
      refine ⟨fun hh => by simp [List.getD_eq_getElem?_getD, hx] at hh, fun hh => ?_⟩
      rcases hh with hh | ⟨_, h1, h2⟩
      · exact absurd hh hM
      · omega
    · rw [updM_other _ _ he, h.at' s x hsl hx]
      refine ⟨.inl, fun hh => ?_⟩
      rcases hh with hh | ⟨h1, _⟩
      · exact hh
      · exact absurd h1 he
theorem Inv.has {n : Nat} {l : List Cl} {k : Nat} {M : Nat → List Bool} (h : Inv n (MarkD l k) (Seen l k) M) (h0 : M (l.getD k cl0).Sym ≠ []) (hs : (l.getD k cl0).Sym < 256) :
    Inv n (MarkDT l k 0) (Seen l (k + 1)) M := by
  refine ⟨h.len, fun s hsl => ?_, fun s x hsl hx => ?_⟩
  · rw [Seen.succ, h.seen s hsl]
    exact ⟨.inl, fun hh => hh.elim id fun he => by rw [he, ← h.seen _ hs]; exact h0⟩
  · rw [h.at' s x hsl hx]
    refine ⟨.inl, fun hh => ?_⟩
    rcases hh with hh | ⟨_, h1, h2⟩
    · exact hh
    · omega
/-- a mark more -/
theorem Inv.mark {n : Nat} {l : List Cl} {k t : Nat} {M : Nat → List Bool} (h : Inv n (MarkDT l k t) (Seen l (k + 1)) M) (_hs : (l.getD k cl0).Sym < 256) {x : Nat} (hx : x < n) (he : (x : Int) = (l.getD k cl0).Base + (t : Int)) (hl : (M (l.getD k cl0).Sym).length = n) :
    Inv n (MarkDT l k (t + 1)) (Seen l (k + 1)) (updM M (l.getD k cl0).Sym ((M (l.getD k cl0).Sym).set x true)) := by
  refine ⟨fun s hsl => ?_, fun s hsl => ?_, fun s y hsl hy => ?_⟩
  · by_cases hes : s = (l.getD k cl0).Sym
    · rw [hes, updM_self, List.length_set]; exact .inr hl
    · rw [updM_other _ _ hes]; exact h.len s hsl
  · rw [← h.seen s hsl]
    by_cases hes : s = (l.getD k cl0).Sym
    · rw [hes, updM_self]
      constructor
      · intro _ hh; rw [hh] at hl; simp at hl; omega
      · intro _ hh
        have h2 := congrArg List.length hh
        rw [List.length_set, hl] at h2
        simp at h2; omega
    · rw [updM_other _ _ hes]
  · have hat := h.at' s y hsl hy
    have hstep : MarkDT l k (t + 1) s y ↔ MarkDT l k t s y ∨ (s = (l.getD k cl0).Sym ∧ y = x) := by
      unfold MarkDT
      constructor
      · rintro (hh | ⟨h1, h2, h3⟩)
        · exact .inl (.inl hh)
        · by_cases hyx : y = x
          · exact .inr ⟨h1, hyx⟩
          · exact .inl (.inr ⟨h1, h2, by omega⟩)
      · rintro ((hh | ⟨h1, h2, h3⟩) | ⟨h1, h2⟩)
        · exact .inl hh
        · exact .inr ⟨h1, h2, by omega⟩
        · exact .inr ⟨h1, by omega, by omega⟩
    rw [hstep, ← hat]
    by_cases hes : s = (l.getD k cl0).Sym
    · rw [hes, updM_self]
      by_cases hyx : y = x
      · subst hyx
        rw [List.getD_eq_getElem?_getD, List.getElem?_set_self (by omega)]
        simp
      · rw [List.getD_eq_getElem?_getD, List.getElem?_set_ne (by omega), ← List.getD_eq_getElem?_getD]
        exact ⟨.inl, fun hh => hh.elim id fun h => absurd h.2 hyx⟩
    · rw [updM_other _ _ hes]
      exact ⟨.inl, fun hh => hh.elim id fun h => absurd h.1 hes⟩
/-- none of the first t states of the cell k was marked -/
def ApartT (l : List Cl) (k t : Nat) : Prop := Apart l k ∧ ∀ b (x : Nat), b < k → (l.getD k cl0).Base ≤ (x : Int) → (x : Int) < (l.getD k cl0).Base + (t : Int) → ¬ inC (l.getD b cl0) (l.getD k cl0).Sym x
theorem Apart.zero {l : List Cl} {k : Nat} (h : Apart l k) : ApartT l k 0 := ⟨h, fun b x _ h1 h2 => by omega⟩
theorem ApartT.step {l : List Cl} {k t : Nat} (h : ApartT l k t) {x : Nat} (he : (x : Int) = (l.getD k cl0).Base + (t : Int)) (hm : ¬ MarkDT l k t (l.getD k cl0).Sym x) : ApartT l k (t + 1) := by
  refine ⟨h.1, fun b y hb h1 h2 hin => ?_⟩
  by_cases hyx : y = x
  · subst hyx; exact hm (.inl ⟨b, hb, hin⟩)
  · exact h.2 b y hb h1 (by omega) hin
theorem ApartT.all {l : List Cl} {k t : Nat} (h : ApartT l k t) (ht : t = 2 ^ (l.getD k cl0).Bits.toNat) : Apart l (k + 1) := by
  have key : ∀ b s x, b < k → inC (l.getD k cl0) s x → ¬ inC (l.getD b cl0) s x := fun b s x hb hk hin => by
    obtain ⟨h1, h2, h3⟩ := hk
    rw [← h1] at hin
    exact h.2 b x hb h2 (by rw [ht]; exact h3) hin
  intro a b ha hb s x h1 h2
  by_cases hak : a = k
  · by_cases hbk : b = k
    · omega
    · rw [hak] at h1; exact absurd h2 (key b s x (by omega) h1)
  · by_cases hbk : b = k
    · rw [hbk] at h2; exact absurd h1 (key a s x (by omega) h2)
    · exact h.1 a b (by omega) (by omega) s x h1 h2
theorem Inv.all {n : Nat} {l : List Cl} {k t : Nat} {M : Nat → List Bool} (h : Inv n (MarkDT l k t) (Seen l (k + 1)) M) (ht : t = 2 ^ (l.getD k cl0).Bits.toNat) : Inv n (MarkD l (k + 1)) (Seen l (k + 1)) M := by
  refine ⟨h.len, h.seen, fun s x hs hx => ?_⟩
  rw [h.at' s x hs hx]
  constructor
  · rintro (⟨b, hb, hin⟩ | ⟨h1, h2, h3⟩)
    · exact ⟨b, by omega, hin⟩
    · exact ⟨k, by omega, h1.symm, h2, by rw [← ht]; exact h3⟩
  · rintro ⟨b, hb, hin⟩
    by_cases hbk : b = k
    · subst hbk
      obtain ⟨h1, h2, h3⟩ := hin
      exact .inr ⟨h1.symm, h2, by rw [ht]; exact h3⟩
    · exact .inl ⟨b, by omega, hin⟩

/-- of each symbol that is there each state comes once -/
def OnceL (l : List Cl) (n : Nat) : Prop := ∀ a x, a < n → x < n → countTo (fun b => decide (inC (l.getD b cl0) (l.getD a cl0).Sym x)) n = 1
/-- a state that is marked twice -/
theorem not_once {l : List Cl} {n k t : Nat} (hk : k < n) {x : Nat} (hx : x < n) (he : (x : Int) = (l.getD k cl0).Base + (t : Int)) (ht : t < 2 ^ (l.getD k cl0).Bits.toNat) (hm : MarkDT l k t (l.getD k cl0).Sym x) : ¬ OnceL l n := by
  intro h
  have h1 := h k x hk hx
  rcases hm with ⟨b, hb, hin⟩ | ⟨_, h2, h3⟩
  · have hin2 : inC (l.getD k cl0) (l.getD k cl0).Sym x := ⟨rfl, by omega, by omega⟩
    have := countTo_unique h1 (show b < n by omega) hk (decide_eq_true hin) (decide_eq_true hin2)
    omega
  · omega
theorem once_iff {l : List Cl} {n : Nat} {M : Nat → List Bool} (h : Inv n (MarkD l n) (Seen l n) M) (ha : Apart l n) (hs : ∀ a, a < n → (l.getD a cl0).Sym < 256) : miss M = 0 ↔ OnceL l n := by
  rw [miss_zero]
  constructor
  · intro h0 a x hal hx
    have hsa := hs a hal
    have hne := (h.seen _ hsa).2 ⟨a, hal, rfl⟩
    have hl := (h.len _ hsa).resolve_left hne
    have hall := (falses_zero _).1 (h0 _ hsa)
    obtain ⟨b, hb, hin⟩ := (h.at' _ x hsa hx).1 (hall x (by omega))
    refine countTo_exact hb (decide_eq_true hin) fun c hc hin2 => ?_
    rw [decide_eq_true_eq] at hin2
    exact ha c b hc hb _ x hin2 hin
  · intro h0 s hsl
    rw [falses_zero]
    intro x hx
    by_cases he : M s = []
    · rw [he] at hx; simp at hx
    · have hl := (h.len s hsl).resolve_left he
      obtain ⟨a, hal, hae⟩ := (h.seen s hsl).1 he
      have h1 := h0 a x hal (by omega)
      obtain ⟨b, hb, hin⟩ := countTo_pos (p := fun b => decide (inC (l.getD b cl0) (l.getD a cl0).Sym x)) n (by omega)
      rw [decide_eq_true_eq, hae] at hin
      exact (h.at' s x hsl (by omega)).2 ⟨b, hb, hin⟩
theorem miss_le {n : Nat} {P : Nat → Nat → Prop} {S : Nat → Prop} {M : Nat → List Bool} (h : Inv n P S M) : miss M ≤ 256 * n := by
  have h1 : ∀ a, a < 256 → falses (M a) ≤ n := fun a ha => by
    have := falses_le (M a)
    rcases h.len a ha with h0 | h0
    · rw [h0]; simp [falses]
    · omega
  have h2 := sumTo_le (g := fun s => falses (M s)) (h := fun _ => n) 256 h1
  have h3 : ∀ k, sumTo (fun _ => n) k = k * n := fun k => by
    induction k with
    | zero => simp [sumTo]
    | succ k ih => rw [sumTo, ih, Nat.add_mul, Nat.one_mul]
  rw [h3] at h2
  exact h2
theorem WholeL.iff {l : List Cl} {R : Nat} (h1 : 1 ≤ R) (h2 : R ≤ 12) (hl : l.length = 2 ^ R) (hc : ∀ a, a < l.length → 0 ≤ (l.getD a cl0).Bits ∧ (l.getD a cl0).Bits ≤ 12 ∧ 0 ≤ (l.getD a cl0).Base ∧ (l.getD a cl0).Base ≤ (l.length : Int) - ((2 ^ (l.getD a cl0).Bits.toNat : Nat) : Int)) : WholeL l ↔ OnceL l l.length :=
  ⟨fun h => h.2.2, fun h => ⟨⟨R, h1, h2, hl⟩, hc, h⟩⟩

end Go.Proofs.Ytokeoebhmjefoaa

/- What dtab's eachOnce tells. THIS SPEAKS OF THE PROGRAM'S OWN TEXT. -/
namespace Go.Proofs.Ytokeoebhmjefoaa
open Go.RowKit

theorem slice_ne {g n : Nat} : (Value.slice (some ⟨g, 0, none⟩) n n) ≠ .slice none 0 0 := fun h => by simp at h
theorem eqlBools (W : World) (a : Addr) (n c : Nat) : (binOp .eql 31 (.slice (some a) n c) (.slice none 0 0)).run Try.prog W = .ok (.bool false) W := by kernel_rfl
theorem eqlBools0 (W : World) (n c : Nat) : (binOp .eql 31 (.slice none n c) (.slice none 0 0)).run Try.prog W = .ok (.bool true) W := by kernel_rfl
theorem made_bools (w : World) (n : Nat) : RowT (w.alloc (.cells (madeCells #[.bool false] n) 4)) w.heap.size 4 (List.replicate n false) := by
  have : madeCells #[.bool false] n = (bl (List.replicate n false)).toArray := by
    apply Array.ext'
    rw [madeCells, Array.toList_map, Array.toList_range]
    refine List.ext_getElem (by simp [bl]) fun i h1 h2 => ?_
    simp [bl, Nat.mod_one]
  unfold RowT
  rw [← this]
  exact heap_alloc_new w _

end Go.Proofs.Ytokeoebhmjefoaa

/- What dtab's fitted and Whole tell. THIS SPEAKS OF THE PROGRAM'S OWN TEXT. -/
namespace Go.Proofs.Ytokeoebhmjefoaa
open Go.RowKit

/-- the cell next to c that leads to none but a table's states -/
def clampI (x m : Int) : Int := if m < (if x < 0 then 0 else x) then m else (if x < 0 then 0 else x)
def fitC (c : Cl) (R : Nat) : Cl := ⟨c.Sym, clampI c.Bits (R : Int), clampI c.Base (((2 ^ R : Nat) : Int) - ((2 ^ (clampI c.Bits (R : Int)).toNat : Nat) : Int))⟩
theorem clamp_range {x m : Int} (h : 0 ≤ m) : 0 ≤ clampI x m ∧ clampI x m ≤ m := by
  unfold clampI; split <;> split at * <;> omega
theorem clamp_eq {x m : Int} (h : 0 ≤ m) : x = clampI x m ↔ 0 ≤ x ∧ x ≤ m := by
  unfold clampI; split <;> split at * <;> omega

theorem fit_ok {c : Cl} {R : Nat} : c = fitC c R ↔ 0 ≤ c.Bits ∧ c.Bits ≤ (R : Int) ∧ 0 ≤ c.Base ∧ c.Base ≤ ((2 ^ R : Nat) : Int) - ((2 ^ c.Bits.toNat : Nat) : Int) := by
  obtain ⟨S, bi, ba⟩ := c
  unfold fitC
  simp only [Cl.mk.injEq, true_and]
  have h1 := clamp_eq (x := bi) (m := (R : Int)) (by omega)
  constructor
  · rintro ⟨e1, e2⟩
    have hb := h1.1 e1
    rw [← e1] at e2
    have hle : 2 ^ bi.toNat ≤ 2 ^ R := Nat.pow_le_pow_right (by decide) (by omega)
    have := (clamp_eq (by omega)).1 e2
    exact ⟨hb.1, hb.2, this.1, this.2⟩
  · rintro ⟨a1, a2, a3, a4⟩
    have e1 := h1.2 ⟨a1, a2⟩
    have hle : 2 ^ bi.toNat ≤ 2 ^ R := Nat.pow_le_pow_right (by decide) (by omega)
    refine ⟨e1, ?_⟩
    rw [← e1]
    exact (clamp_eq (by omega)).2 ⟨a3, a4⟩

theorem whole_fit {l : List Cl} {n R : Nat} (hn : n = 2 ^ R) (hl : l.length = n) (h : WholeL l) (a : Nat) (ha : a < n) : l.getD a cl0 = fitC (l.getD a cl0) R := by
  obtain ⟨h0, h1, h2, h3⟩ := h.2.1 a (by rw [hl]; exact ha)
  rw [hl] at h3
  refine fit_ok.2 ⟨h0, ?_, h2, by rw [← hn]; exact h3⟩
  have : 2 ^ (l.getD a cl0).Bits.toNat ≤ 2 ^ R := by omega
  have : (l.getD a cl0).Bits.toNat < R + 1 := lt_of_pow (by rw [Nat.pow_succ]; have := Nat.two_pow_pos R; omega)
  omega

end Go.Proofs.Ytokeoebhmjefoaa

/- append(s, x...): cells x that are read, onto a row of cells of the call's own; cells that may be written. -/
namespace Go.Proofs.Ytokeoebhmjefoaa
open Go.RowKit

theorem RdC.news {w : World} {a : Addr} {n cap : Nat} {xs : List Cl} (h : RdC w (.slice (some a) n cap) xs) : ∀ j u, (cvs xs)[j]? = some u → w.cell? (a.add j) = some u := by
  intro j u hu
  rcases h with ⟨rfl, _⟩ | ⟨g, off, cap', he, hc⟩
  · simp [cvs] at hu
  · simp only [Value.slice.injEq, Option.some.injEq] at he
    obtain ⟨rfl, rfl, rfl⟩ := he
    have hj : j < xs.length * 3 := by rw [← cvs_length]; exact (List.getElem?_eq_some_iff.1 hu).1
    obtain ⟨i, r, hr, rfl⟩ : ∃ i r, r < 3 ∧ j = i * 3 + r := ⟨j / 3, j % 3, Nat.mod_lt _ (by decide), by omega⟩
    have hg := cvs_get xs i (by omega)
    have hcc := hc i (by omega)
    rw [add_lit]
    obtain rfl | rfl | rfl : r = 0 ∨ r = 1 ∨ r = 2 := by omega
    · have := hg.1; rw [Nat.add_zero] at hu ⊢; rw [this] at hu; rw [← Option.some.inj hu]; exact hcc.1
    · rw [hg.2.1] at hu; rw [← Option.some.inj hu, ← Nat.add_assoc]; exact hcc.2.1
    · rw [hg.2.2] at hu; rw [← Option.some.inj hu, ← Nat.add_assoc]; exact hcc.2.2
theorem cvs_one (xs : List Cl) : ∀ u ∈ cvs xs, u.oneCell' = true := by
  intro u hu
  simp only [cvs, List.mem_flatMap, cv] at hu
  obtain ⟨x, _, hx⟩ := hu
  simp at hx
  rcases hx with rfl | rfl | rfl <;> rfl
theorem run_appendC_nil (w : World) (ty : TypeId) (base n c : Nat) (v : Value) (ys : List Value) (hown : w.ownsRow base 76 3 v n ys) :
    (Builtin.append_ #[62, 62] ty #[v, .slice none 0 c]).run Try.prog w = .ok v w := by
  obtain ⟨i, hi, hz0, hz1, hz2⟩ := info_parts Try.infoCell
  rcases hown.2 with ⟨rfl, _⟩ | ⟨g, cap, cur, rfl, _, hg, hn, _⟩
  · simp [Builtin.append_, run_underlying Try.underlying62, sizeOf, typeInfo, hi, Builtin.lenOf, Builtin.firstCells]
  · simp [Builtin.append_, run_underlying Try.underlying62, sizeOf, typeInfo, hi, Builtin.lenOf, Builtin.firstCells, hn, storeCells]

theorem wp_append_cells {o : Oper} {a : Act} {w : World} {K : Act → World → Prop} {Q : Exit → Act → World → Prop} (s x : Operand)
    (ho : o.op = .call { callee := .builtin .append, args := #[s, x], argTypes := #[62, 62] })
    (base : Nat) (v : Value) (ys : List Cl) (hs : a.eval s = v) (hown : w.ownsRow base 76 3 v ys.length (cvs ys))
    (u : Value) (xs : List Cl) (hx : a.eval x = u) (hr : RdC w u xs) (hb : base ≤ w.heap.size) (hl : ys.length + xs.length < 10000000000)
    (h : ∀ v' w', w'.ownsRow base 76 3 v' (ys ++ xs).length (cvs (ys ++ xs)) → Chg (fun k => some k = v.ownBlock) w w' → K (a.put o.dst v') w') : o.wp Try.prog a w K Q := by
  obtain ⟨i, hi, hz0, hz1, hz2⟩ := info_parts Try.infoCell
  obtain ⟨ao, cap, hu⟩ := hr.form
  subst hu
  cases ao with
  | none =>
    have h0 : xs = [] := by
      rcases hr with ⟨h0, _⟩ | ⟨g, off, cap', he, _⟩
      · exact h0
      · simp at he
    subst h0
    have hrun := run_appendC_nil w o.type base ys.length cap v (cvs ys) hown
    rw [List.length_nil] at hx
    unfold Oper.wp execOp
    simp only [ho, resolve, invoke, builtin, Sem.run_bind, Sem.run_pure, Result.andThen_ok, List.map_toArray, List.map_cons, List.map_nil, hs, hx, hrun]
    exact h v w (by rw [List.append_nil]; exact hown) (Chg.refl _ _)
  | some ad =>
    refine wp_append_own w s x 62 ho base 76 i (.agg #[.int .u8 0, .int .i64 0, .int .i64 0]) 3 24 Try.underlying62 hi hz0 hz1 hz2 rfl (by decide) v ys.length (cvs ys) hs hown ad xs.length cap (cvs xs) hx (by rw [cvs_length]) (RdC.news hr) (cvs_one xs) (by unfold maxLen; omega) (by omega) hb fun v' w' h2 h3 _ => ?_
    exact h v' w' (by rw [List.length_append, cvs_append]; exact h2) (Chg.of_grown h3)

theorem wpList_append_cells {ops : Array Oper} {rest : List Oper} {o : Oper} {a : Act} {w : World} {Q : Exit → Act → World → Prop} (hgd : o.guard = none) (s x : Operand)
    (ho : o.op = .call { callee := .builtin .append, args := #[s, x], argTypes := #[62, 62] })
    (base : Nat) (v : Value) (ys : List Cl) (hs : a.eval s = v) (hown : w.ownsRow base 76 3 v ys.length (cvs ys))
    (u : Value) (xs : List Cl) (hx : a.eval x = u) (hr : RdC w u xs) (hb : base ≤ w.heap.size) (hl : ys.length + xs.length < 10000000000)
    (h : ∀ v' w', w'.ownsRow base 76 3 v' (ys ++ xs).length (cvs (ys ++ xs)) → Chg (fun k => some k = v.ownBlock) w w' → wpList Try.prog ops Q rest (a.put o.dst v') w') :
    wpList Try.prog ops Q (o :: rest) a w :=
  wpList_plain hgd fun _ hK => wp_append_cells s x ho base v ys hs hown u xs hx hr hb hl fun v' w' h2 h3 => hK _ _ (h v' w' h2 h3)

/-- The value v is a slice of the cells l, in memory from block base on, that may be written. -/
def OwnC (w : World) (base : Nat) (v : Value) (l : List Cl) : Prop :=
  ∃ g off cap, v = .slice (some ⟨g, off, none⟩) l.length cap ∧ base ≤ g ∧ g < w.heap.size ∧ (∀ j, j < l.length →
    w.cell? ⟨g, off + j * 3, none⟩ = some (.int .u8 ((l.getD j cl0).Sym : Int)) ∧ w.cell? ⟨g, off + j * 3 + 1, none⟩ = some (.int .i64 (l.getD j cl0).Bits) ∧ w.cell? ⟨g, off + j * 3 + 2, none⟩ = some (.int .i64 (l.getD j cl0).Base)) ∧ ∀ j, w.frozen? ⟨g, off + j, none⟩ = false
theorem OwnC.rd {w : World} {base : Nat} {v : Value} {l : List Cl} (h : OwnC w base v l) : RdC w v l := by
  obtain ⟨g, off, cap, rfl, _, _, hc, _⟩ := h
  exact .inr ⟨g, off, cap, rfl, hc⟩
theorem OwnC.kept {S : Nat → Prop} {w w' : World} {base : Nat} {v : Value} {l : List Cl} (h : OwnC w base v l) (hc : Chg S w w') (hS : ∀ k, v.ownBlock = some k → ¬ S k) : OwnC w' base v l := by
  obtain ⟨g, off, cap, rfl, hb, hl, hcell, hf⟩ := h
  have hblk := hc.block g hl (hS g rfl)
  refine ⟨g, off, cap, rfl, hb, Nat.lt_of_lt_of_le hl hc.size, fun j hj => ?_, fun j => ?_⟩
  · rw [World.cell?_of_block (w := w) (a := ⟨g, off + j * 3, none⟩) hblk, World.cell?_of_block (w := w) (a := ⟨g, off + j * 3 + 1, none⟩) hblk, World.cell?_of_block (w := w) (a := ⟨g, off + j * 3 + 2, none⟩) hblk]; exact hcell j hj
  · have := hf j
    unfold World.frozen? at this ⊢
    simp only [hblk]; exact this
theorem OwnC.of_own {w : World} {base : Nat} {v : Value} {l : List Cl} (h : w.ownsRow base 76 3 v l.length (cvs l)) (h0 : 0 < l.length) : OwnC w base v l := by
  rcases h.2 with ⟨rfl, h1⟩ | ⟨g, cap, cur, rfl, hb, hg, h3⟩
  · omega
  · refine ⟨g, 0, cap, rfl, hb, lt_of_block hg, fun j hj => ?_, fun j => frozen_of_row w g _ _ _ hg⟩
    have hh := cvs_get l j hj
    rw [Nat.zero_add, h.cellAt (j * 3) (by omega), h.cellAt (j * 3 + 1) (by omega), h.cellAt (j * 3 + 2) (by omega)]
    exact hh
theorem getD_setC (l : List Cl) (i j : Nat) (c : Cl) (hi : i < l.length) : (l.set i c).getD j cl0 = if i = j then c else l.getD j cl0 := by
  by_cases h : i = j
  · subst h; rw [if_pos rfl, getD_set_self hi]
  · rw [if_neg h, getD_set_other h]
theorem OwnC.storeBase {w : World} {base g off n cap : Nat} {l : List Cl} (h : OwnC w base (.slice (some ⟨g, off, none⟩) n cap) l) (i : Nat) (hi : i < l.length) (z : Int) :
    OwnC (w.setCell ⟨g, off + i * 3 + 2, none⟩ (.int .i64 z)) base (.slice (some ⟨g, off, none⟩) n cap) (l.set i ⟨(l.getD i cl0).Sym, (l.getD i cl0).Bits, z⟩) := by
  obtain ⟨g', off', cap', he, hb, hl, hcell, hf⟩ := h
  simp only [Value.slice.injEq, Option.some.injEq, Addr.mk.injEq] at he
  obtain ⟨⟨rfl, rfl, -⟩, rfl, rfl⟩ := he
  refine ⟨g, off, cap, by simp, hb, by simpa [World.setCell] using hl, fun j hj => ?_, fun j => ?_⟩
  · rw [List.length_set] at hj
    have hcj := hcell j hj
    rw [getD_setC _ _ _ _ hi, World.cell?_setCell_other _ _ _ _ (fun hh => by simp only [Addr.mk.injEq] at hh; omega), World.cell?_setCell_other _ _ _ _ (fun hh => by simp only [Addr.mk.injEq] at hh; omega)]
    by_cases hij : i = j
    · subst hij
      rw [if_pos rfl, World.cell?_setCell_same _ _ _ hcj.2.2]
      exact ⟨hcj.1, hcj.2.1, rfl⟩
    · rw [if_neg hij, World.cell?_setCell_other _ _ _ _ (fun hh => by simp only [Addr.mk.injEq] at hh; omega)]
      exact hcj
  · rw [World.frozen?_setCell]; exact hf j
theorem OwnC.storeBits {w : World} {base g off n cap : Nat} {l : List Cl} (h : OwnC w base (.slice (some ⟨g, off, none⟩) n cap) l) (i : Nat) (hi : i < l.length) (z : Int) :
    OwnC (w.setCell ⟨g, off + i * 3 + 1, none⟩ (.int .i64 z)) base (.slice (some ⟨g, off, none⟩) n cap) (l.set i ⟨(l.getD i cl0).Sym, z, (l.getD i cl0).Base⟩) := by
  obtain ⟨g', off', cap', he, hb, hl, hcell, hf⟩ := h
  simp only [Value.slice.injEq, Option.some.injEq, Addr.mk.injEq] at he
  obtain ⟨⟨rfl, rfl, -⟩, rfl, rfl⟩ := he
  refine ⟨g, off, cap, by simp, hb, by simpa [World.setCell] using hl, fun j hj => ?_, fun j => ?_⟩
  · rw [List.length_set] at hj
    have hcj := hcell j hj
    rw [getD_setC _ _ _ _ hi, World.cell?_setCell_other _ _ _ _ (fun hh => by simp only [Addr.mk.injEq] at hh; omega), World.cell?_setCell_other (a := ⟨g, off + i * 3 + 1, none⟩) (b := ⟨g, off + j * 3 + 2, none⟩) _ _ (fun hh => by simp only [Addr.mk.injEq] at hh; omega)]
    by_cases hij : i = j
    · subst hij
      rw [if_pos rfl, World.cell?_setCell_same _ _ _ hcj.2.1]
      exact ⟨hcj.1, rfl, hcj.2.2⟩
    · rw [if_neg hij, World.cell?_setCell_other _ _ _ _ (fun hh => by simp only [Addr.mk.injEq] at hh; omega)]
      exact hcj
  · rw [World.frozen?_setCell]; exact hf j

end Go.Proofs.Ytokeoebhmjefoaa

/- What dtab's Of, Step and Whole tell. THIS SPEAKS OF THE PROGRAM'S OWN TEXT. -/
namespace Go.Proofs.Ytokeoebhmjefoaa
open Go.RowKit

theorem cown_ne {w : World} {B b : Nat} {v : Value} {n : Nat} {xs : List Value} {cs : Array Value} {fr : Nat × Nat} (h : w.ownsRow B 76 3 v n xs) (hb : w.heap[b]? = some (.cells cs 103 fr)) : v.ownBlock ≠ some b := by
  intro he
  rcases h.2 with ⟨rfl, rfl⟩ | ⟨g, cap, cur, rfl, _, hg, _⟩
  · cases he
  · simp only [Value.ownBlock, Option.some.injEq] at he
    subst he
    rw [hb] at hg
    simp at hg

/-- append of one cell, in a region that draws -/
theorem step_append_cell {ops : Array Oper} {o : Oper} {a : Act} {W : World} {K : Act → World → Prop} {Q : Exit → Act → World → Prop} {E : Prop} (hgd : o.guard = none) (s x : Operand)
    (ho : o.op = .call { callee := .builtin .append, args := #[s, x], argTypes := #[62, 62] })
    (B : Nat) (v : Value) (l : List Cl) (y : Cl) (hs : a.eval s = v) (hown : W.ownsRow B 76 3 v l.length (cvs l)) (G : Nat) (hx : a.eval x = .slice (some ⟨G, 0, none⟩) 1 1)
    (hblk : W.heap[G]? = some (.cells (cv y).toArray 76 (0, 0))) (hl : l.length ≤ 100000) (hB : B ≤ W.heap.size)
    (n1 : Nat) (hn1 : n1 = l.length + 1) (h : ∀ g cap w', w'.ownsRow B 76 3 (.slice (some ⟨g, 0, none⟩) n1 cap) (l ++ [y]).length (cvs (l ++ [y])) → Chg (fun k => some k = v.ownBlock) W w' → K (a.put o.dst (.slice (some ⟨g, 0, none⟩) n1 cap)) w') :
    if Region.wanted o (yielded ops a.tmps) = true then Oper.wp Try.prog o a W K Q else E := by
  subst hn1
  obtain ⟨i, hi, hz0, hz1, hz2⟩ := info_parts Try.infoCell
  refine step_append_lies W hgd s x 62 ho B 76 i (.agg #[.int .u8 0, .int .i64 0, .int .i64 0]) 3 24 Try.underlying62 hi hz0 hz1 hz2 rfl (by decide) v l.length (cvs l) hs hown ⟨G, 0, none⟩ 1 1 (cv y) hx rfl (World.news_of_block hblk)
    (fun u hu => cvs_one [y] u (by simpa [cvs] using hu)) (by decide) (by unfold maxLen; omega) (by omega) hB _ rfl fun g cap w' h2 h3 _ _ => ?_
  exact h g cap w' (by rw [List.length_append, cvs_append, List.length_singleton]; simpa [cvs] using h2) (Chg.of_grown h3)

theorem count_take (xs : List Nat) (u : Nat) : ∀ p, p ≤ xs.length → countTo (fun a => decide (xs.getD a 0 = u)) p = (xs.take p).count u
  | 0, _ => by simp [countTo]
  | p + 1, h => by
    have ih := count_take xs u p (by omega)
    have ht : xs.take (p + 1) = xs.take p ++ [xs.getD p 0] := by
      rw [List.take_succ_eq_append_getElem (by omega), List.getD_eq_getElem?_getD, List.getElem?_eq_getElem (by omega)]; rfl
    rw [countTo, ih, ht, List.count_append]
    by_cases he : xs.getD p 0 = u
    · rw [he]; simp
    · simp only [decide_eq_true_eq, he, if_false]
      rw [List.count_singleton]
      simpa [List.getD_eq_getElem?_getD] using he

/-- the cells of the first p places -/
def OutD (f : Nat → Nat) (k p : Nat) (out : List Cl) : Prop := out.length = p ∧ ∀ a, a < p → ∃ s d, s < 256 ∧ d < f s ∧ placeF f 256 s (f s + d) = a ∧ out.getD a cl0 = cellOf k s (f s + d)
theorem OutD.step {f : Nat → Nat} {k p : Nat} {out : List Cl} (h : OutD f k p out) {s d : Nat} (hs : s < 256) (hd : d < f s) (hp : placeF f 256 s (f s + d) = p) : OutD f k (p + 1) (out ++ [cellOf k s (f s + d)]) := by
  refine ⟨by rw [List.length_append, h.1]; rfl, fun a ha => ?_⟩
  by_cases hap : a = p
  · subst hap
    refine ⟨s, d, hs, hd, hp, ?_⟩
    rw [List.getD_eq_getElem?_getD, List.getElem?_append_right (by rw [h.1]; exact Nat.le_refl _), h.1, Nat.sub_self]; rfl
  · obtain ⟨t, e, h1, h2, h3, h4⟩ := h.2 a (by omega)
    refine ⟨t, e, h1, h2, h3, ?_⟩
    rw [← h4, List.getD_eq_getElem?_getD, List.getElem?_append_left (by rw [h.1]; omega), ← List.getD_eq_getElem?_getD]
theorem OutD.all {f : Nat → Nat} {k : Nat} {out : List Cl} (hs : sumTo f 256 = 2 ^ k) (h : OutD f k (2 ^ k) out) : IsDtab f k out := by
  refine ⟨h.1, fun s d hs1 hd => ?_⟩
  have hr := place_room (f := f) (N := 256) hs1 hd
  rw [hs] at hr
  obtain ⟨t, e, h1, h2, h3, h4⟩ := h.2 _ hr
  obtain ⟨rfl, rfl⟩ := place_inj h1 hs1 h2 hd h3
  exact h4

theorem OwnC.mono {w : World} {base base' : Nat} {v : Value} {l : List Cl} (h : OwnC w base v l) (hb : base' ≤ base) : OwnC w base' v l := by
  obtain ⟨g, off, cap, rfl, h1, h2⟩ := h
  exact ⟨g, off, cap, rfl, Nat.le_trans hb h1, h2⟩
/-- Of tells its cells, in memory of their own -/
def DtabNew (w : World) (q : List Int) (e : Ending) (w' : World) : Prop :=
  ∃ v', e = .returned (.tuple #[v', .int .i64 (if logI (totalI q) = 0 then 1 else 0)]) ∧ (logI (totalI q) ≠ 0 → ∃ l, OwnC w' w.heap.size v' l ∧ IsDtab (fq q) (logI (totalI q)) l) ∧ (logI (totalI q) = 0 → RdC w' v' []) ∧ Chg (fun _ => False) w w'

set_option maxRecDepth 100000 in
set_option maxHeartbeats 1000000 in
theorem dof_new (v : Value) (q : List Int) (w : World) (h : RdI w v q) (hb : ∀ z ∈ q, -9223372036854775808 ≤ z ∧ z ≤ 9223372036854775807) (hl : q.length < 100000000000) :
    Calls Try.prog 31 #[v] w fun e w' => DtabNew w q e w' := by
  have hsp := sof_any v q w h hb hl
  unfold SpreadSays at hsp
  by_cases hk : logI (totalI q) = 0
  · obtain ⟨ao, cap, rfl⟩ := h.form
    have HSP := Lib.hid hsp; have HK := Lib.hid hk
    clear hb hl hk h hsp
    go_enter Try.func31, Try.ntmps31
    go_wp2_with fail
    refine HSP.out.mono ?_
    rintro e w1 ⟨v1, rfl, -, h2, hc⟩
    rw [if_pos HK.out]
    have HC := Lib.hid hc
    clear hc h2 HSP
    go_wp2
    go_ret2
    exact ⟨_, by rw [if_pos HK.out]; rfl, fun h => absurd HK.out h, fun _ => .inl ⟨rfl, none, 0, rfl⟩, HC.out⟩
  · have hq := normQ_of hk
    have hlog := fun W (hc : Chg (fun _ => False) w W) => slog_any v q W (h.kept hc (by simp)) hb hl
    obtain ⟨ao, cap, rfl⟩ := h.form
    obtain ⟨g, off, rfl, hcell⟩ := hq.cells h
    have HSP := Lib.hid hsp; have HK := Lib.hid hk; have HLOG := Lib.hid hlog; have HCELL := Lib.hid hcell
    obtain ⟨k, hke⟩ : ∃ k, logI (totalI q) = k := ⟨_, rfl⟩
    rw [hke] at hq HLOG HSP
    have hk12 : (k : Int) ≤ 12 := by have := hq.2.2.2.2; omega
    have hlenq : (q.length : Int) = 256 := by have := hq.1; omega
    have hsum := hq.sum
    have HQ := Lib.hid (show sumTo (fq q) 256 = 2 ^ k ∧ (∀ s, fq q s ≤ 4096) ∧ k ≤ 12 ∧ 2 ^ k ≤ 4096 ∧ 1 ≤ k from ⟨hsum, hq.le, hq.2.2.2.2, hq.size, hq.2.2.2.1⟩)
    obtain ⟨n, hn⟩ : ∃ n, q.length = n := ⟨_, rfl⟩
    rw [hn] at HSP HLOG hlenq ⊢
    obtain ⟨f, hf⟩ : ∃ f, fq q = f := ⟨_, rfl⟩
    rw [hf] at HSP HCELL HQ
    have HF := Lib.hid hf; have HKE := Lib.hid hke
    obtain ⟨L, hL⟩ : ∃ L, 2 ^ k = L := ⟨_, rfl⟩
    have HL := Lib.hid hL
    have hL4 : (L : Int) ≤ 4096 := by have := HQ.out.2.2.2.1; omega
    have hkk : ¬ k = 0 := by have := HQ.out.2.2.2.2; omega
    obtain ⟨Z, hZ, hzero⟩ := zeroCounts
    have HZ := Lib.hid hZ
    clear hb hl hk h hsp hlog hcell hq hsum hn hf hke hL hZ
    go_enter Try.func31, Try.ntmps31
    go_wp2_with fail
    refine HSP.out.mono ?_
    rintro e w1 ⟨v1, rfl, h1, -, hc1⟩
    obtain ⟨sl, hos, hsp⟩ := h1 hkk
    rw [if_neg hkk]
    obtain ⟨asl, psl, rfl⟩ := hos.rd.form
    have hsl : sl.length = L := by rw [hsp.len, HQ.out.1, HL.out]
    have HOS := Lib.hid hos.rd; have HSPR := Lib.hid hsp; have HC1 := Lib.hid hc1; have HSL := Lib.hid hsl
    rw [hsl] at HOS ⊢
    clear HSP hos hsp hc1 hsl hkk h1
    go_wp2_with fail
    refine (HLOG.out w1 HC1.out).mono ?_
    rintro e w2 ⟨rfl, hc2⟩
    have HC2 := Lib.hid (HC1.out.trans hc2 fun _ _ h => h)
    have HOS2 := Lib.hid (HOS.out.kept hc2 (by simp))
    clear HOS HLOG hc2
    obtain ⟨i, hi, hz0, hz1, hz2⟩ := info_parts Try.infoCell
    go_wp2_with (at_make; refine wpList_make_own w2 rfl _ _ 62 rfl w2.heap.size 76 i (.agg #[.int .u8 0, .int .i64 0, .int .i64 0]) 3 Try.underlying62 hi hz0 hz1 .i64 .i64 (L : Int) L rfl rfl rfl (by rw [hz2]; omega) (by unfold maxLen; omega) (Nat.le_refl _) ?_)
    intro w3 ho hg3
    have hc3 : Chg (fun _ => False) w2 w3 := (Chg.of_grown hg3).mono fun k _ hk => by simp at hk
    have hm4 : RowI (w3.alloc (.cells Z.toArray 103)) w3.heap.size 103 (cnt (sl.take 0)) := by
      rw [List.take_zero, cnt_nil]; unfold RowI; rw [← HZ.out]; exact heap_alloc_new w3 _
    have hc4 := Chg.alloc (fun _ => False) w3 (.cells Z.toArray 103)
    have ho4 := ho.alloc (.cells Z.toArray 103)
    obtain ⟨W4, hW4⟩ : ∃ W4, w3.alloc (.cells Z.toArray 103) = W4 := ⟨_, rfl⟩
    rw [hW4] at hm4 hc4 ho4
    have hlt4 := hm4.lt
    have hge4 := hc3.size
    obtain ⟨GM, hGM⟩ : ∃ GM, w3.heap.size = GM := ⟨_, rfl⟩
    rw [hGM] at hm4 hlt4 hge4
    obtain ⟨G0, hG0⟩ : ∃ G0, w2.heap.size = G0 := ⟨_, rfl⟩
    rw [hG0] at ho4 hge4 ⊢
    have ST := Lib.hid (show RowI W4 GM 103 (cnt (sl.take 0)) ∧ Chg (fun _ => False) w2 W4 ∧ W4.ownsRow G0 76 3 (.slice (some ⟨G0, 0, none⟩) 0 L) 0 [] from ⟨hm4, hc3.trans hc4 fun _ _ h => h, ho4⟩)
    have HG := Lib.hid (show w2.heap.size = G0 ∧ G0 ≤ GM from ⟨hG0, hge4⟩)
    have hsx : ∀ x ∈ sl, x < 256 := fun x hx => by
      obtain ⟨p, hp, rfl⟩ := List.getElem_of_mem hx
      have := HSPR.out.is (p := p) (s := sl.getD p 0) hp rfl
      rw [List.getD_eq_getElem?_getD, List.getElem?_eq_getElem hp] at this
      exact this.1
    have HSX := Lib.hid hsx
    clear hm4 hc4 ho4 hc3 ho hg3 hlt4 hge4 hG0 hsx
    go_wp2
    clear hGM hW4
    go_loopw [7, 26] (fun o7 o26 wr => ∃ (p : Nat) (out : List Cl), p ≤ L ∧ o26 = .int .i64 (p : Int) ∧ wr.ownsRow G0 76 3 o7 p (cvs out) ∧ OutD f k p out ∧ RowI wr GM 103 (cnt (sl.take p)) ∧ (∃ gg cc, o7 = .slice (some ⟨gg, 0, none⟩) p cc) ∧ Chg (fun _ => False) w2 wr) (fun _ o26 _ => L - (intOf o26).toNat)
    case atStart => exact ⟨0, [], Nat.zero_le _, rfl, ST.out.2.2, ⟨rfl, fun a ha => by omega⟩, ST.out.1, ⟨G0, L, rfl⟩, ST.out.2.1⟩
    case round =>
      obtain ⟨p, out, hp, rfl, hown, hout, hmet, ⟨gg, cc, rfl⟩, hc⟩ := hrel
      clear ST
      by_cases hlt : p < L
      · have hltI : (p : Int) < (L : Int) := by omega
        obtain ⟨gs, offs, rfl, hscell⟩ := (HOS2.out.kept hc (by simp)).at p (by rw [HSL.out]; exact hlt)
        have hsp := HSPR.out.is (p := p) (s := sl.getD p 0) (by rw [HSL.out]; exact hlt) rfl
        have hts := cnt_take_succ sl p (by rw [HSL.out]; exact hlt) hsp.1
        have hgd := cnt_getD (sl.take p) (sl.getD p 0) hsp.1
        obtain ⟨s, hse⟩ : ∃ s, sl.getD p 0 = s := ⟨_, rfl⟩
        rw [hse] at hscell hsp hts hgd
        obtain ⟨hs, d, hd, hpl⟩ := hsp
        have hnth := HSPR.out.nth hs hd
        rw [hpl, count_take sl s p (by rw [HSL.out]; exact hp)] at hnth
        rw [hnth] at hgd
        have hF4 := HQ.out.2.1 s
        have hqc := fun W (hcw : Chg (fun _ => False) w2 W) => HCELL.out W (HC2.out.trans hcw fun _ _ h => h) s hs
        have hsle := f_le (f := f) (R := k) HQ.out.1 hs
        have hcl := fun W => dcell_any s (f s + d) k W (by omega) (by rw [Nat.pow_succ]; omega) HQ.out.2.2.1
        have hout2 := hout.step hs hd hpl
        obtain ⟨F, hF⟩ : ∃ F, f s = F := ⟨_, rfl⟩
        rw [hF] at hqc hcl hout2 hd hF4
        obtain ⟨J, hJ⟩ : ∃ J, F + d = J := ⟨_, rfl⟩
        have hJI : (F : Int) + (d : Int) = (J : Int) := by omega
        rw [hJ] at hcl hout2
        obtain ⟨y, hy⟩ : ∃ y, cellOf k s J = y := ⟨_, rfl⟩
        rw [hy] at hcl hout2
        have hmc := hmet.cell s (by rw [cnt_length]; exact hs)
        rw [hgd] at hmc
        have hmf := hmet.free s
        have hm2 := hmet.set s ((d : Int) + 1)
        rw [hgd] at hts
        rw [← hts] at hm2
        have hqw := hqc wr hc
        have hwJ : IntKind.i64.wrap (J : Int) = (J : Int) := by rw [IntKind.wrap_i64]; omega
        have hsn : (s : Int) < (n : Int) := by omega
        have hsI : (s : Int) < 256 := by omega
        have hdI : (d : Int) ≤ 4096 := by omega
        have hFI : (F : Int) ≤ 4096 := by omega
        obtain ⟨S, I, Ba⟩ := y
        simp only [] at hcl
        have HCL := Lib.hid hcl; have HOWN := Lib.hid hown; have HMET := Lib.hid hmet; have HC := Lib.hid hc; have HQC := Lib.hid hqc; have HO2 := Lib.hid hout2; have HM2 := Lib.hid hm2; have HS := Lib.hid hs; have HOL := Lib.hid hout.1; have HGD := Lib.hid hgd; have HTS := Lib.hid hts
        obtain ⟨p1, hp1⟩ : ∃ p1, p1 = out.length + 1 := ⟨_, rfl⟩
        have HP1 := Lib.hid hp1
        have hp1I : (p : Int) + 1 = (p1 : Int) := by rw [hp1, hout.1]; omega
        clear hcl hown hmet hc hqc hout2 hm2 hs hout hgd hts hnth hd hpl hse hF hJ hy hp hF4 hsle hp1
        go_wp2
        go_region_held3 (fun W => W.cell? ⟨g, off + s, none⟩ = some (.int .i64 (F : Int)) ∧ W.cell? ⟨GM, s, none⟩ = some (.int .i64 (d : Int))) (first | exact ⟨hqw, hmc⟩ | exact ⟨z0, z1⟩ | exact ⟨z4 _, z5 _⟩ | exact ⟨z2, z3⟩) (first
          | (go_at_call 57; refine (HCL.out _).mono ?_; rintro e w5 ⟨rfl, hc5⟩; have hc6 := (Chg.refl (fun _ => False) wr).drew.trans hc5 fun _ _ h => h; have hm5 := HMET.out.kept hc6 (fun h => h); have z0 := HQC.out w5 (HC.out.trans hc6 fun _ _ h => h); have z1 := hm5.cell s (by rw [cnt_length]; exact HS.out); rw [HGD.out] at z1; have z4 := fun ob => HQC.out (w5.alloc ob) ((HC.out.trans hc6 fun _ _ h => h).trans (Chg.alloc (fun _ => False) w5 ob) fun _ _ h => h); have z5 := fun ob => (hm5.kept (Chg.alloc (fun _ => False) w5 ob) (fun h => h)).cell s (by rw [cnt_length]; exact HS.out); rw [HGD.out] at z5; have HO5 := Lib.hid (hc6.own HOWN.out (fun _ _ h => h)); have HM5 := Lib.hid hm5; have HC5 := Lib.hid (HC.out.trans hc6 fun _ _ h => h); clear hc5 hc6 hm5)
          | (refine step_append_cell rfl (.tmp 30) (.tmp 42) rfl G0 (.slice (some ⟨gg, 0, none⟩) p cc) out ⟨S, I, Ba⟩ rfl (by rw [HOL.out]; exact HO5.out.alloc _) w5.heap.size rfl (heap_alloc_new w5 _) (by rw [HOL.out]; omega) (by have h1 := HC5.out.size; have h2 := HG.out.1; have h3 := (Chg.alloc (fun _ => False) w5 (.cells #[.int .u8 (S : Int), .int .i64 I, .int .i64 Ba] 76)).size; omega) p1 HP1.out ?_; intro g8 c8 w8 ho8 hc8; have hn8 : gg ≠ GM := (fun he => cown_ne HO5.out HM5.out (by rw [he]; rfl)); have hge := (HO5.out.lt gg rfl).1; have hm8 := (HM5.out.kept (Chg.alloc (fun _ => False) w5 _) (fun h => h)).kept hc8 (fun he => by simp only [Value.ownBlock, Option.some.injEq] at he; omega); have hc9 := ((HC5.out.trans (Chg.alloc (fun _ => False) w5 _) fun _ _ h => h).trans hc8 fun q hq he => by simp only [Value.ownBlock, Option.some.injEq] at he; have h2 := HG.out.1; omega); have z2 := HQC.out w8 hc9; have z3 := hm8.cell s (by rw [cnt_length]; exact HS.out); rw [HGD.out] at z3; have HO8 := Lib.hid ho8; have HM8 := Lib.hid hm8; have HC9 := Lib.hid hc9; clear ho8 hc8 hm8 hc9 hge hn8))
        have hmf8 := HM8.out.free s
        have hm9 := HM8.out.set s ((d : Int) + 1)
        rw [← HTS.out] at hm9
        have hc10 := HC9.out.trans (Chg.setCell w8 ⟨GM, s, none⟩ (.int .i64 ((d : Int) + 1))) fun q hq he => by simp only [] at he; have h2 := HG.out; omega
        have ho10 := (Chg.setCell w8 ⟨GM, s, none⟩ (.int .i64 ((d : Int) + 1))).own HO8.out (fun k hk he => by
          have := cown_ne HO8.out HM8.out
          simp only [] at he
          rw [he] at hk
          exact this hk)
        have HM9 := Lib.hid hm9; have HC10 := Lib.hid hc10; have HO10 := Lib.hid ho10
        clear hm9 hc10 ho10
        go_wp2
        go_roundw
        case rel =>
          refine ⟨p + 1, out ++ [⟨S, I, Ba⟩], by omega, by go_num, ?_, HO2.out, HM9.out, ⟨g8, c8, by rw [HP1.out, HOL.out]⟩, HC10.out⟩
          have h9 := HO10.out
          rw [List.length_append, HOL.out] at h9
          exact h9
        case measure => simp [intOf]; omega
      · obtain rfl : p = L := by omega
        have hdt : IsDtab f k out := OutD.all HQ.out.1 (by rw [HL.out]; exact hout)
        have hL0 : 0 < p := by rw [← HL.out]; exact Nat.two_pow_pos k
        have how : OwnC wr w.heap.size (.slice (some ⟨gg, 0, none⟩) p cc) out := by
          have h9 := hown
          rw [← hout.1] at h9
          have h10 := OwnC.of_own h9 (by rw [hout.1]; exact hL0)
          rw [hout.1] at h10
          exact h10.mono (by have := HC2.out.size; have := HG.out.1; omega)
        have HD := Lib.hid hdt; have HW := Lib.hid how; have HC9 := Lib.hid (HC2.out.trans hc fun _ _ h => h)
        have hltp : ¬ p < p := by omega
        clear hdt how hown hout hmet hc hlt
        go_wp2
        go_ret2
        exact ⟨_, by rw [if_neg HK.out]; rfl, fun _ => ⟨out, HW.out, by rw [HKE.out, HF.out]; exact HD.out⟩, fun h => absurd h HK.out, HC9.out⟩

theorem dof_any (v : Value) (q : List Int) (w : World) (h : RdI w v q) (hb : ∀ z ∈ q, -9223372036854775808 ≤ z ∧ z ≤ 9223372036854775807) (hl : q.length < 100000000000) :
    Calls Try.prog 31 #[v] w fun e w' => DtabSays w q e w' :=
  (dof_new v q w h hb hl).mono fun e w' ⟨v', h1, h2, h3, h4⟩ => ⟨v', h1, fun hk => by
    obtain ⟨l, ho, hd⟩ := h2 hk
    exact ⟨l, ho.rd, hd⟩, h3, h4⟩

end Go.Proofs.Ytokeoebhmjefoaa

/- What is built of a model's lists, of each when it is asked for, in memory: a model, a function, 256 values, 256 marks. -/
namespace Go.Proofs.Ytokeoebhmjefoaa
open Go.RowKit

/-- the cells of the structure: the model, what builds, what was built, what was asked -/
def lsRow (fn : Nat) (m : Md) (cv : Value) (vs qs : List Value) : Array Value := (.int .i64 m.log :: .bool m.one :: cv :: .func (.func fn) #[] #[] :: (vs ++ qs)).toArray
theorem lsRow_v {fn : Nat} {m : Md} {cv : Value} {vs qs : List Value} (hv : vs.length = 256) (c : Nat) (hc : c < 256) : (lsRow fn m cv vs qs)[4 + c]? = some (vs.getD c undef) := by
  unfold lsRow
  rw [List.getElem?_toArray, show 4 + c = c + 1 + 1 + 1 + 1 by omega, List.getElem?_cons_succ, List.getElem?_cons_succ, List.getElem?_cons_succ, List.getElem?_cons_succ, List.getElem?_append_left (by omega), List.getD_eq_getElem?_getD, List.getElem?_eq_getElem (by omega)]; rfl
theorem lsRow_q {fn : Nat} {m : Md} {cv : Value} {vs qs : List Value} (hv : vs.length = 256) (hq : qs.length = 256) (c : Nat) (hc : c < 256) : (lsRow fn m cv vs qs)[260 + c]? = some (qs.getD c undef) := by
  unfold lsRow
  rw [List.getElem?_toArray, show 260 + c = c + 256 + 1 + 1 + 1 + 1 by omega, List.getElem?_cons_succ, List.getElem?_cons_succ, List.getElem?_cons_succ, List.getElem?_cons_succ, List.getElem?_append_right (by omega), hv, Nat.add_sub_cancel, List.getD_eq_getElem?_getD, List.getElem?_eq_getElem (by omega)]; rfl
theorem lsRow_set_v {fn : Nat} {m : Md} {cv : Value} {vs qs : List Value} (hv : vs.length = 256) (c : Nat) (hc : c < 256) (u : Value) : (lsRow fn m cv vs qs).setIfInBounds (4 + c) u = lsRow fn m cv (vs.set c u) qs := by
  unfold lsRow
  rw [List.setIfInBounds_toArray, show 4 + c = c + 1 + 1 + 1 + 1 by omega, List.set_cons_succ, List.set_cons_succ, List.set_cons_succ, List.set_cons_succ, List.set_append_left _ _ (by omega)]
theorem lsRow_set_q {fn : Nat} {m : Md} {cv : Value} {vs qs : List Value} (hv : vs.length = 256) (c : Nat) (u : Value) : (lsRow fn m cv vs qs).setIfInBounds (260 + c) u = lsRow fn m cv vs (qs.set c u) := by
  unfold lsRow
  rw [List.setIfInBounds_toArray, show 260 + c = c + 256 + 1 + 1 + 1 + 1 by omega, List.set_cons_succ, List.set_cons_succ, List.set_cons_succ, List.set_cons_succ, List.set_append_right _ _ (by omega), hv, Nat.add_sub_cancel]

/-- the structure's block -/
def Lsb (w : World) (G : Nat) (t : TypeId) (fn : Nat) (m : Md) (cv : Value) (vs qs : List Value) : Prop := w.heap[G]? = some (.cells (lsRow fn m cv vs qs) t (0, 0)) ∧ vs.length = 256 ∧ qs.length = 256
theorem Lsb.head {w : World} {G : Nat} {t : TypeId} {fn : Nat} {m : Md} {cv : Value} {vs qs : List Value} (h : Lsb w G t fn m cv vs qs) : w.cell? ⟨G, 1, none⟩ = some (.bool m.one) ∧ w.cell? ⟨G, 2, none⟩ = some cv ∧ w.cell? ⟨G, 3, none⟩ = some (.func (.func fn) #[] #[]) := by
  refine ⟨?_, ?_, ?_⟩
  · rw [cell_of_row w G 1 _ _ _ h.1]; rfl
  · rw [cell_of_row w G 2 _ _ _ h.1]; rfl
  · rw [cell_of_row w G 3 _ _ _ h.1]; rfl
theorem Lsb.v {w : World} {G : Nat} {t : TypeId} {fn : Nat} {m : Md} {cv : Value} {vs qs : List Value} (h : Lsb w G t fn m cv vs qs) (c : Nat) (hc : c < 256) : w.cell? ⟨G, 4 + c, none⟩ = some (vs.getD c undef) ∧ w.frozen? ⟨G, 4 + c, none⟩ = false :=
  ⟨by rw [cell_of_row w G _ _ _ _ h.1]; exact lsRow_v h.2.1 c hc, frozen_of_row w G _ _ _ h.1⟩
theorem Lsb.q {w : World} {G : Nat} {t : TypeId} {fn : Nat} {m : Md} {cv : Value} {vs qs : List Value} (h : Lsb w G t fn m cv vs qs) (c : Nat) (hc : c < 256) : w.cell? ⟨G, 260 + c, none⟩ = some (qs.getD c undef) ∧ w.frozen? ⟨G, 260 + c, none⟩ = false :=
  ⟨by rw [cell_of_row w G _ _ _ _ h.1]; exact lsRow_q h.2.1 h.2.2 c hc, frozen_of_row w G _ _ _ h.1⟩
theorem Lsb.kept {S : Nat → Prop} {w w' : World} {G : Nat} {t : TypeId} {fn : Nat} {m : Md} {cv : Value} {vs qs : List Value} (h : Lsb w G t fn m cv vs qs) (hc : Chg S w w') (hS : ¬ S G) : Lsb w' G t fn m cv vs qs := ⟨(hc.block G (lt_of_block h.1) hS).trans h.1, h.2⟩
theorem Lsb.set_v {w : World} {G : Nat} {t : TypeId} {fn : Nat} {m : Md} {cv : Value} {vs qs : List Value} (h : Lsb w G t fn m cv vs qs) (c : Nat) (hc : c < 256) (u : Value) : Lsb (w.setCell ⟨G, 4 + c, none⟩ u) G t fn m cv (vs.set c u) qs :=
  ⟨by rw [heap_setCell_same w G _ _ _ u h.1, lsRow_set_v h.2.1 c hc], by rw [List.length_set]; exact h.2.1, h.2.2⟩
theorem Lsb.set_q {w : World} {G : Nat} {t : TypeId} {fn : Nat} {m : Md} {cv : Value} {vs qs : List Value} (h : Lsb w G t fn m cv vs qs) (c : Nat) (u : Value) : Lsb (w.setCell ⟨G, 260 + c, none⟩ u) G t fn m cv vs (qs.set c u) :=
  ⟨by rw [heap_setCell_same w G _ _ _ u h.1, lsRow_set_q h.2.1 c], h.2.1, by rw [List.length_set]; exact h.2.2⟩
theorem lsv_self {vs : List Value} (c : Nat) (u : Value) (hc : c < vs.length) : (vs.set c u).getD c undef = u := by
  rw [List.getD_eq_getElem?_getD, List.getElem?_set_self hc]; rfl
theorem lsv_other {vs : List Value} (c d : Nat) (u : Value) (hd : d ≠ c) : (vs.set c u).getD d undef = vs.getD d undef := by
  rw [List.getD_eq_getElem?_getD, List.getElem?_set_ne (Ne.symm hd), ← List.getD_eq_getElem?_getD]

/-- what is said of a value that was built stays, as long as its own blocks do -/
def AtKept (At : (Nat → Prop) → World → Value → Nat → Prop) : Prop := ∀ (S T : Nat → Prop) (w w' : World) (v : Value) (c : Nat), At S w v c → Chg T w w' → (∀ k, S k → ¬ T k) → At S w' v c
/-- a context's value: not asked for; or built, in blocks that are none of X -/
def LsAt (At : (Nat → Prop) → World → Value → Nat → Prop) (G : Nat) (W : World) (X : Nat → Prop) (vs qs : List Value) (c : Nat) : Prop :=
  qs.getD c undef = .bool false ∨ (qs.getD c undef = .bool true ∧ ∃ S, At S W (vs.getD c undef) c ∧ ∀ k, S k → k < W.heap.size ∧ ¬ X k ∧ k ≠ G)
/-- the structure at block G, since the world w; blocks of X are others', and may turn -/
structure LsJ (t : TypeId) (fn : Nat) (At : (Nat → Prop) → World → Value → Nat → Prop) (w : World) (G : Nat) (m : Md) (cv : Value) (W : World) (X : Nat → Prop) : Prop where
  low : w.heap.size ≤ G
  chg : Chg (fun _ => False) w W
  lt : ∀ k, X k → w.heap.size ≤ k ∧ k < W.heap.size ∧ k ≠ G
  row : ∃ vs qs : List Value, Lsb W G t fn m cv vs qs ∧ ∀ c, c < 256 → LsAt At G W X vs qs c
theorem LsJ.inn {t : TypeId} {fn : Nat} {At : (Nat → Prop) → World → Value → Nat → Prop} {w : World} {G : Nat} {m : Md} {cv : Value} {W : World} {X : Nat → Prop} (h : LsJ t fn At w G m cv W X) : G < W.heap.size := by
  obtain ⟨vs, qs, h1, _⟩ := h.row
  exact lt_of_block h1.1
theorem LsJ.kept {t : TypeId} {fn : Nat} {At : (Nat → Prop) → World → Value → Nat → Prop} (hAt : AtKept At) {w : World} {G : Nat} {m : Md} {cv : Value} {W W' : World} {X X' : Nat → Prop} (h : LsJ t fn At w G m cv W X) (hc : Chg X W W') (hX : ∀ k, X' k → k < W'.heap.size ∧ (X k ∨ W.heap.size ≤ k)) : LsJ t fn At w G m cv W' X' := by
  have hG := h.inn
  have hlo := h.low
  refine ⟨h.low, h.chg.trans hc fun k hk hx => absurd (h.lt k hx).1 (by omega), fun k hk => ?_, ?_⟩
  · obtain ⟨h1, h2 | h2⟩ := hX k hk
    · exact ⟨(h.lt k h2).1, h1, (h.lt k h2).2.2⟩
    · exact ⟨by omega, h1, by omega⟩
  · obtain ⟨vs, qs, h1, h2⟩ := h.row
    refine ⟨vs, qs, h1.kept hc fun hx => (h.lt G hx).2.2 rfl, fun c hc' => ?_⟩
    rcases h2 c hc' with h4 | ⟨e1, S, e2, e3⟩
    · exact .inl h4
    · refine .inr ⟨e1, S, hAt S X W W' _ c e2 hc fun k hk => (e3 k hk).2.1, fun k hk => ⟨Nat.lt_of_lt_of_le (e3 k hk).1 hc.size, fun hx => ?_, (e3 k hk).2.2⟩⟩
      obtain ⟨-, h5 | h5⟩ := hX k hx
      · exact (e3 k hk).2.1 h5
      · have := (e3 k hk).1; omega
theorem LsJ.still {t : TypeId} {fn : Nat} {At : (Nat → Prop) → World → Value → Nat → Prop} (hAt : AtKept At) {w : World} {G : Nat} {m : Md} {cv : Value} {W W' : World} {X : Nat → Prop} (h : LsJ t fn At w G m cv W X) (hc : Chg (fun _ => False) W W') : LsJ t fn At w G m cv W' X :=
  h.kept hAt (hc.mono fun _ _ h => h.elim) fun k hk => ⟨Nat.lt_of_lt_of_le (h.lt k hk).2.1 hc.size, .inl hk⟩
/-- one more is built, in memory that is new -/
theorem LsJ.fill {t : TypeId} {fn : Nat} {At : (Nat → Prop) → World → Value → Nat → Prop} (hAt : AtKept At) {w : World} {G : Nat} {m : Md} {cv : Value} {W V : World} {X : Nat → Prop} (h : LsJ t fn At w G m cv W X) {vs qs : List Value} (hall : ∀ c, c < 256 → LsAt At G W X vs qs c) (hv : vs.length = 256) (hq : qs.length = 256) (hc : Chg (fun k => k = G) W V) (j : Nat) (hj : j < 256) {u : Value}
    (hrow : Lsb V G t fn m cv (vs.set j u) (qs.set j (.bool true))) {S : Nat → Prop} (hu : At S V u j) (hS : ∀ k, S k → W.heap.size ≤ k ∧ k < V.heap.size) : LsJ t fn At w G m cv V X := by
  have hG := h.inn
  have hlo := h.low
  refine ⟨h.low, h.chg.trans hc fun k hk hx => by omega, fun k hk => ⟨(h.lt k hk).1, Nat.lt_of_lt_of_le (h.lt k hk).2.1 hc.size, (h.lt k hk).2.2⟩, _, _, hrow, fun c hc' => ?_⟩
  by_cases hcj : c = j
  · subst hcj
    refine .inr ⟨lsv_self c _ (by omega), S, by rw [lsv_self c _ (by omega)]; exact hu, fun k hk => ⟨(hS k hk).2, fun hx => ?_, ?_⟩⟩
    · have := (h.lt k hx).2.1; have := (hS k hk).1; omega
    · have := (hS k hk).1; omega
  · unfold LsAt
    rw [lsv_other j c _ hcj, lsv_other j c _ hcj]
    rcases hall c hc' with h4 | ⟨e1, S', e2, e3⟩
    · exact .inl h4
    · exact .inr ⟨e1, S', hAt S' _ W V _ c e2 hc fun k hk => (e3 k hk).2.2, fun k hk => ⟨Nat.lt_of_lt_of_le (e3 k hk).1 hc.size, (e3 k hk).2⟩⟩

/-- a context's Table -/
def AtT (m : Md) (S : Nat → Prop) (W : World) (v : Value) (c : Nat) : Prop := ∃ a lo hi, v = .pointer (some a) ∧ EtIn lo hi W a (m.atL (c : Int)) ∧ ∀ k, lo ≤ k → k < hi → S k
theorem AtT.kept (m : Md) : AtKept (AtT m) := by
  rintro S T w w' v c ⟨a, lo, hi, h1, h2, h3⟩ hc hST
  exact ⟨a, lo, hi, h1, h2.kept hc fun k k1 k2 => hST k (h3 k k1 k2), h3⟩
/-- a context's cells, or none -/
def CelsOf (m : Md) (c : Nat) (l : List Cl) : Prop := (m.atL (c : Int) = [] → l = []) ∧ (m.atL (c : Int) ≠ [] → IsDtab (fM m c) (RM m) l)
def AtC (m : Md) (S : Nat → Prop) (W : World) (v : Value) (c : Nat) : Prop := ∃ l, CelsOf m c l ∧ RdC W v l ∧ (l = [] ∨ ∀ k, v.ownBlock = some k → S k)
theorem AtC.kept (m : Md) : AtKept (AtC m) := by
  rintro S T w w' v c ⟨l, h1, h2, h3⟩ hc hST
  refine ⟨l, h1, ?_, h3⟩
  rcases h3 with rfl | h3
  · obtain ⟨ao, cap, rfl⟩ := h2.form
    exact .inl ⟨rfl, ao, cap, rfl⟩
  · exact h2.kept hc fun k hk => hST k (h3 k hk)

/-- which list a context has -/
def lsAt (m : Md) (c : Nat) : Nat := if m.one then 0 else c
theorem lsAt_list {m : Md} (hr : m.right) {c : Nat} (hc : c < 256) : lsAt m c < 256 ∧ lsAt m c < m.cs.length ∧ m.cs.getD (lsAt m c) [] = m.atL (c : Int) ∧ m.atL ((lsAt m c : Nat) : Int) = m.atL (c : Int) := by
  have h2 := hr.2.1
  unfold lsAt Md.atL
  cases ho : m.one with
  | true =>
    rw [ho] at h2
    simp only [if_true] at h2 ⊢
    rw [if_pos ⟨hr, by omega, by omega⟩, if_pos ⟨hr, by omega, by omega⟩]
    exact ⟨by omega, by omega, rfl, rfl⟩
  | false =>
    rw [ho] at h2
    simp only [Bool.false_eq_true, if_false] at h2 ⊢
    rw [if_pos ⟨hr, by omega, by omega⟩, Int.toNat_natCast]
    exact ⟨hc, by omega, rfl, trivial⟩
theorem fM_lsAt {m : Md} (hr : m.right) {c : Nat} (hc : c < 256) : fM m (lsAt m c) = fM m c := by
  funext s
  unfold fM
  rw [(lsAt_list hr hc).2.2.2]

end Go.Proofs.Ytokeoebhmjefoaa

/- What the structure's of tells, whose lists' Tables are built: a context's Table, built when it is first asked for. THIS SPEAKS OF THE PROGRAM'S OWN TEXT. -/
namespace Go.Proofs.Ytokeoebhmjefoaa
open Go.RowKit

theorem Try.entersEt (args : Array Value) (w : World) : (callFunc 42 args).run Try.prog w = .ok (.enter 42 args) w := by kernel_rfl
abbrev LsT (w : World) (G : Nat) (m : Md) (cv : Value) (W : World) (X : Nat → Prop) : Prop := LsJ 83 42 (AtT m) w G m cv W X

set_option maxRecDepth 100000 in
set_option maxHeartbeats 4000000 in
theorem lofT_each (w : World) (G : Nat) (m : Md) (cv : Value) (W : World) (X : Nat → Prop) (c : Nat) (h : LsT w G m cv W X) (hl : RdLL w cv m.cs) (hr : m.right) (hone : m.one = false) (hc : c < 256) (hne : m.atL (c : Int) ≠ []) :
    Calls Try.prog 45 #[.pointer (some ⟨G, 0, none⟩), .int .i64 (c : Int)] W fun e W' => ∃ a, e = .returned (.pointer (some a)) ∧ EtOk W' a (m.atL (c : Int)) ∧ LsT w G m cv W' X ∧ Chg (fun k => k = G) W W' := by
  obtain ⟨vs, qs, hb, hall⟩ := h.row
  obtain ⟨hj1, hj2, hj3, hj4⟩ := lsAt_list hr hc
  have hjc : lsAt m c = c := by unfold lsAt; rw [hone]; rfl
  rw [hjc] at hj1 hj2 hj3 hj4
  obtain ⟨b1, b2, b3⟩ := hb.head
  obtain ⟨v1, v2⟩ := hb.v c hj1
  obtain ⟨q1, q2⟩ := hb.q c hj1
  have hent := Try.entersEt
  have hcI : (c : Int) < 256 := by omega
  have hc0 : (0 : Int) ≤ (c : Int) := by omega
  rw [hone] at b1
  have H := Lib.hid h; have HB := Lib.hid hb; have HALL := Lib.hid hall; have HJ4 := Lib.hid hj4; have HR := Lib.hid hr
  rcases hall c hj1 with hq | ⟨hq, S, ⟨a, lo, hi, hv, het, hS⟩, hX⟩
  · have hnq := norm_at hr _ hne
    have hlog : logI (totalI (m.atL (c : Int))) ≠ 0 := by rw [hnq.log]; have := hnq.2.2.2.1; omega
    have HLOG := Lib.hid hlog
    clear hnq hlog
    rw [hq] at q1
    obtain ⟨ao, cap, rfl⟩ := hl.form
    obtain ⟨g, off, u, rfl, hcell, hu⟩ := hl.room c hj2
    rw [hj3] at hu
    obtain ⟨W1, hW1⟩ : ∃ V, W.setCell ⟨G, 260 + c, none⟩ (.bool true) = V := ⟨_, rfl⟩
    have hb1 := hb.set_q c (.bool true)
    have hch1 := Chg.setCell W ⟨G, 260 + c, none⟩ (.bool true)
    rw [hW1] at hb1 hch1
    have hlow := h.low
    have hc1 : Chg (fun _ => False) w W1 := h.chg.trans hch1 fun k hk he => by simp only [] at he; omega
    obtain ⟨c1, c2, c3⟩ := hb1.head
    have hgl := block_lt_of_cell hcell
    have hcell1 : W1.cell? ⟨g, off + c, none⟩ = some u := by
      rw [World.cell?_of_block (w := w) (a := ⟨g, off + c, none⟩) (hc1.block g hgl (by simp))]; exact hcell
    obtain ⟨n, hn⟩ : ∃ n, m.cs.length = n := ⟨_, rfl⟩
    have hfit := hr.fit64.at c (by omega)
    rw [hj3] at hfit
    have HE := Lib.hid (enew_in u (m.atL (c : Int)) W1.drew (hu.1.kept hc1.drew (by simp)) hfit.2 hfit.1)
    have HU := Lib.hid hu; have HB1 := Lib.hid hb1; have HCH1 := Lib.hid hch1; have HC1 := Lib.hid hc1; have HGL := Lib.hid hgl; have HLOW := Lib.hid hlow; have HW1 := Lib.hid hW1; have HJ1 := Lib.hid hj1; have HN := Lib.hid hn
    have hun : u.oneCell' = true := by obtain ⟨au, cu, rfl⟩ := hu.1.form; rfl
    obtain ⟨au, cu, hue⟩ := hu.1.form
    have hncI : (c : Int) < (n : Int) := by omega
    have hn0 : 0 < n := by omega
    rw [hn] at b2 c2 ⊢
    clear h hb hall hl hr hj2 hj3 hj4 hjc hq hu hb1 hch1 hc1 hcell hgl hlow hn hfit hone v1 v2 hW1
    skip
    rw [hue] at hcell1
    go_enter Try.func45, Try.ntmps45
    go_wp2
    rw [HW1.out]
    go_region_held3 (fun V => V.cell? ⟨G, 3, none⟩ = some (.func (.func 42) #[] #[]) ∧ V.cell? ⟨G, 2, none⟩ = some (.slice (some ⟨g, off, none⟩) n cap) ∧ V.cell? ⟨g, off + c, none⟩ = some (.slice au (m.atL (c : Int)).length cu)) (first | exact ⟨c3, c2, hcell1⟩ | exact ⟨d3, d2, dc⟩ | exact ⟨f3, f2, fc⟩) (first
      | (go_at_call 42; rw [← hue]; refine HE.out.mono ?_; rintro e V2 ⟨-, hy, hcv⟩; obtain ⟨a, rfl, hin⟩ := hy HLOG.out; have hb2 := HB1.out.kept ((Chg.refl (fun _ => False) W1).drew.trans hcv fun _ _ h => h) (by simp); obtain ⟨-, d2, d3⟩ := hb2.head; rw [HN.out] at d2; have dc : V2.cell? ⟨g, off + c, none⟩ = some (.slice au (m.atL (c : Int)).length cu) := (World.cell?_of_block (w := W1) (a := ⟨g, off + c, none⟩) (((Chg.refl (fun _ => False) W1).drew.trans hcv fun _ _ h => h).block g (block_lt_of_cell hcell1) (by simp))).trans hcell1; obtain ⟨d4, d5⟩ := hb2.v c HJ1.out; have hb3 := hb2.set_v c HJ1.out (.pointer (some a)); obtain ⟨-, f2, f3⟩ := hb3.head; rw [HN.out] at f2; obtain ⟨f4, -⟩ := hb3.v c HJ1.out; rw [lsv_self _ _ (by rw [hb2.2.1]; exact HJ1.out)] at f4; skip; have fc : (V2.setCell ⟨G, 4 + c, none⟩ (.pointer (some a))).cell? ⟨g, off + c, none⟩ = some (.slice au (m.atL (c : Int)).length cu) := (World.cell?_of_block (w := V2) (a := ⟨g, off + c, none⟩) ((Chg.setCell V2 ⟨G, 4 + c, none⟩ (.pointer (some a))).block g (block_lt_of_cell dc) (by simp only []; have := HGL.out; have := HLOW.out; omega))).trans dc; have HIN := Lib.hid hin; have HB3 := Lib.hid hb3; have HCV := Lib.hid hcv; clear hin hb3 hcv hb2))
    go_wp2
    go_ret
    have hcv3 : Chg (fun k => k = G) W1 _ := ((Chg.refl (fun k => k = G) W1).drew.trans HCV.out fun _ _ h => h.elim).trans (Chg.setCell V2 ⟨G, 4 + c, none⟩ (.pointer (some a))) fun _ _ h => h
    have hw3 := HCH1.out.trans hcv3 fun _ _ h => h
    rw [← HN.out]
    exact ⟨a, rfl, (HIN.out.kept (Chg.setCell V2 ⟨G, 4 + c, none⟩ (.pointer (some a))) fun k k1 k2 hk => by
        simp only [] at hk
        have := lt_of_block HB1.out.1
        have := HC1.out.size
        replace k1 : W1.heap.size ≤ k := k1
        omega).ok, H.out.fill (AtT.kept m) HALL.out HB.out.2.1 HB.out.2.2 hw3 c HJ1.out HB3.out (S := fun k => W1.heap.size ≤ k ∧ k < V2.heap.size) ⟨a, _, _, rfl, HIN.out.kept (Chg.setCell V2 ⟨G, 4 + c, none⟩ (.pointer (some a))) (fun k k1 k2 hk => by
        simp only [] at hk
        have := lt_of_block HB1.out.1
        replace k1 : W1.heap.size ≤ k := k1
        omega) |> fun hh => by exact hh, fun k k1 k2 => ⟨k1, k2⟩⟩ fun k hk => ⟨Nat.le_trans HCH1.out.size hk.1, Nat.lt_of_lt_of_le hk.2 (Chg.setCell V2 ⟨G, 4 + c, none⟩ (.pointer (some a))).size⟩, hw3⟩
  ·
    rw [hq] at q1
    rw [hv] at v1
    have HET := Lib.hid het
    clear h hb hall hl hr hj2 hj3 hj4 hjc hq hone
    skip
    clear het hS hX hne hv
    go_enter Try.func45, Try.ntmps45
    go_wp2
    go_ret
    exact ⟨a, rfl, by have hh := HET.out.ok; exact hh, H.out, Chg.refl _ _⟩

set_option maxRecDepth 100000 in
set_option maxHeartbeats 4000000 in
theorem lofT_one (w : World) (G : Nat) (m : Md) (cv : Value) (W : World) (X : Nat → Prop) (c : Nat) (h : LsT w G m cv W X) (hl : RdLL w cv m.cs) (hr : m.right) (hone : m.one = true) (hc : c < 256) (hne : m.atL (c : Int) ≠ []) :
    Calls Try.prog 45 #[.pointer (some ⟨G, 0, none⟩), .int .i64 (c : Int)] W fun e W' => ∃ a, e = .returned (.pointer (some a)) ∧ EtOk W' a (m.atL (c : Int)) ∧ LsT w G m cv W' X ∧ Chg (fun k => k = G) W W' := by
  obtain ⟨vs, qs, hb, hall⟩ := h.row
  obtain ⟨hj1, hj2, hj3, hj4⟩ := lsAt_list hr hc
  have hjc : lsAt m c = 0 := by unfold lsAt; rw [hone]; rfl
  rw [hjc] at hj1 hj2 hj3 hj4
  obtain ⟨b1, b2, b3⟩ := hb.head
  obtain ⟨v1, v2⟩ := hb.v 0 hj1
  obtain ⟨q1, q2⟩ := hb.q 0 hj1
  have hent := Try.entersEt
  have hcI : (c : Int) < 256 := by omega
  have hc0 : (0 : Int) ≤ (c : Int) := by omega
  rw [hone] at b1
  have H := Lib.hid h; have HB := Lib.hid hb; have HALL := Lib.hid hall; have HJ4 := Lib.hid hj4; have HR := Lib.hid hr
  rcases hall 0 hj1 with hq | ⟨hq, S, ⟨a, lo, hi, hv, het, hS⟩, hX⟩
  · have hnq := norm_at hr _ hne
    have hlog : logI (totalI (m.atL (c : Int))) ≠ 0 := by rw [hnq.log]; have := hnq.2.2.2.1; omega
    have HLOG := Lib.hid hlog
    clear hnq hlog
    rw [hq] at q1
    obtain ⟨ao, cap, rfl⟩ := hl.form
    obtain ⟨g, off, u, rfl, hcell, hu⟩ := hl.room 0 hj2
    rw [hj3] at hu
    obtain ⟨W1, hW1⟩ : ∃ V, W.setCell ⟨G, 260 + 0, none⟩ (.bool true) = V := ⟨_, rfl⟩
    have hb1 := hb.set_q 0 (.bool true)
    have hch1 := Chg.setCell W ⟨G, 260 + 0, none⟩ (.bool true)
    rw [hW1] at hb1 hch1
    have hlow := h.low
    have hc1 : Chg (fun _ => False) w W1 := h.chg.trans hch1 fun k hk he => by simp only [] at he; omega
    obtain ⟨c1, c2, c3⟩ := hb1.head
    have hgl := block_lt_of_cell hcell
    have hcell1 : W1.cell? ⟨g, off + 0, none⟩ = some u := by
      rw [World.cell?_of_block (w := w) (a := ⟨g, off + 0, none⟩) (hc1.block g hgl (by simp))]; exact hcell
    obtain ⟨n, hn⟩ : ∃ n, m.cs.length = n := ⟨_, rfl⟩
    have hfit := hr.fit64.at 0 (by omega)
    rw [hj3] at hfit
    have HE := Lib.hid (enew_in u (m.atL (c : Int)) W1.drew (hu.1.kept hc1.drew (by simp)) hfit.2 hfit.1)
    have HU := Lib.hid hu; have HB1 := Lib.hid hb1; have HCH1 := Lib.hid hch1; have HC1 := Lib.hid hc1; have HGL := Lib.hid hgl; have HLOW := Lib.hid hlow; have HW1 := Lib.hid hW1; have HJ1 := Lib.hid hj1; have HN := Lib.hid hn
    have hun : u.oneCell' = true := by obtain ⟨au, cu, rfl⟩ := hu.1.form; rfl
    obtain ⟨au, cu, hue⟩ := hu.1.form
    have hncI : (0 : Int) < (n : Int) := by omega
    have hn0 : 0 < n := by omega
    rw [hn] at b2 c2 ⊢
    clear h hb hall hl hr hj2 hj3 hj4 hjc hq hu hb1 hch1 hc1 hcell hgl hlow hn hfit hone v1 v2 hW1
    simp only [Nat.add_zero] at q1 q2 hcell1
    rw [hue] at hcell1
    go_enter Try.func45, Try.ntmps45
    go_wp2
    rw [show W.setCell ⟨G, 260, none⟩ (.bool true) = W1 from HW1.out]
    go_region_held3 (fun V => V.cell? ⟨G, 3, none⟩ = some (.func (.func 42) #[] #[]) ∧ V.cell? ⟨G, 2, none⟩ = some (.slice (some ⟨g, off, none⟩) n cap) ∧ V.cell? ⟨g, off, none⟩ = some (.slice au (m.atL (c : Int)).length cu)) (first | exact ⟨c3, c2, hcell1⟩ | exact ⟨d3, d2, dc⟩ | exact ⟨f3, f2, fc⟩) (first
      | (go_at_call 42; rw [← hue]; refine HE.out.mono ?_; rintro e V2 ⟨-, hy, hcv⟩; obtain ⟨a, rfl, hin⟩ := hy HLOG.out; have hb2 := HB1.out.kept ((Chg.refl (fun _ => False) W1).drew.trans hcv fun _ _ h => h) (by simp); obtain ⟨-, d2, d3⟩ := hb2.head; rw [HN.out] at d2; have dc : V2.cell? ⟨g, off, none⟩ = some (.slice au (m.atL (c : Int)).length cu) := (World.cell?_of_block (w := W1) (a := ⟨g, off, none⟩) (((Chg.refl (fun _ => False) W1).drew.trans hcv fun _ _ h => h).block g (block_lt_of_cell hcell1) (by simp))).trans hcell1; obtain ⟨d4, d5⟩ := hb2.v 0 HJ1.out; have hb3 := hb2.set_v 0 HJ1.out (.pointer (some a)); obtain ⟨-, f2, f3⟩ := hb3.head; rw [HN.out] at f2; obtain ⟨f4, -⟩ := hb3.v 0 HJ1.out; rw [lsv_self _ _ (by rw [hb2.2.1]; exact HJ1.out)] at f4; simp only [Nat.add_zero] at d4 d5 f2 f3 f4; have fc : (V2.setCell ⟨G, 4, none⟩ (.pointer (some a))).cell? ⟨g, off, none⟩ = some (.slice au (m.atL (c : Int)).length cu) := (World.cell?_of_block (w := V2) (a := ⟨g, off, none⟩) ((Chg.setCell V2 ⟨G, 4, none⟩ (.pointer (some a))).block g (block_lt_of_cell dc) (by simp only []; have := HGL.out; have := HLOW.out; omega))).trans dc; have HIN := Lib.hid hin; have HB3 := Lib.hid hb3; have HCV := Lib.hid hcv; clear hin hb3 hcv hb2))
    go_wp2
    go_ret
    have hcv3 : Chg (fun k => k = G) W1 _ := ((Chg.refl (fun k => k = G) W1).drew.trans HCV.out fun _ _ h => h.elim).trans (Chg.setCell V2 ⟨G, 4 + 0, none⟩ (.pointer (some a))) fun _ _ h => h
    have hw3 := HCH1.out.trans hcv3 fun _ _ h => h
    rw [← HN.out]
    exact ⟨a, rfl, (HIN.out.kept (Chg.setCell V2 ⟨G, 4 + 0, none⟩ (.pointer (some a))) fun k k1 k2 hk => by
        simp only [] at hk
        have := lt_of_block HB1.out.1
        have := HC1.out.size
        replace k1 : W1.heap.size ≤ k := k1
        omega).ok, H.out.fill (AtT.kept m) HALL.out HB.out.2.1 HB.out.2.2 hw3 0 HJ1.out HB3.out (S := fun k => W1.heap.size ≤ k ∧ k < V2.heap.size) ⟨a, _, _, rfl, HIN.out.kept (Chg.setCell V2 ⟨G, 4 + 0, none⟩ (.pointer (some a))) (fun k k1 k2 hk => by
        simp only [] at hk
        have := lt_of_block HB1.out.1
        replace k1 : W1.heap.size ≤ k := k1
        omega) |> fun hh => by rw [HJ4.out]; exact hh, fun k k1 k2 => ⟨k1, k2⟩⟩ fun k hk => ⟨Nat.le_trans HCH1.out.size hk.1, Nat.lt_of_lt_of_le hk.2 (Chg.setCell V2 ⟨G, 4 + 0, none⟩ (.pointer (some a))).size⟩, hw3⟩
  ·
    rw [hq] at q1
    rw [hv] at v1
    have HET := Lib.hid het
    clear h hb hall hl hr hj2 hj3 hj4 hjc hq hone
    simp only [Nat.add_zero] at q1 q2 v1 v2
    clear het hS hX hne hv
    go_enter Try.func45, Try.ntmps45
    go_wp2
    go_ret
    exact ⟨a, rfl, by have hh := HET.out.ok; rw [HJ4.out] at hh; exact hh, H.out, Chg.refl _ _⟩

end Go.Proofs.Ytokeoebhmjefoaa

/- What the document's own ctx (puncheonref06) tells. -/
namespace Go.Proofs.Ytokeoebhmjefoaa
open Go.RowKit

theorem own_oneB (w : World) (x : Nat) : (w.alloc (.cells #[.int .u8 (x : Int)] 5)).ownsRow w.heap.size 5 1 (.slice (some ⟨w.heap.size, 0, none⟩) 1 1) [x].length (bv [x]) :=
  ⟨rfl, .inr ⟨w.heap.size, 1, #[.int .u8 (x : Int)], rfl, Nat.le_refl _, heap_alloc_new w _, Nat.le_refl _, by unfold maxLen; omega, rfl, rfl⟩⟩

set_option maxHeartbeats 1000000 in
theorem r6at_any (v : Value) (xs : List Nat) (i : Int) (w : World) (h : RdB w v xs) (hx : ∀ x ∈ xs, x < 256) (hl : xs.length < 10000000000) (hi : -9223372036854775808 ≤ i ∧ i ≤ 9223372036854775807) :
    Calls Try.prog 24 #[v, .int .i64 i] w fun e w' => e = .returned (.int .i64 (atI xs i)) ∧ Chg (fun _ => False) w w' := by
  obtain ⟨ao, cap, rfl⟩ := h.form
  have H := Lib.hid h; have HX := Lib.hid hx
  clear h hx
  by_cases hneg : i < 0
  · have d1 : decide (i < 0) = true := decide_eq_true hneg
    have HA := Lib.hid (atI_out xs i (.inl hneg))
    go_enter Try.func24, Try.ntmps24
    go_wp2
    go_ret
    rw [HA.out]
    exact ⟨rfl, Chg.refl _ _⟩
  · have d1 : decide (i < 0) = false := decide_eq_false hneg
    by_cases hbig : (xs.length : Int) ≤ i
    · have d2 : decide ((xs.length : Int) ≤ i) = true := decide_eq_true hbig
      have HA := Lib.hid (atI_out xs i (.inr hbig))
      go_enter Try.func24, Try.ntmps24
      go_wp2
      go_ret
      rw [HA.out]
      exact ⟨rfl, Chg.refl _ _⟩
    · have d2 : decide ((xs.length : Int) ≤ i) = false := decide_eq_false hbig
      obtain ⟨k, rfl⟩ : ∃ k : Nat, i = (k : Int) := ⟨i.toNat, by omega⟩
      have hk : k < xs.length := by omega
      have HA := Lib.hid (atI_nat xs k hk)
      have hca := Chg.alloc (fun _ => False) w (.cells #[.int .u8 ((0 : Nat) : Int)] 5)
      have hoA := own_oneB w 0
      have hrx := H.out.kept hca (by simp)
      have HRX := Lib.hid hrx; have HCA := Lib.hid hca; have HO := Lib.hid hoA
      clear hca hoA hrx hneg hbig hi
      go_enter Try.func24, Try.ntmps24
      go_wp2_with (at_builtin; refine wpList_append_bytes rfl (.tmp 14) (.tmp 15) rfl w.heap.size _ [0] rfl HO.out _ xs rfl HRX.out (by simp) (by simp; omega) ?_)
      intro v3 w3 ho3 hc3
      have hc3' : Chg (fun _ => False) w w3 := HCA.out.trans hc3 (fun k hk hx => by simp [Value.ownBlock] at hx; omega)
      have hrd := RdB.of_own ho3
      obtain ⟨ao3, cap3, rfl⟩ := hrd.form
      obtain ⟨g, off, rfl, hcell⟩ := hrd.at k (by simp; omega)
      have hy := getD_lt (0 :: xs) (fun x hx => by
        rcases List.mem_cons.1 hx with rfl | hx
        · omega
        · exact HX.out x hx) k
      obtain ⟨y, hye⟩ : ∃ y, (0 :: xs).getD k 0 = y := ⟨_, rfl⟩
      rw [hye] at hcell hy HA
      have hkl : k < (0 :: xs).length := by simp; omega
      obtain ⟨n, hn⟩ : ∃ n, (0 :: xs).length = n := ⟨_, rfl⟩
      rw [hn] at hkl ⊢
      clear hc3 HCA HRX HO hrd ho3 hn
      go_wp2
      go_ret
      rw [HA.out]
      exact ⟨rfl, hc3'⟩

set_option maxHeartbeats 1000000 in
set_option maxRecDepth 100000 in
theorem r6for_any (v : Value) (xs : List Nat) (c : Int) (w : World) (h : RdB w v xs) (hx : ∀ x ∈ xs, x < 256) (hl : xs.length < 10000000000) :
    Calls Try.prog 70 #[v, .int .i64 c] w fun e w' => ∃ v', e = .returned v' ∧ OwnI w' w.heap.size v' (cnt (sel xs c)) ∧ Chg (fun _ => False) w w' := by
  obtain ⟨ao, cap, rfl⟩ := h.form
  have H := Lib.hid h; have HX := Lib.hid hx
  clear h hx
  go_enter Try.func70, Try.ntmps70
  go_wp2_with (at_make; refine wpList_make_ints rfl _ _ rfl 256 256 256 rfl rfl rfl rfl (by omega) (cnt (sel (xs.take 0) c)) (by rw [List.take_zero, sel_nil, cnt_nil]) ?_)
  intro w1 h1 hc1
  have H1 := Lib.hid h1; have HC1 := Lib.hid hc1
  clear h1 hc1
  go_wp2
  go_loopw [6] (fun o6 wr => ∃ k : Nat, k ≤ xs.length ∧ o6 = .int .i64 (k : Int) ∧ RowI wr w.heap.size 3 (cnt (sel (xs.take k) c)) ∧ Chg (fun _ => False) w wr) (fun o6 _ => xs.length - (intOf o6).toNat)
  case atStart => exact ⟨0, Nat.zero_le _, rfl, H1.out, HC1.out⟩
  case round =>
    obtain ⟨k, hk, rfl, hrow, hc⟩ := hrel
    clear H1 HC1
    by_cases hlt : k < xs.length
    · have HROW := Lib.hid hrow; have HC := Lib.hid hc
      clear hrow hc
      go_wp2_with fail
      refine (r6at_any _ xs (k : Int) wr (H.out.kept HC.out (by simp)) HX.out hl (by omega)).mono ?_
      rintro e w2 ⟨rfl, hc2⟩
      rw [atI_nat xs k hlt]
      have hrow := HROW.out.kept hc2 (by simp)
      have hc := HC.out.trans hc2 (fun _ _ h => h)
      have hst := sel_take_succ xs k hlt c
      clear HROW HC hc2
      obtain ⟨y, hye⟩ : ∃ y, (0 :: xs).getD k 0 = y := ⟨_, rfl⟩
      rw [hye] at hst ⊢
      clear hye
      by_cases hyc : (y : Int) = c
      · subst hyc
        rw [if_pos rfl] at hst
        obtain ⟨g, off, rfl, hcell⟩ := (H.out.kept hc (by simp)).at k hlt
        have hx8 := getD_lt xs HX.out k
        obtain ⟨x, hxe⟩ : ∃ x, xs.getD k 0 = x := ⟨_, rfl⟩
        rw [hxe] at hcell hx8 hst
        have hcs := cnt_snoc (sel (xs.take k) (y : Int)) x hx8
        rw [← hst] at hcs
        have hcu := hrow.cell x (by rw [cnt_length]; exact hx8)
        have hfu := hrow.free x
        have hbd : 0 ≤ (cnt (sel (xs.take k) (y : Int))).getD x 0 ∧ (cnt (sel (xs.take k) (y : Int))).getD x 0 ≤ 10000000000 := by
          rw [cnt_getD _ _ hx8]
          have h1 := List.count_le_length (l := sel (xs.take k) (y : Int)) (a := x)
          have h2 := sel_len (xs.take k) (y : Int)
          rw [List.length_take] at h2
          omega
        have hr2 := hrow.set x ((cnt (sel (xs.take k) (y : Int))).getD x 0 + 1)
        rw [← hcs] at hr2
        have hc2 : Chg (fun _ => False) w (w2.setCell ⟨w.heap.size, x, none⟩ (.int .i64 ((cnt (sel (xs.take k) (y : Int))).getD x 0 + 1))) := hc.trans (Chg.setCell w2 ⟨w.heap.size, x, none⟩ _) (fun q hq h => by simp at h; omega)
        obtain ⟨z, hze⟩ : ∃ z, (cnt (sel (xs.take k) (y : Int))).getD x 0 = z := ⟨_, rfl⟩
        rw [hze] at hcu hbd hr2 hc2
        obtain ⟨hz0, hz1⟩ := hbd
        have HR2 := Lib.hid hr2; have HC2 := Lib.hid hc2
        clear hst hcs hr2 hc2 hrow hc hze hxe
        go_wp2
        go_roundw
        case rel => exact ⟨k + 1, by omega, by go_num, HR2.out, HC2.out⟩
        case measure => simp [intOf]; omega
      · rw [if_neg hyc, List.append_nil] at hst
        have hne : ((y : Int) == c) = false := by simp [hyc]
        have HST := Lib.hid hst; have HROW := Lib.hid hrow; have HC := Lib.hid hc
        clear hst hrow hc
        go_wp2
        go_roundw
        case rel => exact ⟨k + 1, by omega, by go_num, by rw [HST.out]; exact HROW.out, HC.out⟩
        case measure => simp [intOf]; omega
    · obtain rfl : k = xs.length := by omega
      rw [List.take_length] at hrow
      go_wp2
      go_ret
      exact ⟨_, rfl, by have := hrow.own 256 w.heap.size (Nat.le_refl _); rw [cnt_length] at this; exact this, hc⟩

set_option maxHeartbeats 1000000 in
set_option maxRecDepth 100000 in
theorem r6present_own (v : Value) (xs : List Nat) (w : World) (h : RdB w v xs) (hx : ∀ x ∈ xs, x < 256) (hl : xs.length < 10000000000) :
    Calls Try.prog 69 #[v] w fun e w' => ∃ v', e = .returned v' ∧ w'.ownsRow w.heap.size 3 1 v' (pres xs).length (iw (pres xs)) ∧ Chg (fun _ => False) w w' := by
  obtain ⟨ao, cap, rfl⟩ := h.form
  have H := Lib.hid h; have HX := Lib.hid hx
  clear h hx
  go_enter Try.func69, Try.ntmps69
  go_wp2
  go_loopw [3, 4] (fun o3 o4 wr => ∃ (c : Nat) (vo : Value), c ≤ 256 ∧ o4 = .int .i64 (c : Int) ∧ vo = o3 ∧ wr.ownsRow w.heap.size 3 1 vo (presTo xs c).length (iw (presTo xs c)) ∧ Chg (fun _ => False) w wr) (fun _ o4 _ => 256 - (intOf o4).toNat)
  case atStart => exact ⟨0, _, Nat.zero_le _, rfl, rfl, nil_owns w _, Chg.refl _ _⟩
  case round =>
    obtain ⟨c, vo, hcc, rfl, rfl, hown, hc⟩ := hrel
    have hpl := presTo_length xs c
    obtain ⟨wa, hwa⟩ : ∃ wa, wa = wr := ⟨_, rfl⟩
    subst hwa
    by_cases hlt : c < 256
    · have HOWN := Lib.hid hown; have HC := Lib.hid hc
      clear hown hc
      have d8 : decide ((c : Int) < 256) = true := by simp; omega
      go_wp2
      go_loopw [5, 6] (fun o5 o6 wr => ∃ k : Nat, k ≤ xs.length ∧ o6 = .int .i64 (k : Int) ∧ o5 = .int .i64 (((sel (xs.take k) (c : Int)).length : Nat) : Int) ∧ wr.ownsRow w.heap.size 3 1 vo (presTo xs c).length (iw (presTo xs c)) ∧ Chg (fun _ => False) w wr) (fun _ o6 _ => xs.length - (intOf o6).toNat)
      case atStart => exact ⟨0, Nat.zero_le _, rfl, rfl, HOWN.out, HC.out⟩
      case round =>
        obtain ⟨k, hk, rfl, rfl, hown, hc⟩ := hrel
        clear HOWN HC
        have hsl := sel_len (xs.take k) (c : Int)
        rw [List.length_take] at hsl
        have HOWN := Lib.hid hown; have HC := Lib.hid hc
        clear hown hc
        by_cases hkl : k < xs.length
        · have hst := sel_take_succ xs k hkl (c : Int)
          obtain ⟨n, hn⟩ : ∃ n, (sel (xs.take k) (c : Int)).length = n := ⟨_, rfl⟩
          rw [hn] at hsl ⊢
          have HN := Lib.hid hn
          clear hn
          go_wp2_with fail
          refine (r6at_any _ xs (k : Int) wr (H.out.kept HC.out (by simp)) HX.out hl (by omega)).mono ?_
          rintro e w2 ⟨rfl, hc2⟩
          rw [atI_nat xs k hkl]
          have HOWN2 := Lib.hid (hc2.own HOWN.out (by simp))
          have HC2 := Lib.hid (HC.out.trans hc2 (fun _ _ h => h))
          clear HOWN HC hc2
          obtain ⟨y, hye⟩ : ∃ y, (0 :: xs).getD k 0 = y := ⟨_, rfl⟩
          rw [hye] at hst ⊢
          clear hye
          by_cases hyc : (y : Int) = (c : Int)
          · rw [if_pos hyc] at hst
            have hq : ((y : Int) == (c : Int)) = true := by simp [hyc]
            have hst' : (sel (xs.take (k + 1)) (c : Int)).length = n + 1 := by rw [hst, List.length_append, HN.out]; rfl
            have HST := Lib.hid hst'
            clear hst hst'
            go_wp2
            go_roundw
            case rel => exact ⟨k + 1, by omega, by go_num, by rw [HST.out]; go_num, HOWN2.out, HC2.out⟩
            case measure => simp [intOf]; omega
          · rw [if_neg hyc, List.append_nil] at hst
            have hq : ((y : Int) == (c : Int)) = false := by simp; omega
            have hst' : (sel (xs.take (k + 1)) (c : Int)).length = n := by rw [hst, HN.out]
            have HST := Lib.hid hst'
            clear hst hst'
            go_wp2
            go_roundw
            case rel => exact ⟨k + 1, by omega, by go_num, by rw [HST.out], HOWN2.out, HC2.out⟩
            case measure => simp [intOf]; omega
        · obtain rfl : k = xs.length := by omega
          rw [List.take_length] at hsl ⊢
          have hps := presTo_succ xs c
          obtain ⟨n, hn⟩ : ∃ n, (sel xs (c : Int)).length = n := ⟨_, rfl⟩
          rw [hn] at hsl hps ⊢
          clear hn
          by_cases hpos : 0 < n
          · rw [if_pos hpos] at hps
            have hd : decide (0 < (n : Int)) = true := by simp; omega
            have hca := Chg.alloc (fun _ => False) wr (.cells #[.int .i64 (c : Int)] 3)
            have hrd := rdi_new wr [(c : Int)] #[.int .i64 (c : Int)] 1 (0, 0) rfl rfl
            have hoa := hca.own HOWN.out (by simp)
            have hz : w.heap.size ≤ (wr.alloc (.cells #[.int .i64 (c : Int)] 3)).heap.size := Nat.le_trans HC.out.size hca.size
            have hlt3 := HOWN.out.lt
            have HCA := Lib.hid hca; have HRD := Lib.hid hrd; have HOA := Lib.hid hoa; have HZ := Lib.hid hz; have HLT3 := Lib.hid hlt3
            have HPS := Lib.hid hps
            clear hca hrd hoa hz hlt3 hps
            go_wp2_with (at_builtin; refine wpList_append_ints rfl (.tmp 26) (.tmp 28) rfl w.heap.size vo (presTo xs c) rfl HOA.out _ [(c : Int)] rfl HRD.out HZ.out (by simp; omega) ?_)
            intro v4 w4 ho4 hc4
            have ho4 := (show w4.ownsRow w.heap.size 3 1 v4 (presTo xs c ++ [(c : Int)]).length (iw (presTo xs c ++ [(c : Int)])) by simpa using ho4)
            rw [← HPS.out] at ho4
            have hc4' : Chg (fun _ => False) w w4 := (HC.out.trans HCA.out (fun _ _ h => h)).trans hc4 (fun k hk hx => by have := (HLT3.out k hx.symm).1; omega)
            clear hc4 HCA HRD HOA HZ HLT3 HPS
            go_wp2
            go_roundw
            case rel => exact ⟨c + 1, _, by omega, by go_num, rfl, ho4, hc4'⟩
            case measure => simp [intOf]; omega
          · rw [if_neg hpos, List.append_nil] at hps
            have hd : decide (0 < (n : Int)) = false := by simp; omega
            have HPS := Lib.hid hps
            clear hps
            go_wp2
            go_roundw
            case rel => exact ⟨c + 1, _, by omega, by go_num, rfl, by rw [HPS.out]; exact HOWN.out, HC.out⟩
            case measure => simp [intOf]; omega
    · obtain rfl : c = 256 := by omega
      have HOWN := Lib.hid hown
      clear hown
      go_wp2
      go_ret
      exact ⟨_, rfl, HOWN.out, hc⟩
theorem r6present_any (v : Value) (xs : List Nat) (w : World) (h : RdB w v xs) (hx : ∀ x ∈ xs, x < 256) (hl : xs.length < 10000000000) :
    Calls Try.prog 69 #[v] w fun e w' => ∃ v', e = .returned v' ∧ RdI w' v' (pres xs) ∧ Chg (fun _ => False) w w' :=
  (r6present_own v xs w h hx hl).mono fun _ _ ⟨v', h1, h2, h3⟩ => ⟨v', h1, RdI.of_own h2, h3⟩

end Go.Proofs.Ytokeoebhmjefoaa

/- What the document's own model (puncheonref16) tells: Right, At, Few, Same, Fits. -/
namespace Go.Proofs.Ytokeoebhmjefoaa
open Go.RowKit

set_option maxHeartbeats 2000000 in
theorem r16right_t (log : Int) (cs : List (List Int)) (cv : Value) (w : World) (h : RdLL w cv cs) (hf : Md.fit64 ⟨log, true, cs⟩) :
    Calls Try.prog 34 #[.agg #[.int .i64 log, .bool true, cv]] w fun e w' => e = .returned (.bool (decide (Md.right ⟨log, true, cs⟩))) ∧ Chg (fun _ => False) w w' := by
  obtain ⟨D, hD⟩ : ∃ D, decide (Md.right ⟨log, true, cs⟩) = D := ⟨_, rfl⟩
  rw [hD]
  have HD := Lib.hid hD
  obtain ⟨ao, cap, rfl⟩ := h.form
  have hca := Chg.alloc (fun _ => False) w (.cells #[.int .i64 log, .bool true, .slice ao cs.length cap] 24)
  have hnew := heap_alloc_new w (.cells #[.int .i64 log, .bool true, .slice ao cs.length cap] 24)
  have HL := Lib.hid (h.kept hca)
  obtain ⟨n, hn⟩ : ∃ n, cs.length = n := ⟨_, rfl⟩
  have HN := Lib.hid hn; have HF := Lib.hid hf
  have hnb : (n : Int) < 100000000000 := by have := hf.2.1; simp only [] at this; omega
  rw [hn] at hca hnew HL ⊢
  obtain ⟨W, hW⟩ : ∃ W, w.alloc (.cells #[.int .i64 log, .bool true, .slice ao n cap] 24) = W := ⟨_, rfl⟩
  rw [hW] at hca hnew HL
  have HCA := Lib.hid hca
  have b0 : W.cell? ⟨w.heap.size, 0, none⟩ = some (.int .i64 log) := by rw [cell_of_row _ _ 0 _ _ _ hnew]; rfl
  have b1 : W.cell? ⟨w.heap.size, 1, none⟩ = some (.bool true) := by rw [cell_of_row _ _ 1 _ _ _ hnew]; rfl
  have b2 : W.cell? ⟨w.heap.size, 2, none⟩ = some (.slice ao n cap) := by rw [cell_of_row _ _ 2 _ _ _ hnew]; rfl
  clear hD h hf hca hnew hn
  by_cases h1 : log < 1
  · have hD1 : D = false := by rw [← HD.out]; exact decide_eq_false fun hh => by have := hh.1.1; simp only [] at this; omega
    subst hD1
    go_enter Try.func34, Try.ntmps34
    go_wp2
    go_ret
    exact ⟨rfl, HCA.out⟩
  · by_cases h2 : 12 < log
    · have hD1 : D = false := by rw [← HD.out]; exact decide_eq_false fun hh => by have := hh.1.2; simp only [] at this; omega
      subst hD1
      go_enter Try.func34, Try.ntmps34
      go_wp2
      go_ret
      exact ⟨rfl, HCA.out⟩
    · by_cases h3 : n = 1
      · have hnI : (n : Int) = 1 := by omega
        have h3b : ((n : Int) != 1) = false := by simp [hnI]
        have d1 : decide (log < 1) = false := decide_eq_false h1
        have d2 : decide (12 < log) = false := decide_eq_false h2
        have HNL := Lib.hid h3
        clear h3 hnI
        go_enter Try.func34, Try.ntmps34
        go_wp2
        go_loopw [3] (fun o3 wr => ∃ k : Nat, k ≤ n ∧ o3 = .int .i64 (k : Int) ∧ (∀ j, j < k → okL log true (cs.getD j [])) ∧ wr.cell? ⟨w.heap.size, 0, none⟩ = some (.int .i64 log) ∧ wr.cell? ⟨w.heap.size, 1, none⟩ = some (.bool true) ∧ wr.cell? ⟨w.heap.size, 2, none⟩ = some (.slice ao n cap) ∧ RdLL wr (.slice ao n cap) cs ∧ Chg (fun _ => False) w wr) (fun o3 _ => n - (intOf o3).toNat)
        case atStart => exact ⟨0, Nat.zero_le _, rfl, fun j hj => by omega, b0, b1, b2, HL.out, HCA.out⟩
        case round =>
          clear b0 b1 b2 HL HCA hW
          obtain ⟨k, hk, rfl, hok, b0, b1, b2, hl, hc⟩ := hrel
          have HOK := Lib.hid hok; have HL := Lib.hid hl; have HCA := Lib.hid hc
          clear hok hl hc
          by_cases hlt : k < n
          · obtain ⟨g, off, u, rfl, hu1, hu2⟩ := HL.out.at k (by rw [HN.out]; exact hlt)
            have hfa := HF.out.at k (by show k < cs.length; rw [HN.out]; exact hlt)
            simp only [] at hfa
            have hlg := fun m' => r8log_all u (cs.getD k []) (wr.drewN m') (hu2.kept ((Chg.refl (fun _ => False) wr).drewN m') (by simp)) hfa.2
            have hlb := logI_le (totalI (cs.getD k []))
            have hokk : okL log true (cs.getD k []) ↔ (cs.getD k [] = [] ∧ true = false) ∨ ((logI (totalI (cs.getD k [])) : Nat) : Int) = log := Iff.rfl
            obtain ⟨au, cu, rfl⟩ := hu2.form
            obtain ⟨q, hq⟩ : ∃ q, cs.getD k [] = q := ⟨_, rfl⟩
            rw [hq] at hlg hlb hu1 hfa hokk
            have HQ := Lib.hid hq
            obtain ⟨nu, hnu⟩ : ∃ nu, q.length = nu := ⟨_, rfl⟩
            rw [hnu] at hlg hu1 hfa
            obtain ⟨L, hL⟩ : ∃ L, logI (totalI q) = L := ⟨_, rfl⟩
            rw [hL] at hlg hlb hokk
            have HLG := Lib.hid hlg; have HOKK := Lib.hid hokk; have HNU := Lib.hid hnu
            have hLb : (L : Int) ≤ 12 := by omega
            have hnub : (nu : Int) < 100000000000 := by have := hfa.1; omega
            have hkn : (k : Int) < (n : Int) := by omega
            clear hlg hlb hokk hfa hu2 hq hnu hL
            by_cases hz : nu = 0
            · subst hz
              by_cases heq : (L : Int) = log
              · subst heq
                have hst : ∀ j, j < k + 1 → okL (L : Int) true (cs.getD j []) := fun j hj => by
                  by_cases hjk : j = k
                  · subst hjk; rw [HQ.out]; exact HOKK.out.2 (.inr rfl)
                  · exact HOK.out j (by omega)
                have HST := Lib.hid hst
                clear hst
                go_wp2
                go_quiet (first | (go_at_call 48; with_reducible exact Calls.quiet_of_same (HLG.out _)))
                go_wp2
                go_roundw
                case rel => exact ⟨k + 1, by omega, by go_num, HST.out, b0, b1, b2, HL.out.kept ((Chg.refl _ _).drewN nq), HCA.out.drewN nq⟩
                case measure => simp [intOf]; omega
              · have hne : ((L : Int) != log) = true := by simp [heq]
                have hD1 : D = false := by
                  rw [← HD.out]
                  refine decide_eq_false fun hh => ?_
                  have hat := hh.at k (by show k < cs.length; rw [HN.out]; exact hlt)
                  simp only [] at hat
                  rw [HQ.out] at hat
                  rcases HOKK.out.1 hat with h9 | h9
                  · exact absurd h9.2 (by simp)
                  · exact heq h9
                subst hD1
                go_wp2
                go_quiet (first | (go_at_call 48; with_reducible exact Calls.quiet_of_same (HLG.out _)))
                go_wp2
                go_ret
                exact ⟨rfl, HCA.out.drewN nq⟩
            · have hzb : ((nu : Int) == 0) = false := by simp; omega
              by_cases heq : (L : Int) = log
              · subst heq
                have hst : ∀ j, j < k + 1 → okL (L : Int) true (cs.getD j []) := fun j hj => by
                  by_cases hjk : j = k
                  · subst hjk; rw [HQ.out]; exact HOKK.out.2 (.inr rfl)
                  · exact HOK.out j (by omega)
                have HST := Lib.hid hst
                clear hst
                go_wp2
                go_quiet (first | (go_at_call 48; with_reducible exact Calls.quiet_of_same (HLG.out _)))
                go_wp2
                go_roundw
                case rel => exact ⟨k + 1, by omega, by go_num, HST.out, b0, b1, b2, HL.out.kept ((Chg.refl _ _).drewN nq), HCA.out.drewN nq⟩
                case measure => simp [intOf]; omega
              · have hne : ((L : Int) != log) = true := by simp [heq]
                have hD1 : D = false := by
                  rw [← HD.out]
                  refine decide_eq_false fun hh => ?_
                  have hat := hh.at k (by show k < cs.length; rw [HN.out]; exact hlt)
                  simp only [] at hat
                  rw [HQ.out] at hat
                  rcases HOKK.out.1 hat with h9 | h9
                  · exact absurd h9.2 (by simp)
                  · exact heq h9
                subst hD1
                go_wp2
                go_quiet (first | (go_at_call 48; with_reducible exact Calls.quiet_of_same (HLG.out _)))
                go_wp2
                go_ret
                exact ⟨rfl, HCA.out.drewN nq⟩
          · obtain rfl : k = n := by omega
            have hD1 : D = true := by
              rw [← HD.out]
              exact decide_eq_true ⟨⟨by show 1 ≤ log; omega, by show log ≤ 12; omega⟩, by show cs.length = 1; rw [HN.out]; exact HNL.out, right_take (m := ⟨log, true, cs⟩) HOK.out (by show k = cs.length; exact HN.out.symm)⟩
            subst hD1
            go_wp2
            go_ret
            exact ⟨rfl, HCA.out⟩
      · have hD1 : D = false := by rw [← HD.out]; exact decide_eq_false fun hh => by have := hh.2.1; simp only [] at this; rw [HN.out] at this; exact h3 (by simpa using this)
        subst hD1
        have h3b : ((n : Int) != 1) = true := by simp; omega
        have d1 : decide (log < 1) = false := decide_eq_false h1
        have d2 : decide (12 < log) = false := decide_eq_false h2
        clear h3
        go_enter Try.func34, Try.ntmps34
        go_wp2
        go_ret
        exact ⟨rfl, HCA.out⟩

set_option maxHeartbeats 2000000 in
theorem r16right_f (log : Int) (cs : List (List Int)) (cv : Value) (w : World) (h : RdLL w cv cs) (hf : Md.fit64 ⟨log, false, cs⟩) :
    Calls Try.prog 34 #[.agg #[.int .i64 log, .bool false, cv]] w fun e w' => e = .returned (.bool (decide (Md.right ⟨log, false, cs⟩))) ∧ Chg (fun _ => False) w w' := by
  obtain ⟨D, hD⟩ : ∃ D, decide (Md.right ⟨log, false, cs⟩) = D := ⟨_, rfl⟩
  rw [hD]
  have HD := Lib.hid hD
  obtain ⟨ao, cap, rfl⟩ := h.form
  have hca := Chg.alloc (fun _ => False) w (.cells #[.int .i64 log, .bool false, .slice ao cs.length cap] 24)
  have hnew := heap_alloc_new w (.cells #[.int .i64 log, .bool false, .slice ao cs.length cap] 24)
  have HL := Lib.hid (h.kept hca)
  obtain ⟨n, hn⟩ : ∃ n, cs.length = n := ⟨_, rfl⟩
  have HN := Lib.hid hn; have HF := Lib.hid hf
  have hnb : (n : Int) < 100000000000 := by have := hf.2.1; simp only [] at this; omega
  rw [hn] at hca hnew HL ⊢
  obtain ⟨W, hW⟩ : ∃ W, w.alloc (.cells #[.int .i64 log, .bool false, .slice ao n cap] 24) = W := ⟨_, rfl⟩
  rw [hW] at hca hnew HL
  have HCA := Lib.hid hca
  have b0 : W.cell? ⟨w.heap.size, 0, none⟩ = some (.int .i64 log) := by rw [cell_of_row _ _ 0 _ _ _ hnew]; rfl
  have b1 : W.cell? ⟨w.heap.size, 1, none⟩ = some (.bool false) := by rw [cell_of_row _ _ 1 _ _ _ hnew]; rfl
  have b2 : W.cell? ⟨w.heap.size, 2, none⟩ = some (.slice ao n cap) := by rw [cell_of_row _ _ 2 _ _ _ hnew]; rfl
  clear hD h hf hca hnew hn
  by_cases h1 : log < 1
  · have hD1 : D = false := by rw [← HD.out]; exact decide_eq_false fun hh => by have := hh.1.1; simp only [] at this; omega
    subst hD1
    go_enter Try.func34, Try.ntmps34
    go_wp2
    go_ret
    exact ⟨rfl, HCA.out⟩
  · by_cases h2 : 12 < log
    · have hD1 : D = false := by rw [← HD.out]; exact decide_eq_false fun hh => by have := hh.1.2; simp only [] at this; omega
      subst hD1
      go_enter Try.func34, Try.ntmps34
      go_wp2
      go_ret
      exact ⟨rfl, HCA.out⟩
    · by_cases h3 : n = 256
      · have hnI : (n : Int) = 256 := by omega
        have h3b : ((n : Int) != 256) = false := by simp [hnI]
        have d1 : decide (log < 1) = false := decide_eq_false h1
        have d2 : decide (12 < log) = false := decide_eq_false h2
        have HNL := Lib.hid h3
        clear h3 hnI
        go_enter Try.func34, Try.ntmps34
        go_wp2
        go_loopw [3] (fun o3 wr => ∃ k : Nat, k ≤ n ∧ o3 = .int .i64 (k : Int) ∧ (∀ j, j < k → okL log false (cs.getD j [])) ∧ wr.cell? ⟨w.heap.size, 0, none⟩ = some (.int .i64 log) ∧ wr.cell? ⟨w.heap.size, 1, none⟩ = some (.bool false) ∧ wr.cell? ⟨w.heap.size, 2, none⟩ = some (.slice ao n cap) ∧ RdLL wr (.slice ao n cap) cs ∧ Chg (fun _ => False) w wr) (fun o3 _ => n - (intOf o3).toNat)
        case atStart => exact ⟨0, Nat.zero_le _, rfl, fun j hj => by omega, b0, b1, b2, HL.out, HCA.out⟩
        case round =>
          clear b0 b1 b2 HL HCA hW
          obtain ⟨k, hk, rfl, hok, b0, b1, b2, hl, hc⟩ := hrel
          have HOK := Lib.hid hok; have HL := Lib.hid hl; have HCA := Lib.hid hc
          clear hok hl hc
          by_cases hlt : k < n
          · obtain ⟨g, off, u, rfl, hu1, hu2⟩ := HL.out.at k (by rw [HN.out]; exact hlt)
            have hfa := HF.out.at k (by show k < cs.length; rw [HN.out]; exact hlt)
            simp only [] at hfa
            have hlg := fun m' => r8log_all u (cs.getD k []) (wr.drewN m') (hu2.kept ((Chg.refl (fun _ => False) wr).drewN m') (by simp)) hfa.2
            have hlb := logI_le (totalI (cs.getD k []))
            have hokk : okL log false (cs.getD k []) ↔ (cs.getD k [] = [] ∧ false = false) ∨ ((logI (totalI (cs.getD k [])) : Nat) : Int) = log := Iff.rfl
            obtain ⟨au, cu, rfl⟩ := hu2.form
            obtain ⟨q, hq⟩ : ∃ q, cs.getD k [] = q := ⟨_, rfl⟩
            rw [hq] at hlg hlb hu1 hfa hokk
            have HQ := Lib.hid hq
            obtain ⟨nu, hnu⟩ : ∃ nu, q.length = nu := ⟨_, rfl⟩
            rw [hnu] at hlg hu1 hfa
            obtain ⟨L, hL⟩ : ∃ L, logI (totalI q) = L := ⟨_, rfl⟩
            rw [hL] at hlg hlb hokk
            have HLG := Lib.hid hlg; have HOKK := Lib.hid hokk; have HNU := Lib.hid hnu
            have hLb : (L : Int) ≤ 12 := by omega
            have hnub : (nu : Int) < 100000000000 := by have := hfa.1; omega
            have hkn : (k : Int) < (n : Int) := by omega
            clear hlg hlb hokk hfa hu2 hq hnu hL
            by_cases hz : nu = 0
            · subst hz
              have hst : ∀ j, j < k + 1 → okL log false (cs.getD j []) := fun j hj => by
                by_cases hjk : j = k
                · subst hjk; rw [HQ.out]; exact .inl ⟨List.eq_nil_of_length_eq_zero HNU.out, rfl⟩
                · exact HOK.out j (by omega)
              have HST := Lib.hid hst
              clear hst
              go_wp2
              go_roundw
              case rel => exact ⟨k + 1, by omega, by go_num, HST.out, b0, b1, b2, HL.out, HCA.out⟩
              case measure => simp [intOf]; omega
            · have hzb : ((nu : Int) == 0) = false := by simp; omega
              by_cases heq : (L : Int) = log
              · subst heq
                have hst : ∀ j, j < k + 1 → okL (L : Int) false (cs.getD j []) := fun j hj => by
                  by_cases hjk : j = k
                  · subst hjk; rw [HQ.out]; exact HOKK.out.2 (.inr rfl)
                  · exact HOK.out j (by omega)
                have HST := Lib.hid hst
                clear hst
                go_wp2
                go_quiet (first | (go_at_call 48; with_reducible exact Calls.quiet_of_same (HLG.out _)))
                go_wp2
                go_roundw
                case rel => exact ⟨k + 1, by omega, by go_num, HST.out, b0, b1, b2, HL.out.kept ((Chg.refl _ _).drewN nq), HCA.out.drewN nq⟩
                case measure => simp [intOf]; omega
              · have hne : ((L : Int) != log) = true := by simp [heq]
                have hD1 : D = false := by
                  rw [← HD.out]
                  refine decide_eq_false fun hh => ?_
                  have hat := hh.at k (by show k < cs.length; rw [HN.out]; exact hlt)
                  simp only [] at hat
                  rw [HQ.out] at hat
                  rcases HOKK.out.1 hat with h9 | h9
                  · exact hz (by rw [← HNU.out, h9.1]; rfl)
                  · exact heq h9
                subst hD1
                go_wp2
                go_quiet (first | (go_at_call 48; with_reducible exact Calls.quiet_of_same (HLG.out _)))
                go_wp2
                go_ret
                exact ⟨rfl, HCA.out.drewN nq⟩
          · obtain rfl : k = n := by omega
            have hD1 : D = true := by
              rw [← HD.out]
              exact decide_eq_true ⟨⟨by show 1 ≤ log; omega, by show log ≤ 12; omega⟩, by show cs.length = 256; rw [HN.out]; exact HNL.out, right_take (m := ⟨log, false, cs⟩) HOK.out (by show k = cs.length; exact HN.out.symm)⟩
            subst hD1
            go_wp2
            go_ret
            exact ⟨rfl, HCA.out⟩
      · have hD1 : D = false := by rw [← HD.out]; exact decide_eq_false fun hh => by have := hh.2.1; simp only [] at this; rw [HN.out] at this; exact h3 (by simpa using this)
        subst hD1
        have h3b : ((n : Int) != 256) = true := by simp; omega
        have d1 : decide (log < 1) = false := decide_eq_false h1
        have d2 : decide (12 < log) = false := decide_eq_false h2
        clear h3
        go_enter Try.func34, Try.ntmps34
        go_wp2
        go_ret
        exact ⟨rfl, HCA.out⟩

theorem r16right_any (v : Value) (m : Md) (w : World) (h : RdM w v m) (hf : m.fit64) : Calls Try.prog 34 #[v] w fun e w' => e = .returned (.bool (decide m.right)) ∧ Chg (fun _ => False) w w' := by
  obtain ⟨cv, rfl, h1⟩ := h
  obtain ⟨log, one, cs⟩ := m
  cases one with
  | true => exact r16right_t log cs cv w h1 hf
  | false => exact r16right_f log cs cv w h1 hf

end Go.Proofs.Ytokeoebhmjefoaa

/- What the document's own model (puncheonref16) tells: At, Few, Same, Fits. -/
namespace Go.Proofs.Ytokeoebhmjefoaa
open Go.RowKit

/-- a block that holds a model -/
def Mb (w : World) (g : Nat) (log : Int) (one : Bool) (cv : Value) : Prop := w.heap[g]? = some (.cells #[.int .i64 log, .bool one, cv] 24 (0, 0))
theorem Mb.kept {S : Nat → Prop} {w w' : World} {g : Nat} {log : Int} {one : Bool} {cv : Value} (h : Mb w g log one cv) (hc : Chg S w w') (hS : ¬ S g) : Mb w' g log one cv := (hc.block g (lt_of_block h) hS).trans h
theorem Mb.cells {w : World} {g : Nat} {log : Int} {one : Bool} {cv : Value} (h : Mb w g log one cv) : w.cell? ⟨g, 0, none⟩ = some (.int .i64 log) ∧ w.cell? ⟨g, 1, none⟩ = some (.bool one) ∧ w.cell? ⟨g, 2, none⟩ = some cv :=
  ⟨by rw [cell_of_row w g 0 _ _ _ h]; rfl, by rw [cell_of_row w g 1 _ _ _ h]; rfl, by rw [cell_of_row w g 2 _ _ _ h]; rfl⟩
theorem Mb.lt {w : World} {g : Nat} {log : Int} {one : Bool} {cv : Value} (h : Mb w g log one cv) : g < w.heap.size := lt_of_block h

theorem atL_not {m : Md} {c : Int} (h : ¬ (m.right ∧ 0 ≤ c ∧ c ≤ 255)) : m.atL c = [] := by unfold Md.atL; rw [if_neg h]
theorem atL_one {log : Int} {cs : List (List Int)} {c : Int} (h : Md.right ⟨log, true, cs⟩ ∧ 0 ≤ c ∧ c ≤ 255) : Md.atL ⟨log, true, cs⟩ c = cs.getD 0 [] := by unfold Md.atL; rw [if_pos h]; simp
theorem atL_ctx {log : Int} {cs : List (List Int)} {c : Int} (h : Md.right ⟨log, false, cs⟩ ∧ 0 ≤ c ∧ c ≤ 255) : Md.atL ⟨log, false, cs⟩ c = cs.getD c.toNat [] := by unfold Md.atL; rw [if_pos h]; simp

theorem atL_len (m : Md) (c : Int) (h : m.atL c ≠ []) : (m.atL c).length = 256 := by
  by_cases hr : m.right ∧ 0 ≤ c ∧ c ≤ 255
  · have hl : ∀ j, j < m.cs.length → m.cs.getD j [] ≠ [] → (m.cs.getD j []).length = 256 := fun j hj hne => by
      rcases hr.1.at j hj with ⟨h1, _⟩ | h1
      · exact absurd h1 hne
      · exact (log_right (by have := hr.1.1; omega)).2
    unfold Md.atL at h ⊢
    rw [if_pos hr] at h ⊢
    have hlen := hr.1.2.1
    by_cases ho : m.one = true
    · rw [if_pos ho] at h hlen ⊢
      exact hl 0 (by omega) h
    · rw [if_neg ho] at h hlen ⊢
      exact hl _ (by omega) h
  · exact absurd (atL_not hr) h

set_option maxHeartbeats 2000000 in
theorem r16at_any (v : Value) (m : Md) (c : Int) (w : World) (h : RdM w v m) (hf : m.fit64) : Calls Try.prog 23 #[v, .int .i64 c] w fun e w' => ∃ u, e = .returned u ∧ RdI w' u (m.atL c) ∧ Chg (fun _ => False) w w' := by
  obtain ⟨cv, rfl, h1⟩ := h
  obtain ⟨log, one, cs⟩ := m
  simp only [] at h1
  obtain ⟨ao, cap, rfl⟩ := h1.form
  have hca := Chg.alloc (fun _ => False) w (.cells #[.int .i64 log, .bool one, .slice ao cs.length cap] 24)
  have hnew : Mb _ _ log one (.slice ao cs.length cap) := heap_alloc_new w (.cells #[.int .i64 log, .bool one, .slice ao cs.length cap] 24)
  have hl := h1.kept hca
  obtain ⟨n, hn⟩ : ∃ n, cs.length = n := ⟨_, rfl⟩
  unfold mdv
  simp only []
  rw [hn] at hca hnew hl ⊢
  obtain ⟨W, hW⟩ : ∃ W, w.alloc (.cells #[.int .i64 log, .bool one, .slice ao n cap] 24) = W := ⟨_, rfl⟩
  rw [hW] at hca hnew hl
  have hrt := r16right_any (.agg #[.int .i64 log, .bool one, .slice ao n cap]) ⟨log, one, cs⟩ W ⟨_, rfl, hl⟩ hf
  obtain ⟨b0, b1, b2⟩ := hnew.cells
  have HRT := Lib.hid hrt; have HCA := Lib.hid hca; have HNEW := Lib.hid hnew; have HL := Lib.hid hl; have HN := Lib.hid hn
  clear h1 hf hca hnew hl hn hrt
  go_enter Try.func23, Try.ntmps23
  go_wp2_with fail
  refine HRT.out.mono ?_
  rintro e w2 ⟨rfl, hc2⟩
  have HC2 := Lib.hid (HCA.out.trans hc2 fun _ _ h => h); have HL2 := Lib.hid (HL.out.kept hc2)
  obtain ⟨e0, e1, e2⟩ := (HNEW.out.kept hc2 (by simp)).cells
  clear hc2 b0 b1 b2 hW HRT HNEW HCA HL
  by_cases hr : Md.right ⟨log, one, cs⟩
  · rw [decide_eq_true hr]
    by_cases hc0 : c < 0
    · have hat := atL_not (m := ⟨log, one, cs⟩) (c := c) (by omega)
      have HAT := Lib.hid hat
      clear hat hr
      go_wp2
      go_ret
      exact ⟨_, rfl, by rw [HAT.out]; exact .inl ⟨rfl, _, _, rfl⟩, HC2.out⟩
    · by_cases hc1 : 255 < c
      · have hat := atL_not (m := ⟨log, one, cs⟩) (c := c) (by omega)
        have HAT := Lib.hid hat
        clear hat hr
        go_wp2
        go_ret
        exact ⟨_, rfl, by rw [HAT.out]; exact .inl ⟨rfl, _, _, rfl⟩, HC2.out⟩
      · have d0 : decide (c < 0) = false := decide_eq_false hc0
        have d1 : decide (255 < c) = false := decide_eq_false hc1
        have hlen := hr.2.1
        simp only [] at hlen
        rw [HN.out] at hlen
        cases one with
        | true =>
          have hn1 : n = 1 := by simpa using hlen
          have hat := atL_one (c := c) ⟨hr, by omega, by omega⟩
          obtain ⟨g, off, u, rfl, hu1, hu2⟩ := HL2.out.at 0 (by rw [HN.out]; omega)
          rw [← hat] at hu2
          rw [Nat.add_zero] at hu1
          have HU2 := Lib.hid hu2
          have hnI : (0 : Int) < (n : Int) := by omega
          clear hat hr hu2 hlen hn1
          go_wp2
          go_ret
          exact ⟨_, rfl, HU2.out, HC2.out⟩
        | false =>
          have hn1 : n = 256 := by simpa using hlen
          have hat := atL_ctx (c := c) ⟨hr, by omega, by omega⟩
          obtain ⟨i, rfl⟩ : ∃ i : Nat, c = (i : Int) := ⟨c.toNat, by omega⟩
          rw [Int.toNat_natCast] at hat
          obtain ⟨g, off, u, rfl, hu1, hu2⟩ := HL2.out.at i (by rw [HN.out]; omega)
          rw [← hat] at hu2
          have HU2 := Lib.hid hu2
          have hnI : (i : Int) < (n : Int) := by omega
          have hnN : i < n := by omega
          clear hat hr hu2 hlen hn1
          go_wp2
          go_ret
          exact ⟨_, rfl, HU2.out, HC2.out⟩
  · rw [decide_eq_false hr]
    have hat := atL_not (m := ⟨log, one, cs⟩) (c := c) (fun hh => hr hh.1)
    have HAT := Lib.hid hat
    clear hat hr
    go_wp2
    go_ret
    exact ⟨_, rfl, by rw [HAT.out]; exact .inl ⟨rfl, _, _, rfl⟩, HC2.out⟩

/-- how many lists aren't empty -/
def nzL (cs : List (List Int)) : Nat := (cs.filter fun l => decide (0 < l.length)).length
theorem nzL_take (cs : List (List Int)) (k : Nat) (hk : k < cs.length) : nzL (cs.take (k + 1)) = nzL (cs.take k) + if 0 < (cs.getD k []).length then 1 else 0 := by
  unfold nzL
  rw [List.take_succ_eq_append_getElem hk, List.filter_append, List.length_append, List.getD_eq_getElem?_getD, List.getElem?_eq_getElem hk]
  simp only [Option.getD_some]
  split
  · next h => simp [h]
  · next h => simp [h]
theorem nzL_le (cs : List (List Int)) : nzL cs ≤ cs.length := List.length_filter_le ..
/-- lists of a number, and a length, that is looked at -/
def fewL (cs : List (List Int)) : Prop := (∀ j, j < cs.length → (cs.getD j []).length ≤ 300) ∧ cs.length ≤ 300 ∧ nzL cs ≤ 40
instance fewL_dec (cs : List (List Int)) : Decidable (fewL cs) := by unfold fewL; infer_instance

set_option maxHeartbeats 2000000 in
theorem r16few_any (v : Value) (m : Md) (w : World) (h : RdM w v m) (hf : m.fit64) : Calls Try.prog 10 #[v] w fun e w' => e = .returned (.bool (decide (fewL m.cs))) ∧ Chg (fun _ => False) w w' := by
  obtain ⟨cv, rfl, h1⟩ := h
  obtain ⟨log, one, cs⟩ := m
  have hf2 := hf.2
  simp only [] at h1 hf2 ⊢
  obtain ⟨D, hD⟩ : ∃ D, decide (fewL cs) = D := ⟨_, rfl⟩
  rw [hD]
  have HD := Lib.hid hD
  obtain ⟨ao, cap, rfl⟩ := h1.form
  have hca := Chg.alloc (fun _ => False) w (.cells #[.int .i64 log, .bool one, .slice ao cs.length cap] 24)
  have hnew : Mb _ _ log one (.slice ao cs.length cap) := heap_alloc_new w (.cells #[.int .i64 log, .bool one, .slice ao cs.length cap] 24)
  have hl := h1.kept hca
  obtain ⟨n, hn⟩ : ∃ n, cs.length = n := ⟨_, rfl⟩
  unfold mdv
  simp only []
  have hnb : (n : Int) < 100000000000 := by have := hf2.1; omega
  rw [hn] at hca hnew hl ⊢
  obtain ⟨W, hW⟩ : ∃ W, w.alloc (.cells #[.int .i64 log, .bool one, .slice ao n cap] 24) = W := ⟨_, rfl⟩
  rw [hW] at hca hnew hl
  obtain ⟨b0, b1, b2⟩ := hnew.cells
  have HCA := Lib.hid hca; have HL := Lib.hid hl; have HN := Lib.hid hn; have HF := Lib.hid hf
  clear h1 hf hf2 hca hnew hl hn hD
  go_enter Try.func10, Try.ntmps10
  go_wp2
  go_loopw [3, 4] (fun o3 o4 wr => ∃ k : Nat, k ≤ n ∧ o4 = .int .i64 (k : Int) ∧ o3 = .int .i64 ((nzL (cs.take k) : Nat) : Int) ∧ (∀ j, j < k → (cs.getD j []).length ≤ 300) ∧ wr = W) (fun _ o4 _ => n - (intOf o4).toNat)
  case atStart => exact ⟨0, Nat.zero_le _, rfl, rfl, fun j hj => by omega, rfl⟩
  case round =>
    obtain ⟨k, hk, rfl, rfl, hok, rfl⟩ := hrel
    have HOK := Lib.hid hok
    clear hok
    by_cases hlt : k < n
    · obtain ⟨g, off, u, rfl, hu1, hu2⟩ := HL.out.at k (by rw [HN.out]; exact hlt)
      have hfa := HF.out.at k (by show k < cs.length; rw [HN.out]; exact hlt)
      simp only [] at hfa
      have hst := nzL_take cs k (by rw [HN.out]; exact hlt)
      have hzb := nzL_le (cs.take k)
      rw [List.length_take, HN.out] at hzb
      obtain ⟨au, cu, rfl⟩ := hu2.form
      obtain ⟨nu, hnu⟩ : ∃ nu, (cs.getD k []).length = nu := ⟨_, rfl⟩
      rw [hnu] at hu1 hst hfa
      obtain ⟨z, hz⟩ : ∃ z, nzL (cs.take k) = z := ⟨_, rfl⟩
      rw [hz] at hst hzb ⊢
      have HNU := Lib.hid hnu; have HST := Lib.hid hst
      have hkn : (k : Int) < (n : Int) := by omega
      have hnub : (nu : Int) < 100000000000 := by have := hfa.1; omega
      have hzI : (z : Int) ≤ 100000000000 := by omega
      clear hfa hnu hst hzb hz hu2
      by_cases hbig : 300 < nu
      · have hD1 : D = false := by rw [← HD.out]; exact decide_eq_false fun hh => by have := hh.1 k (by rw [HN.out]; exact hlt); rw [HNU.out] at this; omega
        subst hD1
        have d1 : decide (300 < (nu : Int)) = true := decide_eq_true (by omega)
        clear hbig
        go_wp2
        go_ret
        exact ⟨rfl, HCA.out⟩
      · have d1 : decide (300 < (nu : Int)) = false := decide_eq_false (by omega)
        have hok2 : ∀ j, j < k + 1 → (cs.getD j []).length ≤ 300 := fun j hj => by
          by_cases hjk : j = k
          · subst hjk; rw [HNU.out]; omega
          · exact HOK.out j (by omega)
        have HOK2 := Lib.hid hok2
        clear hbig hok2
        by_cases hz0 : 0 < nu
        · have d2 : decide (0 < (nu : Int)) = true := decide_eq_true (by omega)
          have hst := HST.out
          rw [if_pos hz0] at hst
          have HST2 := Lib.hid hst
          clear hst
          go_wp2
          go_roundw
          case rel => exact ⟨k + 1, by omega, by go_num, by rw [HST2.out]; go_num, HOK2.out, trivial⟩
          case measure => simp [intOf]; omega
        · have hn0 : nu = 0 := by omega
          subst hn0
          have hst := HST.out
          rw [if_neg hz0, Nat.add_zero] at hst
          have HST2 := Lib.hid hst
          clear hst hz0 d1
          go_wp2
          go_roundw
          case rel => exact ⟨k + 1, by omega, by go_num, by rw [HST2.out]; rfl, HOK2.out, trivial⟩
          case measure => simp [intOf]; omega
    · obtain rfl : k = n := by omega
      rw [List.take_of_length_le (by rw [HN.out]; exact Nat.le_refl _)]
      have hzb := nzL_le cs
      rw [HN.out] at hzb
      have hDe : D = decide (k ≤ 300 ∧ nzL cs ≤ 40) := by
        rw [← HD.out]
        exact decide_eq_decide.2 ⟨fun hh => by have := hh.2; rw [HN.out] at this; exact this, fun hh => ⟨by rw [HN.out]; exact HOK.out, by rw [HN.out]; exact hh⟩⟩
      obtain ⟨z, hz⟩ : ∃ z, nzL cs = z := ⟨_, rfl⟩
      rw [hz] at hDe hzb ⊢
      have hzI : (z : Int) ≤ 100000000000 := by omega
      clear hlt hk hz hzb
      by_cases h3 : k ≤ 300
      · have d1 : decide ((k : Int) ≤ 300) = true := decide_eq_true (by omega)
        by_cases h4 : z ≤ 40
        · rw [decide_eq_true ⟨h3, h4⟩] at hDe
          subst hDe
          have d2 : decide ((z : Int) ≤ 40) = true := decide_eq_true (by omega)
          clear h3 h4
          go_wp2
          go_ret
          exact ⟨rfl, HCA.out⟩
        · rw [decide_eq_false (fun hh => h4 hh.2)] at hDe
          subst hDe
          have d2 : decide ((z : Int) ≤ 40) = false := decide_eq_false (by omega)
          clear h3 h4
          go_wp2
          go_ret
          exact ⟨rfl, HCA.out⟩
      · have d1 : decide ((k : Int) ≤ 300) = false := decide_eq_false (by omega)
        rw [decide_eq_false (fun hh => h3 hh.1)] at hDe
        subst hDe
        clear h3
        go_wp2
        go_ret
        exact ⟨rfl, HCA.out⟩

theorem lists_eq {a b : List (List Int)} (hl : a.length = b.length) (h : ∀ j, j < a.length → a.getD j [] = b.getD j []) : a = b := by
  apply List.ext_getElem hl
  intro i h1 h2
  have := h i h1
  rwa [List.getD_eq_getElem?_getD, List.getD_eq_getElem?_getD, List.getElem?_eq_getElem h1, List.getElem?_eq_getElem h2] at this
theorem md_eq_iff (a b : Md) : a = b ↔ a.log = b.log ∧ a.one = b.one ∧ a.cs = b.cs := by
  obtain ⟨a1, a2, a3⟩ := a
  obtain ⟨b1, b2, b3⟩ := b
  simp
instance md_dec (a b : Md) : Decidable (a = b) := decidable_of_iff _ (md_eq_iff a b).symm

end Go.Proofs.Ytokeoebhmjefoaa

/- What the document's own model (puncheonref16) tells: Fits. -/
namespace Go.Proofs.Ytokeoebhmjefoaa
open Go.RowKit

theorem r6at_nat (v : Value) (xs : List Nat) (k : Nat) (w : World) (h : RdB w v xs) (hx : ∀ x ∈ xs, x < 256) (hl : xs.length < 10000000000) (hk : k < xs.length) :
    Calls Try.prog 24 #[v, .int .i64 (k : Int)] w fun e w' => e = .returned (.int .i64 (((0 :: xs).getD k 0 : Nat) : Int)) ∧ Chg (fun _ => False) w w' := by
  have := r6at_any v xs (k : Int) w h hx hl (by omega)
  rw [atI_nat xs k hk] at this
  exact this

set_option maxHeartbeats 4000000 in
theorem r16fits_any (v u : Value) (m : Md) (xs : List Nat) (w : World) (h : RdM w v m) (hf : m.fit64) (hb : RdB w u xs) (hx : ∀ x ∈ xs, x < 256) (hl : xs.length < 10000000000) :
    Calls Try.prog 21 #[v, u] w fun e w' => e = .returned (.bool (decide (m.fits xs))) ∧ Chg (fun _ => False) w w' := by
  obtain ⟨cv, rfl, h1⟩ := h
  obtain ⟨D, hD⟩ : ∃ D, decide (m.fits xs) = D := ⟨_, rfl⟩
  rw [hD]
  have HD := Lib.hid hD
  have HM := Lib.hid (show ∀ W, RdLL W cv m.cs → Calls Try.prog 34 #[mdv m cv] W fun e w' => e = .returned (.bool (decide m.right)) ∧ Chg (fun _ => False) W w' from fun W hW => r16right_any _ m W ⟨cv, rfl, hW⟩ hf)
  have HAT := Lib.hid (show ∀ W (c : Int), RdLL W cv m.cs → Calls Try.prog 23 #[mdv m cv, .int .i64 c] W fun e w' => ∃ q, e = .returned q ∧ RdI w' q (m.atL c) ∧ Chg (fun _ => False) W w' from fun W c hW => r16at_any _ m c W ⟨cv, rfl, hW⟩ hf)
  obtain ⟨ab, capb, rfl⟩ := hb.form
  obtain ⟨MM, hMM⟩ : ∃ MM, m = MM := ⟨_, rfl⟩
  rw [hMM] at HM HAT HD
  obtain ⟨log, one, cs⟩ := m
  simp only [] at h1
  obtain ⟨ao, cap, rfl⟩ := h1.form
  have hca := Chg.alloc (fun _ => False) w (.cells #[.int .i64 log, .bool one, .slice ao cs.length cap] 24)
  have hnew : Mb _ _ log one (.slice ao cs.length cap) := heap_alloc_new w (.cells #[.int .i64 log, .bool one, .slice ao cs.length cap] 24)
  have hll := h1.kept hca
  have hbl := hb.kept hca (by simp)
  have hmdv : mdv MM (.slice ao cs.length cap) = .agg #[.int .i64 log, .bool one, .slice ao cs.length cap] := by rw [← hMM]; rfl
  have hcs : MM.cs = cs := by rw [← hMM]
  rw [hmdv, hcs] at HM HAT
  unfold mdv
  simp only []
  obtain ⟨n, hn⟩ : ∃ n, cs.length = n := ⟨_, rfl⟩
  rw [hn] at hca hnew hll hbl HM HAT ⊢
  obtain ⟨W, hW⟩ : ∃ W, w.alloc (.cells #[.int .i64 log, .bool one, .slice ao n cap] 24) = W := ⟨_, rfl⟩
  rw [hW] at hca hnew hll hbl
  obtain ⟨b0, b1, b2⟩ := hnew.cells
  obtain ⟨N, hNx⟩ : ∃ N, xs.length = N := ⟨_, rfl⟩
  rw [hNx] at hbl hl ⊢
  have HCA := Lib.hid hca; have HNEW := Lib.hid hnew; have HL := Lib.hid hll; have HB := Lib.hid hbl; have HN := Lib.hid hNx; have HX := Lib.hid hx
  have hNb : (N : Int) < 10000000000 := by omega
  clear h1 hf hca hnew hll hbl hn hNx hx hb hD hMM hmdv hcs hl
  go_enter Try.func21, Try.ntmps21
  go_wp2_with fail
  refine (HM.out W HL.out).mono ?_
  rintro e w2 ⟨rfl, hc2⟩
  have hcw := HCA.out.trans hc2 fun _ _ h => h
  have hnew2 := HNEW.out.kept hc2 (by simp)
  have hl2 := HL.out.kept hc2
  have hb2 := HB.out.kept hc2 (by simp)
  clear hc2 b0 b1 b2 hW HNEW HCA HL HB HM
  by_cases hr : MM.right
  · rw [decide_eq_true hr]
    have HR := Lib.hid hr
    obtain ⟨b0, b1, b2⟩ := hnew2.cells
    have HS := Lib.hid (show Mb w2 w.heap.size log one (.slice ao n cap) ∧ RdLL w2 (.slice ao n cap) cs ∧ RdB w2 (.slice ab N capb) xs ∧ Chg (fun _ => False) w w2 from ⟨hnew2, hl2, hb2, hcw⟩)
    clear hr hnew2 hl2 hb2 hcw b0 b1 b2
    go_wp2
    go_loopw [6] (fun o6 wr => ∃ k : Nat, k ≤ N ∧ o6 = .int .i64 (k : Int) ∧ (∀ j, j < k → MM.fitAt xs j) ∧ Mb wr w.heap.size log one (.slice ao n cap) ∧ RdLL wr (.slice ao n cap) cs ∧ RdB wr (.slice ab N capb) xs ∧ Chg (fun _ => False) w wr) (fun o6 _ => N - (intOf o6).toNat)
    case atStart => exact ⟨0, Nat.zero_le _, rfl, fun j hj => by omega, HS.out⟩
    case round =>
      clear HS
      obtain ⟨k, hk, rfl, hok, hmb, hl, hb, hc⟩ := hrel
      have HOK := Lib.hid hok
      clear hok
      by_cases hlt : k < N
      · obtain ⟨b0, b1, b2⟩ := hmb.cells
        have hxk : xs.getD k 0 < 256 := getD_lt xs HX.out k
        have h6 := r6at_nat _ xs k wr.drew (hb.kept ((Chg.refl (fun _ => False) wr).drew) (by simp)) HX.out (by rw [HN.out]; omega) (by rw [HN.out]; exact hlt)
        have hfe : MM.fitAt xs k ↔ (MM.atL (((0 :: xs).getD k 0 : Nat) : Int) ≠ [] ∧ (MM.atL (((0 :: xs).getD k 0 : Nat) : Int)).getD (xs.getD k 0) 0 ≠ 0) := Iff.rfl
        have hlen : MM.atL (((0 :: xs).getD k 0 : Nat) : Int) ≠ [] → (MM.atL (((0 :: xs).getD k 0 : Nat) : Int)).length = 256 := atL_len MM _
        obtain ⟨c, hce⟩ : ∃ c, (0 :: xs).getD k 0 = c := ⟨_, rfl⟩
        rw [hce] at h6 hfe hlen
        obtain ⟨ql, hql⟩ : ∃ ql, MM.atL (c : Int) = ql := ⟨_, rfl⟩
        obtain ⟨x, hxe⟩ : ∃ x, xs.getD k 0 = x := ⟨_, rfl⟩
        rw [hql, hxe] at hfe
        rw [hql] at hlen
        rw [hxe] at hxk
        have H6 := Lib.hid h6; have HFE := Lib.hid hfe; have HLEN := Lib.hid hlen; have HQL := Lib.hid hql; have HXE := Lib.hid hxe
        have HMB := Lib.hid hmb; have HL := Lib.hid hl; have HB := Lib.hid hb; have HC := Lib.hid hc
        have hkn : (k : Int) < (N : Int) := by omega
        have hxI : (x : Int) < 256 := by omega
        clear h6 hfe hlen hce hql hxe hmb hl hb hc
        go_wp2
        go_region_held3 (fun W => W.cell? ⟨w.heap.size, 0, none⟩ = some (.int .i64 log) ∧ W.cell? ⟨w.heap.size, 1, none⟩ = some (.bool one) ∧ W.cell? ⟨w.heap.size, 2, none⟩ = some (.slice ao n cap)) (first | exact ⟨b0, b1, b2⟩ | exact ⟨q0, q1, q2⟩ | exact ⟨r0, r1, r2⟩) (first
          | (go_at_call 24; refine (H6.out).mono ?_; rintro e w3 ⟨rfl, hc3⟩; have HC3 := Lib.hid ((Chg.refl (fun _ => False) wr).drew.trans hc3 fun _ _ h => h); obtain ⟨q0, q1, q2⟩ := (HMB.out.kept HC3.out (by simp)).cells; clear hc3)
          | (go_at_call 23; refine (HAT.out w3 (c : Int) (HL.out.kept HC3.out)).mono ?_; rintro e w4 ⟨q, rfl, hq4, hc4⟩; rw [HQL.out] at hq4; obtain ⟨aq, cq, rfl⟩ := hq4.form; have HC4 := Lib.hid (HC3.out.trans hc4 fun _ _ h => h); obtain ⟨r0, r1, r2⟩ := (HMB.out.kept HC4.out (by simp)).cells; have HQ4 := Lib.hid hq4; clear hc4 hq4))
        have hc5 := HC.out.trans HC4.out fun _ _ h => h
        have hmb5 := HMB.out.kept HC4.out (by simp)
        have hl5 := HL.out.kept HC4.out
        have hb5 := HB.out.kept HC4.out (by simp)
        have HS5 := Lib.hid (show Mb w4 w.heap.size log one (.slice ao n cap) ∧ RdLL w4 (.slice ao n cap) cs ∧ RdB w4 (.slice ab N capb) xs ∧ Chg (fun _ => False) w w4 from ⟨hmb5, hl5, hb5, hc5⟩)
        clear HC3 HC4 HC HMB HL HB b0 b1 b2 q0 q1 q2 r0 r1 r2 hc5 hmb5 hl5 hb5 H6
        by_cases hqz : ql = []
        · have hD1 : D = false := by
            rw [← HD.out]
            exact decide_eq_false fun hh => (HFE.out.1 (hh.2 k (by rw [HN.out]; exact hlt))).1 hqz
          subst hD1
          subst hqz
          go_wp2
          go_ret
          exact ⟨rfl, HS5.out.2.2.2⟩
        · have h256 := HLEN.out hqz
          obtain ⟨gq, oq, rfl, hcell⟩ := HQ4.out.at x (by rw [h256]; exact hxk)
          obtain ⟨gb, ob, rfl, hbc⟩ := HS5.out.2.2.1.at k (by rw [HN.out]; exact hlt)
          rw [HXE.out] at hbc
          rw [h256]
          have HQZ := Lib.hid hqz
          obtain ⟨z, hz⟩ : ∃ z, ql.getD x 0 = z := ⟨_, rfl⟩
          rw [hz] at hcell
          have HZ := Lib.hid hz
          clear hqz h256 hz
          by_cases hz0 : z = 0
          · have hD1 : D = false := by
              rw [← HD.out]
              exact decide_eq_false fun hh => (HFE.out.1 (hh.2 k (by rw [HN.out]; exact hlt))).2 (by rw [HZ.out]; exact hz0)
            subst hD1
            subst hz0
            go_wp2
            go_ret
            exact ⟨rfl, HS5.out.2.2.2⟩
          · have hst : ∀ j, j < k + 1 → MM.fitAt xs j := fun j hj => by
              by_cases hjk : j = k
              · subst hjk; exact HFE.out.2 ⟨HQZ.out, by rw [HZ.out]; exact hz0⟩
              · exact HOK.out j (by omega)
            have hzb : (z == 0) = false := by simp [hz0]
            have HST := Lib.hid hst
            clear hst
            go_wp2
            go_roundw
            case rel => exact ⟨k + 1, by omega, by go_num, HST.out, HS5.out⟩
            case measure => simp [intOf]; omega
      · obtain rfl : k = N := by omega
        have hD1 : D = true := by
          rw [← HD.out]
          exact decide_eq_true ⟨HR.out, by rw [HN.out]; exact HOK.out⟩
        subst hD1
        have HC := Lib.hid hc
        clear hmb hl hb hc
        go_wp2
        go_ret
        exact ⟨rfl, HC.out⟩
  · have hD1 : D = false := by rw [← HD.out]; exact decide_eq_false fun hh => hr hh.1
    subst hD1
    rw [decide_eq_false hr]
    have HC := Lib.hid hcw
    clear hr hnew2 hl2 hb2 hcw
    go_wp2
    go_ret
    exact ⟨rfl, HC.out⟩

end Go.Proofs.Ytokeoebhmjefoaa

/- What the document's own steps (puncheonref12) tell: Step, Many. -/
namespace Go.Proofs.Ytokeoebhmjefoaa
open Go.RowKit

/-- may the symbol s be encoded from the state x? -/
def eCan (q : List Int) (k : Nat) (x : Int) (s : Nat) : Prop := 0 ≤ x ∧ x < ((2 ^ k : Nat) : Int) ∧ 0 < fq q s
/-- what Step tells -/
def EncSays (q : List Int) (k : Nat) (x : Int) (s : Nat) (e : Ending) : Prop :=
  (¬ eCan q k x s → e = .returned (.tuple #[.int .i64 0, .int .i64 0, .int .u32 0, .bool false])) ∧
  (eCan q k x s → ∃ n, lefts (fq q s) (2 ^ k + x.toNat) n ∧ e = .returned (.tuple #[.int .i64 ((placeF (fq q) 256 s ((2 ^ k + x.toNat) / 2 ^ n) : Nat) : Int), .int .i64 (n : Int), .int .u32 (((2 ^ k + x.toNat) % 2 ^ n : Nat) : Int), .bool true]))
theorem EncSays.one {q : List Int} {k : Nat} {x : Int} {s : Nat} {e f : Ending} (h : EncSays q k x s e) (g : EncSays q k x s f) : e = f := by
  by_cases hc : eCan q k x s
  · obtain ⟨n, h1, h2⟩ := h.2 hc
    obtain ⟨m, g1, g2⟩ := g.2 hc
    rw [h2, g2, lefts_one h1 g1]
  · rw [h.1 hc, g.1 hc]

theorem low_step (y n : Nat) : y % 2 ^ (n + 1) = y % 2 ^ n + y / 2 ^ n % 2 * 2 ^ n := by
  rw [Nat.mod_pow_succ, Nat.mul_comm]
theorem div_step (y n : Nat) : y / 2 ^ (n + 1) = y / 2 ^ n / 2 := by rw [Nat.pow_succ, Nat.div_div_eq_div_mul]

set_option maxHeartbeats 2000000 in
theorem r12step_any (v : Value) (q : List Int) (k : Nat) (x : Int) (s : Nat) (w : World) (h : RdI w v q) (hq : NormQ q k) (hs : s < 256) (hx : -9223372036854775808 ≤ x ∧ x ≤ 9223372036854775807) :
    Calls Try.prog 25 #[v, .int .i64 x, .int .i64 (s : Int)] w fun e w' => EncSays q k x s e ∧ ∃ m, w' = w.drewN m := by
  have HLG := Lib.hid (r8log_any v q w h hq.bnd (by rw [hq.1]; omega))
  have hlog := hq.log
  rw [hlog] at HLG
  clear hlog
  obtain ⟨ao, cap, rfl⟩ := h.form
  obtain ⟨g, off, rfl, -⟩ := h.at s (by rw [hq.1]; exact hs)
  have hcell := hq.cell h s hs
  have hle := hq.le s
  have hsz := hq.size
  have hfl := f_le (f := fq q) (R := k) hq.sum hs
  have hsn : (s : Int) < (q.length : Int) := by rw [hq.1]; omega
  have HPL := Lib.hid fun (W : World) (hW : RdI W (.slice (some ⟨g, off, none⟩) q.length cap) q) (i : Nat) hi => r10place_any (.slice (some ⟨g, off, none⟩) q.length cap) q k s i W hW hq hs hi
  have hk12 := hq.2.2.2.2
  have hk64 : (k : Int) < 64 := by omega
  obtain ⟨F, hF⟩ : ∃ F, fq q s = F := ⟨_, rfl⟩
  rw [hF] at hcell hle hfl
  have HF := Lib.hid hF; have H := Lib.hid h
  obtain ⟨n, hn⟩ : ∃ n, q.length = n := ⟨_, rfl⟩
  rw [hn] at hsn HLG HPL H ⊢
  obtain ⟨L, hL⟩ : ∃ L, 2 ^ k = L := ⟨_, rfl⟩
  have hLI : (2 : Int) ^ k = (L : Int) := by rw [← hL]; simp
  rw [hL] at hsz hfl
  have HL := Lib.hid hL; have HFL := Lib.hid hfl
  have hL4 : (L : Int) ≤ 4096 := by omega
  clear hq hF h hn hL hfl hk12
  by_cases h1 : x < 0
  · have d1 : decide (x < 0) = true := decide_eq_true h1
    have hno : ¬ eCan q k x s := fun hh => by have := hh.1; omega
    have HNO := Lib.hid hno
    clear hno
    go_enter Try.func25, Try.ntmps25
    go_wp2_with fail
    refine HLG.out.mono ?_
    rintro e w1 ⟨rfl, rfl⟩
    go_wp2
    go_returns
    exact ⟨⟨fun _ => rfl, fun hh => absurd hh HNO.out⟩, 0, rfl⟩
  · have d1 : decide (x < 0) = false := decide_eq_false h1
    by_cases h2 : (L : Int) ≤ x
    · have d2 : decide ((L : Int) ≤ x) = true := decide_eq_true h2
      have hno : ¬ eCan q k x s := fun hh => by have := hh.2.1; rw [HL.out] at this; omega
      have HNO := Lib.hid hno
      clear hno
      go_enter Try.func25, Try.ntmps25
      go_wp2_with fail
      refine HLG.out.mono ?_
      rintro e w1 ⟨rfl, rfl⟩
      go_wp2
      go_returns
      exact ⟨⟨fun _ => rfl, fun hh => absurd hh HNO.out⟩, 0, rfl⟩
    · have d2 : decide ((L : Int) ≤ x) = false := decide_eq_false h2
      by_cases h3 : F = 0
      · have hno : ¬ eCan q k x s := fun hh => by have := hh.2.2; rw [HF.out] at this; omega
        have HNO := Lib.hid hno
        subst h3
        clear hno
        go_enter Try.func25, Try.ntmps25
        go_wp2_with fail
        refine HLG.out.mono ?_
        rintro e w1 ⟨rfl, rfl⟩
        go_wp2
        go_returns
        exact ⟨⟨fun _ => rfl, fun hh => absurd hh HNO.out⟩, 0, rfl⟩
      · have d3 : ((F : Int) == 0) = false := by simp; omega
        obtain ⟨x', rfl⟩ : ∃ x' : Nat, x = (x' : Int) := ⟨x.toNat, by omega⟩
        have hyes : eCan q k (x' : Int) s := ⟨by omega, by rw [HL.out]; omega, by rw [HF.out]; omega⟩
        have HYES := Lib.hid hyes
        obtain ⟨y, hy⟩ : ∃ y, L + x' = y := ⟨_, rfl⟩
        have hyI : (L : Int) + (x' : Int) = (y : Int) := by omega
        have hy8 : y < 8192 := by omega
        have hFy : F ≤ y := by have := HFL.out; omega
        have HY := Lib.hid hy; have HFY := Lib.hid hFy; have HY8 := Lib.hid hy8; have HF0 := Lib.hid h3
        have hyI8 : (y : Int) < 8192 := by omega
        have h2n : ¬ L ≤ x' := by omega
        clear hyes hy hFy h3 h1 h2 hy8
        go_enter Try.func25, Try.ntmps25
        go_wp2_with fail
        refine HLG.out.mono ?_
        rintro e w1 ⟨rfl, rfl⟩
        go_wp2
        go_loopw [11, 12, 13, 14] (fun o11 o12 o13 o14 wr => ∃ m : Nat, o11 = .int .i64 ((y / 2 ^ m : Nat) : Int) ∧ o12 = .int .i64 (m : Int) ∧ o13 = .int .i64 ((y % 2 ^ m : Nat) : Int) ∧ o14 = .int .i64 ((2 ^ m : Nat) : Int) ∧ F ≤ y / 2 ^ m ∧ wr = w1) (fun o11 _ _ _ _ => (intOf o11).toNat)
        case atStart => exact ⟨0, by simp, rfl, by simp [Nat.mod_one], by simp, by simpa using HFY.out, rfl⟩
        case round =>
          obtain ⟨m, rfl, rfl, rfl, rfl, hge, rfl⟩ := hrel
          have hls := low_step y m
          have hds := div_step y m
          have hps := two_pow_succ m
          have hdy := Nat.div_le_self y (2 ^ m)
          have hmy := Nat.mod_le y (2 ^ m)
          have hp1 := Nat.two_pow_pos m
          have hpy : 2 ^ m ≤ y := by
            by_cases hh : 2 ^ m ≤ y
            · exact hh
            · rw [Nat.div_eq_of_lt (by omega)] at hge; have := HF0.out; omega
          have hm13 : m < 13 := lt_of_pow (Nat.lt_of_le_of_lt hpy HY8.out)
          have hfin : y / 2 ^ m < 2 * F → lefts F y m := fun hh => ⟨hge, hh⟩
          obtain ⟨I, hI⟩ : ∃ I, y / 2 ^ m = I := ⟨_, rfl⟩
          obtain ⟨W, hW⟩ : ∃ W, y % 2 ^ m = W := ⟨_, rfl⟩
          obtain ⟨P, hP⟩ : ∃ P, 2 ^ m = P := ⟨_, rfl⟩
          rw [hI] at hls hds hdy hfin hge ⊢
          rw [hW] at hls hmy ⊢
          rw [hP] at hls hps hp1 hpy ⊢
          have hI8 : (I : Int) < 8192 := by omega
          have hW8 : (W : Int) < 8192 := by omega
          have hP8 : (P : Int) < 8192 := by have := HY8.out; omega
          have hmI : (m : Int) < 13 := by omega
          have HLS := Lib.hid hls; have HDS := Lib.hid hds; have HPS := Lib.hid hps; have HGE := Lib.hid hge; have HI := Lib.hid hI; have HW := Lib.hid hW; have HFIN := Lib.hid hfin
          clear hls hds hps hdy hmy hpy hm13 hfin hge hI hW hP
          by_cases hlt : I < 2 * F
          · have dl : decide (2 * (F : Int) ≤ (I : Int)) = false := decide_eq_false (by omega)
            have hpl := HPL.out wr H.out I (by omega)
            have HPL2 := Lib.hid hpl
            have hW32 : (W : Int) % 4294967296 = (W : Int) := by omega
            have HLT := Lib.hid hlt
            clear hpl hlt
            go_wp2_with fail
            refine HPL2.out.mono ?_
            rintro e w2 ⟨rfl, m2, rfl⟩
            go_wp2
            go_returns
            refine ⟨⟨fun hh => absurd HYES.out hh, fun _ => ⟨m, ?_, ?_⟩⟩, m2, rfl⟩
            · rw [HF.out, HL.out, Int.toNat_natCast, HY.out]; exact HFIN.out HLT.out
            · rw [HL.out, Int.toNat_natCast, HY.out, HI.out, HW.out]
          · have dl : decide (2 * (F : Int) ≤ (I : Int)) = true := decide_eq_true (by omega)
            obtain ⟨b, hb⟩ : ∃ b, I % 2 = b := ⟨_, rfl⟩
            obtain ⟨I2, hI2⟩ : ∃ I2, I / 2 = I2 := ⟨_, rfl⟩
            have hbT : (I : Int).tmod 2 = (b : Int) := by rw [Int.tmod_eq_emod_of_nonneg (by omega)]; omega
            have hI2T : (I : Int).tdiv 2 = (I2 : Int) := by rw [Int.tdiv_eq_ediv_of_nonneg (by omega)]; omega
            obtain ⟨Q, hQ⟩ : ∃ Q, b * P = Q := ⟨_, rfl⟩
            have hQI : (b : Int) * (P : Int) = (Q : Int) := by rw [← hQ]; simp
            have hQP : Q ≤ P := by rw [← hQ]; have : b = 0 ∨ b = 1 := by omega
                                   rcases this with h | h <;> rw [h] <;> omega
            have hls := HLS.out
            rw [hb, hQ] at hls
            have HLS2 := Lib.hid hls
            have hds := HDS.out
            rw [hI2] at hds
            have HDS2 := Lib.hid hds
            have hmeas : I2 < I := by have := HF0.out; omega
            have hge2 : F ≤ I2 := by omega
            have HME := Lib.hid hmeas; have HG2 := Lib.hid hge2
            clear hls hds hb hI2 hQ HLS HDS hlt HFIN hmeas hge2
            have hQ8 : (Q : Int) < 8192 := by omega
            have hwI2 : wrap64 (I2 : Int) = (I2 : Int) := by have := HME.out; unfold wrap64; omega
            go_wp2
            go_roundw
            case rel => exact ⟨m + 1, by rw [HDS2.out, hwI2], by go_num, by rw [HLS2.out]; go_num, by rw [HPS.out]; go_num, by rw [HDS2.out]; exact HG2.out, trivial⟩
            case measure => rw [hwI2]; simp [intOf]; exact HME.out

end Go.Proofs.Ytokeoebhmjefoaa

/- What puncheonlaw01.put does: a Writer with all parts. -/
namespace Go.Proofs.Ytokeoebhmjefoaa
open Go.RowKit

end Go.Proofs.Ytokeoebhmjefoaa

/- What bitw's Bytes tells: memory of its own. -/
namespace Go.Proofs.Ytokeoebhmjefoaa
open Go.RowKit

end Go.Proofs.Ytokeoebhmjefoaa

/- What puncheonlaw01.awake tells: the chapter's example holds. -/
namespace Go.Proofs.Ytokeoebhmjefoaa
open Go.RowKit

theorem ex_bits : putB (putB [] 5 3) 1 2 = [true, false, true, true, false] := by decide
theorem ex_pack : pack [true, false, true, true, false] = [13] := by decide
theorem ex_close : pack ([true, false, true, true, false] ++ [true]) = [45] := by decide
theorem str13 : ((strB [13]).toList == [13]) = true := by decide +kernel
theorem str45 : ((strB [45]).toList == [45]) = true := by decide +kernel

end Go.Proofs.Ytokeoebhmjefoaa

/- puncheonlaw01.put's end, with the footprint named. -/
namespace Go.Proofs.Ytokeoebhmjefoaa
open Go.RowKit

end Go.Proofs.Ytokeoebhmjefoaa

/- The walk of BitwMark: it answers true, and nothing that was there has turned. -/
namespace Go.Proofs.Ytokeoebhmjefoaa
open Go.RowKit

end Go.Proofs.Ytokeoebhmjefoaa

/- What the document's own Put, Bytes and Close (puncheonref01) tell. -/
namespace Go.Proofs.Ytokeoebhmjefoaa
open Go.RowKit


/-- The value is a slice of the bits bs, in a row of the call's own (or nil). -/
def Bools (w : World) (v : Value) (bs : List Bool) : Prop := ∃ base, w.ownsRow base 4 1 v bs.length (bl bs)


set_option maxHeartbeats 1000000 in
theorem rput_any (v : Value) (bs : List Bool) (u n : Nat) (w : World) (h : Bools w v bs) (hlen : bs.length < 1000000) (hn : n ≤ 24) (hu : u < 4294967296) :
    Calls Try.prog 26 #[v, .int .u32 (u : Int), .int .i64 (n : Int)] w fun e w' => ∃ v', e = .returned v' ∧ w'.ownsRow w.heap.size 4 1 v' (bs ++ bitsOf u n).length (bl (bs ++ bitsOf u n)) ∧ Chg (fun _ => False) w w' := by
  obtain ⟨base, hown⟩ := h
  obtain ⟨i, hi, hz0, hz1, hz2⟩ := info_parts Try.infoBool
  rcases hown.2 with ⟨rfl, h0⟩ | ⟨g, cap, cur, rfl, hb, hg, hrest⟩
  · have hbs : bs = [] := List.eq_nil_of_length_eq_zero h0
    have HOWN : Hid ((w.alloc (.cells #[] 4)).ownsRow w.heap.size 4 1 (.slice (some ⟨w.heap.size, 0, none⟩) 0 0) bs.length (bl bs)) := by
      rw [hbs]; exact World.ownsRow_made w #[] 0 (Nat.le_refl _) (by unfold maxLen; omega) rfl
    clear hbs h0 hown
    have HCHG : Hid (Chg (fun _ => False) w (w.alloc (.cells #[] 4))) := Chg.alloc _ w _
    go_enter Try.func26, Try.ntmps26
    go_wp2
    go_loopw [7, 8, 1] (fun o7 o8 o1 wr => ∃ k : Nat, k ≤ n ∧ o8 = .int .i64 (k : Int) ∧ o1 = .int .u32 ((u / 2 ^ k : Nat) : Int) ∧ wr.ownsRow w.heap.size 4 1 o7 (bs.length + k) (bl (bs ++ bitsOf u k)) ∧ Chg (fun _ => False) w wr) (fun _ o8 _ _ => n - (intOf o8).toNat)
    case atStart => exact ⟨0, Nat.zero_le _, rfl, by simp, by simpa [bitsOf] using HOWN.out, HCHG.out⟩
    case round =>
      obtain ⟨k, hk, rfl, rfl, ho, hc⟩ := hrel
      by_cases hlt : k < n
      · have hd := Nat.div_le_self u (2 ^ k)
        have hsz := hc.size
        have hb2 : u / 2 ^ k / 2 = u / 2 ^ (k + 1) := by rw [Nat.div_div_eq_div_mul, Nat.pow_succ]
        have hbit : ((((u / 2 ^ k : Nat) : Int) % 2 == 1)) = decide (u / 2 ^ k % 2 = 1) := by
          rw [Bool.eq_iff_iff]; generalize u / 2 ^ k = y; simp; omega
        have hsn : bl (bs ++ bitsOf u k) ++ [.bool (decide (u / 2 ^ k % 2 = 1))] = bl (bs ++ bitsOf u (k + 1)) := by simp [bl, bitsOf]
        have HS := Lib.hid hsn; have HB2 := Lib.hid hb2; have HBit := Lib.hid hbit
        clear hsn hb2 hbit
        generalize hy : u / 2 ^ k = y at *
        have HY := Lib.hid hy
        clear hy
        go_wp2_with (at_builtin; refine wpList_append_own _ rfl (.tmp 17) (.tmp 21) 31 rfl w.heap.size 4 i (.bool false) 1 1 Try.underlying31 hi hz0 hz1 hz2 rfl (by decide) _ (bs.length + k) _ rfl (ho.alloc _) ⟨wr.heap.size, 0, none⟩ 1 1 _ rfl rfl (cell_one_new _ _ _) ?_ (by unfold maxLen; omega) (by omega) (by simp; omega) ?_)
        · intro x hx; simp at hx; subst hx; rfl
        intro v' w1 ho1 hg1 _
        have hc1 : Chg (fun _ => False) w w1 := (hc.trans (Chg.alloc (fun _ => False) wr _) (fun _ _ h => h)).trans (Chg.of_grown hg1) (fun j hj hx => by have := (ho.lt j hx.symm).1; omega)
        rw [HBit.out, HS.out] at ho1
        clear hg1 ho hc
        go_wp2
        go_roundw
        case rel => exact ⟨k + 1, by omega, by go_num, by rw [← HB2.out]; go_num, ho1, hc1⟩
        case measure => simp [intOf]; omega
      · obtain rfl : k = n := by omega
        go_wp2
        go_ret
        exact ⟨_, rfl, by simpa [bitsOf_length] using ho, hc⟩
  · have HG := Lib.hid hg; have HR := Lib.hid hrest
    have hgl := lt_of_block hg
    have hcells := (hown.alloc (.cells #[] 4)).cells (g := g) rfl
    have HCE := Lib.hid hcells
    clear hg hrest hcells
    go_enter Try.func26, Try.ntmps26
    go_wp2_with (at_builtin; refine wpList_append_own _ rfl (.tmp 9) (.tmp 10) 31 rfl w.heap.size 4 i (.bool false) 1 1 Try.underlying31 hi hz0 hz1 hz2 rfl (by decide) _ 0 _ rfl (World.ownsRow_made w #[] 0 (Nat.le_refl _) (by unfold maxLen; omega) rfl) ⟨g, 0, none⟩ bs.length cap (bl bs) rfl (by rw [bl_length, Nat.mul_one]) HCE.out (bl_one bs) (by unfold maxLen; omega) (by omega) (by simp) ?_)
    intro v7 w7 ho7 hg7 _
    have hc7 : Chg (fun _ => False) w w7 := (Chg.alloc (fun _ => False) w _).trans (Chg.of_grown hg7) (fun j hj hx => by simp [Value.ownBlock] at hx; omega)
    have HOWN := Lib.hid ho7
    have HCHG := Lib.hid hc7
    clear ho7 hc7 hg7
    go_wp2
    go_loopw [7, 8, 1] (fun o7 o8 o1 wr => ∃ k : Nat, k ≤ n ∧ o8 = .int .i64 (k : Int) ∧ o1 = .int .u32 ((u / 2 ^ k : Nat) : Int) ∧ wr.ownsRow w.heap.size 4 1 o7 (bs.length + k) (bl (bs ++ bitsOf u k)) ∧ Chg (fun _ => False) w wr) (fun _ o8 _ _ => n - (intOf o8).toNat)
    case atStart => exact ⟨0, Nat.zero_le _, rfl, by simp, by simpa [bitsOf] using HOWN.out, HCHG.out⟩
    case round =>
      obtain ⟨k, hk, rfl, rfl, ho, hc⟩ := hrel
      by_cases hlt : k < n
      · have hd := Nat.div_le_self u (2 ^ k)
        have hsz := hc.size
        have hb2 : u / 2 ^ k / 2 = u / 2 ^ (k + 1) := by rw [Nat.div_div_eq_div_mul, Nat.pow_succ]
        have hbit : ((((u / 2 ^ k : Nat) : Int) % 2 == 1)) = decide (u / 2 ^ k % 2 = 1) := by
          rw [Bool.eq_iff_iff]; generalize u / 2 ^ k = y; simp; omega
        have hsn : bl (bs ++ bitsOf u k) ++ [.bool (decide (u / 2 ^ k % 2 = 1))] = bl (bs ++ bitsOf u (k + 1)) := by simp [bl, bitsOf]
        have HS := Lib.hid hsn; have HB2 := Lib.hid hb2; have HBit := Lib.hid hbit
        clear hsn hb2 hbit
        generalize hy : u / 2 ^ k = y at *
        have HY := Lib.hid hy
        clear hy
        go_wp2_with (at_builtin; refine wpList_append_own _ rfl (.tmp 17) (.tmp 21) 31 rfl w.heap.size 4 i (.bool false) 1 1 Try.underlying31 hi hz0 hz1 hz2 rfl (by decide) _ (bs.length + k) _ rfl (ho.alloc _) ⟨wr.heap.size, 0, none⟩ 1 1 _ rfl rfl (cell_one_new _ _ _) ?_ (by unfold maxLen; omega) (by omega) (by simp; omega) ?_)
        · intro x hx; simp at hx; subst hx; rfl
        intro v' w1 ho1 hg1 _
        have hc1 : Chg (fun _ => False) w w1 := (hc.trans (Chg.alloc (fun _ => False) wr _) (fun _ _ h => h)).trans (Chg.of_grown hg1) (fun j hj hx => by have := (ho.lt j hx.symm).1; omega)
        rw [HBit.out, HS.out] at ho1
        clear hg1 ho hc
        go_wp2
        go_roundw
        case rel => exact ⟨k + 1, by omega, by go_num, by rw [← HB2.out]; go_num, ho1, hc1⟩
        case measure => simp [intOf]; omega
      · obtain rfl : k = n := by omega
        go_wp2
        go_ret
        exact ⟨_, rfl, by simpa [bitsOf_length] using ho, hc⟩

/-- bytes of the first i bits, in as many bytes as all bits need -/
def packTo (bs : List Bool) (i : Nat) : List Nat := (List.range ((bs.length + 7) / 8)).map (byteAt (bs.take i))
theorem packTo_length (bs : List Bool) (i : Nat) : (packTo bs i).length = (bs.length + 7) / 8 := by simp [packTo]
theorem packTo_all (bs : List Bool) : packTo bs bs.length = pack bs := by simp [packTo, pack]
theorem packTo_zero (bs : List Bool) : packTo bs 0 = List.replicate ((bs.length + 7) / 8) 0 := by
  apply List.ext_getElem (by simp [packTo])
  intro j h1 h2
  simp [packTo, byteAt, val]
theorem packTo_get (bs : List Bool) (i j : Nat) (h : j < (bs.length + 7) / 8) : (packTo bs i).getD j 0 = byteAt (bs.take i) j := by
  simp [packTo, h]
theorem take_len_le (bs : List Bool) (i : Nat) (h : i ≤ bs.length) : (bs.take i).length = i := by simp; omega
theorem packTo_lt (bs : List Bool) (i : Nat) (h : i < bs.length) : (packTo bs i).getD (i / 8) 0 < 2 ^ (i % 8) := by
  rw [packTo_get _ _ _ (by omega)]
  have := byteAt_last_lt (bs.take i)
  rwa [take_len_le bs i (by omega)] at this
theorem packTo_succ (bs : List Bool) (i : Nat) (h : i < bs.length) : packTo bs (i + 1) = (packTo bs i).set (i / 8) ((packTo bs i).getD (i / 8) 0 + (bs[i]).toNat * 2 ^ (i % 8)) := by
  have ht := take_len_le bs i (by omega)
  have hsn := byteAt_snoc (bs.take i) bs[i]
  rw [ht] at hsn
  have e : bs.take (i + 1) = bs.take i ++ [bs[i]] := List.take_succ_eq_append_getElem h
  apply List.ext_getElem (by simp [packTo])
  intro j h1 h2
  have hj : j < (bs.length + 7) / 8 := by rw [packTo_length] at h1; exact h1
  by_cases hji : j = i / 8
  · subst hji
    rw [List.getElem_set_self, packTo_get _ _ _ hj]
    simp only [packTo, List.getElem_map, List.getElem_range]
    rw [e, hsn]
  · rw [List.getElem_set_ne (by omega)]
    simp only [packTo, List.getElem_map, List.getElem_range]
    rw [e]
    by_cases hlt : j < i / 8
    · rw [byteAt_append_left _ _ _ (by rw [ht]; omega)]
    · unfold byteAt
      rw [List.drop_eq_nil_of_le (by rw [List.length_append, ht]; simp; omega), List.drop_eq_nil_of_le (by rw [ht]; omega)]

theorem add_u8 (x k : Nat) (hk : k < 8) (hx : x < 2 ^ k) : ((x : Int) + 2 ^ k) % 256 = ((x + 2 ^ k : Nat) : Int) := by
  have h2 : 2 ^ k ≤ 2 ^ 7 := Nat.pow_le_pow_right (by omega) (by omega)
  have e : ((2 : Int) ^ k) = ((2 ^ k : Nat) : Int) := by simp
  rw [e]
  generalize 2 ^ k = y at *
  omega


set_option maxHeartbeats 1000000 in
theorem rbytes_any (v : Value) (bs : List Bool) (w : World) (h : Bools w v bs) (hlen : bs.length < 1000000) :
    Calls Try.prog 47 #[v] w fun e w' => Fresh w (pack bs) e w' := by
  obtain ⟨base, hown⟩ := h
  obtain ⟨i, hi, hz0, hz1, hz2⟩ := info_parts Try.infoU8
  obtain ⟨ao, cap, rfl, hsrc⟩ := own_src hown
  have hby : i.bytes * ((bs.length + 7) / 8) ≤ 281474976710656 := by rw [hz2]; omega
  have HS := Lib.hid hsrc
  clear hsrc
  go_enter Try.func47, Try.ntmps47
  go_wp2_with (at_make; refine wpList_make_full _ rfl (.tmp 8) (.tmp 8) 25 rfl w.heap.size 5 i (.int .u8 0) 1 Try.underlying25 hi hz0 hz1 .i64 .i64 _ _ ((bs.length + 7) / 8) rfl rfl (by omega) (by omega) hby (by unfold maxLen; omega) (Nat.le_refl _) ?_)
  intro w1 hown1 hgrow1
  rw [zeros_bv, ← packTo_zero] at hown1
  have hc1 : Chg (fun _ => False) w w1 := (Chg.of_grown hgrow1).mono fun k _ hk => by simp at hk
  clear hgrow1
  go_wp2
  go_loopw [4] (fun o4 wr => ∃ k : Nat, k ≤ bs.length ∧ o4 = .int .i64 (k : Int) ∧ wr.ownsRow w.heap.size 5 1 (.slice (some ⟨w.heap.size, 0, none⟩) ((bs.length + 7) / 8) ((bs.length + 7) / 8)) ((bs.length + 7) / 8) (bv (packTo bs k)) ∧ Chg (fun _ => False) w wr) (fun o4 _ => bs.length - (intOf o4).toNat)
  case atStart => exact ⟨0, Nat.zero_le _, rfl, hown1, hc1⟩
  case round =>
    obtain ⟨k, hk, rfl, ho, hc⟩ := hrel
    clear hown1 hc1
    by_cases hlt : k < bs.length
    · have hownr := hc.own hown (fun _ _ => by simp)
      obtain ⟨_, _, hv1, hsr⟩ := own_src hownr
      simp only [Value.slice.injEq, true_and] at hv1
      obtain ⟨rfl, rfl⟩ := hv1
      obtain ⟨g, cap', hg, _⟩ := slice_of_own hownr (by omega)
      simp only [Value.slice.injEq, true_and] at hg
      obtain ⟨rfl, rfl⟩ := hg
      have hcell := hownr.cellAt k (by omega)
      rw [bl_get bs k hlt] at hcell
      have hs1 := packTo_succ bs k hlt
      have hlt2 := packTo_lt bs k hlt
      have hb := ho.cellAt (k / 8) (by omega)
      rw [bv_get _ _ (by rw [packTo_length]; omega)] at hb
      have hfr := ho.frozenAt (k / 8)
      have hadd := add_u8 _ (k % 8) (by omega) hlt2
      have hst := ho.stored (k / 8) (.int .u8 (((packTo bs k).getD (k / 8) 0 + 2 ^ (k % 8) : Nat) : Int))
      rw [bv_set] at hst
      cases hbk : bs[k]
      · rw [hbk] at hs1 hcell
        simp only [Bool.toNat_false, Nat.zero_mul, Nat.add_zero] at hs1
        have hs2 : packTo bs (k + 1) = packTo bs k := by
          rw [hs1]
          have hl : k / 8 < (packTo bs k).length := by rw [packTo_length]; omega
          rw [List.getD_eq_getElem?_getD, List.getElem?_eq_getElem hl]; simp
        have HS2 := Lib.hid hs2
        clear hs1 hs2 hst hadd hbk hlt2 hownr hsr
        go_wp2
        go_roundw
        case rel => exact ⟨k + 1, by omega, by go_num, by rw [HS2.out]; exact ho, hc⟩
        case measure => simp [intOf]; omega
      · rw [hbk] at hs1 hcell
        simp only [Bool.toNat_true, Nat.one_mul] at hs1
        rw [← hs1] at hst
        generalize hx : (packTo bs k).getD (k / 8) 0 = x at *
        have hst1 := hst.1
        have hc2 : Chg (fun _ => False) w (wr.setCell ⟨w.heap.size, k / 8, none⟩ (.int .u8 ((x + 2 ^ (k % 8) : Nat) : Int))) := hc.trans (Chg.setCell wr ⟨w.heap.size, k / 8, none⟩ _) (fun j hj h => by simp at h; omega)
        have hx2 : 2 ^ (k % 8) ≤ 2 ^ 7 := Nat.pow_le_pow_right (by omega) (by omega)
        have hx256 : x < 256 := by omega
        have HA := Lib.hid hadd; have HST := Lib.hid hst1; have HC2 := Lib.hid hc2
        clear hs1 hst hst1 hc2 hbk hlt2 hownr hsr hx hadd hx2
        go_wp2
        go_region
        go_wp2
        go_roundw
        case rel =>
          refine ⟨k + 1, by omega, by go_num, ?_, ?_⟩
          · rw [HA.out]; exact HST.out.drew
          · rw [HA.out]; exact HC2.out.drew
        case measure => simp [intOf]; omega
    · obtain rfl : k = bs.length := by omega
      rw [packTo_all] at ho
      go_wp2
      go_ret
      exact ⟨w.heap.size, (bs.length + 7) / 8, by rw [pack_length]; rfl, by rw [pack_length]; exact ho, hc⟩

set_option maxHeartbeats 1000000 in
theorem rclose_any (v : Value) (bs : List Bool) (w : World) (h : Bools w v bs) (hlen : bs.length < 900000) :
    Calls Try.prog 22 #[v] w fun e w' => ∃ w1, Chg (fun _ => False) w w1 ∧ Fresh w1 (pack (bs ++ [true])) e w' := by
  obtain ⟨base, hown⟩ := h
  obtain ⟨i, hi, hz0, hz1, hz2⟩ := info_parts Try.infoBool
  have hsn : bl bs ++ [.bool true] = bl (bs ++ [true]) := by simp [bl]
  have HSN := Lib.hid hsn
  clear hsn
  rcases hown.2 with ⟨rfl, h0⟩ | ⟨g, cap, cur, rfl, hb, hg, hrest⟩
  · have hbs : bs = [] := List.eq_nil_of_length_eq_zero h0
    have HB := Lib.hid hbs
    have ho1 : (w.alloc (.cells #[] 4)).ownsRow w.heap.size 4 1 (.slice (some ⟨w.heap.size, 0, none⟩) 0 0) 0 [] := World.ownsRow_made w #[] 0 (Nat.le_refl _) (by unfold maxLen; omega) rfl
    have HO1 := Lib.hid ho1
    clear hbs h0 hown ho1
    go_enter Try.func22, Try.ntmps22
    go_wp2_with (at_builtin; refine wpList_append_own _ rfl (.tmp 5) (.tmp 6) 31 rfl w.heap.size 4 i (.bool false) 1 1 Try.underlying31 hi hz0 hz1 hz2 rfl (by decide) _ 0 _ rfl (HO1.out.alloc _) ⟨w.heap.size + 1, 0, none⟩ 1 1 [.bool true] rfl rfl ?c1 ?c2 (by unfold maxLen; omega) (by omega) (by simp; omega) ?_)
    case c1 => intro j u hj; have := cell_one_new (w.alloc (.cells #[] 4)) (.bool true) 4 j u hj; rwa [World.size_alloc] at this
    case c2 => intro x hx; simp at hx; subst hx; rfl
    intro v2 w2 ho2 hg2 _
    have hc2 : Chg (fun _ => False) w w2 := ((Chg.alloc (fun _ => False) w _).trans (Chg.alloc (fun _ => False) _ _) (fun _ _ h => h)).trans (Chg.of_grown hg2) (fun j hj hx => by simp [Value.ownBlock] at hx; omega)
    have hbl : Bools w2 v2 (bs ++ [true]) := by
      rw [HB.out]
      exact ⟨w.heap.size, by simpa [bl] using ho2⟩
    clear ho2 hg2
    go_wp2_with fail
    refine (rbytes_any v2 (bs ++ [true]) w2 hbl (by simp; omega)).mono ?_
    rintro e w3 hf
    obtain ⟨g3, cap3, rfl, r3, hc3⟩ := hf
    go_wp2
    go_ret
    exact ⟨w2, hc2, g3, cap3, rfl, r3, hc3⟩
  · have HG := Lib.hid hg; have HR := Lib.hid hrest
    have hgl := lt_of_block hg
    have hcells := (hown.alloc (.cells #[] 4)).cells (g := g) rfl
    have HCE := Lib.hid hcells
    clear hg hrest hcells
    have tok1 : True := trivial
    go_enter Try.func22, Try.ntmps22
    go_wp2_with (at_builtin; have _t := tok1; refine wpList_append_own _ rfl (.tmp 3) (.tmp 4) 31 rfl w.heap.size 4 i (.bool false) 1 1 Try.underlying31 hi hz0 hz1 hz2 rfl (by decide) _ 0 _ rfl (World.ownsRow_made w #[] 0 (Nat.le_refl _) (by unfold maxLen; omega) rfl) ⟨g, 0, none⟩ bs.length cap (bl bs) rfl (by rw [bl_length, Nat.mul_one]) HCE.out (bl_one bs) (by unfold maxLen; omega) (by omega) (by simp) ?_; clear tok1)
    intro v7 w7 ho7 hg7 _
    have hc7 : Chg (fun _ => False) w w7 := (Chg.alloc (fun _ => False) w _).trans (Chg.of_grown hg7) (fun j hj hx => by simp [Value.ownBlock] at hx; omega)
    have HC7 := Lib.hid hc7
    have z7 := hc7.size
    clear hc7 hg7
    go_wp2_with (at_builtin; refine wpList_append_own _ rfl (.tmp 5) (.tmp 6) 31 rfl w.heap.size 4 i (.bool false) 1 1 Try.underlying31 hi hz0 hz1 hz2 rfl (by decide) _ bs.length _ rfl (ho7.alloc _) ⟨w7.heap.size, 0, none⟩ 1 1 [.bool true] rfl rfl ?d1 ?d2 (by unfold maxLen; omega) (by omega) (by simp; omega) ?_)
    case d1 => intro j u hj; exact cell_one_new _ _ _ j u hj
    case d2 => intro x hx; simp at hx; subst hx; rfl
    intro v2 w2 ho2 hg2 _
    have hc2 : Chg (fun _ => False) w w2 := (HC7.out.trans (Chg.alloc (fun _ => False) _ _) (fun _ _ h => h)).trans (Chg.of_grown hg2) (fun j hj hx => by have := (ho7.lt j hx.symm).1; omega)
    have hbl : Bools w2 v2 (bs ++ [true]) := by
      rw [HSN.out] at ho2
      exact ⟨w.heap.size, by simpa using ho2⟩
    clear ho2 hg2 ho7
    go_wp2_with fail
    refine (rbytes_any v2 (bs ++ [true]) w2 hbl (by simp; omega)).mono ?_
    rintro e w3 hf
    obtain ⟨g3, cap3, rfl, r3, hc3⟩ := hf
    go_wp2
    go_ret
    exact ⟨w2, hc2, g3, cap3, rfl, r3, hc3⟩

end Go.Proofs.Ytokeoebhmjefoaa
