/- Texts that other texts of this claim rest on, one behind the other (LnMathB HsRef NmMath NmMathB BoolRow RowBo NmRefA NmRefB NmRefD CxMathC MdMath SpRef LnM MdRd EtPos ApInts EtMap SpRefB RowBy SpOf HpMath HpB). -/
import Derived.Test.YtokeoebhmjefoaaBase1
import Derived.BigQuiet
import Derived.Maps.OwnRows
import Derived.Maps.Views
import Derived.Handy
/- Plain mathematics of chapter 17: payloads; how many bits they have. -/
namespace Go.Proofs.Ytokeoebhmjefoaa
open Go

/-- how many symbols are above 0 -/
def manyF (f : Nat → Nat) : Nat := countTo (fun t => decide (0 < f t)) 256
/-- all counts together; all bounds together -/
def prodQ (F : Nat → Nat → Nat) : List (Nat × Nat) → Nat
  | [] => 1
  | p :: P => F p.1 p.2 * prodQ F P
def prodM (R : Nat) (F : Nat → Nat → Nat) : List (Nat × Nat) → Nat
  | [] => 1
  | p :: P => (2 ^ R + manyF (F p.1) - 1) * prodM R F P

theorem step_cheap {R : Nat} {f : Nat → Nat} {s x n : Nat} (hs : s < 256) (h1 : 1 ≤ f s) (hsum : sumTo f 256 = 2 ^ R) (hn : lefts (f s) (2 ^ R + x) n) :
    (2 ^ R + placeF f 256 s ((2 ^ R + x) / 2 ^ n)) * f s * 2 ^ n ≤ (2 ^ R + x) * (2 ^ R + manyF f - 1) := by
  obtain ⟨e1, e2⟩ := hn
  obtain ⟨i, hi⟩ : ∃ i, (2 ^ R + x) / 2 ^ n = i := ⟨_, rfl⟩
  rw [hi] at e1 e2 ⊢
  have hin : i * 2 ^ n ≤ 2 ^ R + x := by rw [← hi]; exact Nat.div_mul_le_self _ _
  have hd : f s + (i - f s) = i := by omega
  have hnr := (place_near (f := f) (N := 256) (d := i - f s) hs (by omega)).2
  rw [hd, hsum] at hnr
  have hm : 1 ≤ manyF f := countTo_some (p := fun t => decide (0 < f t)) hs (decide_eq_true (by omega))
  have hb : (2 ^ R + placeF f 256 s i) * f s ≤ i * (2 ^ R + manyF f - 1) := by
    have e3 : manyF f * f s = f s + (manyF f - 1) * f s := by
      obtain ⟨k, hk⟩ : ∃ k, manyF f = k + 1 := ⟨manyF f - 1, by omega⟩
      rw [hk, Nat.add_mul, Nat.add_sub_cancel]; omega
    have e4 : (manyF f - 1) * f s ≤ (manyF f - 1) * i := Nat.mul_le_mul_left _ (by omega)
    have e5 : i * (2 ^ R + manyF f - 1) = i * 2 ^ R + (manyF f - 1) * i := by
      rw [show 2 ^ R + manyF f - 1 = 2 ^ R + (manyF f - 1) by omega, Nat.mul_add, Nat.mul_comm i (manyF f - 1)]
    have e6 : manyF f = countTo (fun t => decide (0 < f t)) 256 := rfl
    rw [← e6] at hnr
    rw [e5]
    omega
  calc (2 ^ R + placeF f 256 s i) * f s * 2 ^ n ≤ i * (2 ^ R + manyF f - 1) * 2 ^ n := Nat.mul_le_mul_right _ hb
    _ = i * 2 ^ n * (2 ^ R + manyF f - 1) := by rw [Nat.mul_right_comm]
    _ ≤ (2 ^ R + x) * (2 ^ R + manyF f - 1) := Nat.mul_le_mul_right _ hin

/-- both states, each with as much as there are states -/
def both (R : Nat) (st : Nat × Nat) : Nat := (2 ^ R + st.1) * (2 ^ R + st.2)
/-- the other one -/
def other (R i : Nat) (st : Nat × Nat) : Nat := if i % 2 = 1 then 2 ^ R + st.1 else 2 ^ R + st.2
theorem both_lane (R i : Nat) (st : Nat × Nat) : both R st = (2 ^ R + lane i st) * other R i st := by
  unfold both lane other
  by_cases h : i % 2 = 1
  · simp only [if_pos h]; exact Nat.mul_comm _ _
  · simp only [if_neg h]
theorem other_set (R i x : Nat) (st : Nat × Nat) : other R i (setLane i st x) = other R i st := by
  unfold other setLane
  by_cases h : i % 2 = 1
  · simp [h]
  · simp [h]

theorem enc_cheap {R : Nat} {F : Nat → Nat → Nat} {i : Nat} {P : List (Nat × Nat)} {bs : List Bool} {st : Nat × Nat} (h : Enc R F i P bs st) : FamOk R F P → both R st * (prodQ F P * 2 ^ bs.length) ≤ 2 ^ R * 2 ^ R * prodM R F P := by
  induction h with
  | nil i => intro _; simp [both, prodQ, prodM]
  | @cons i c s n P bs st h hn ih =>
    intro hf
    have hp := hf _ (List.mem_cons_self ..)
    have hst := step_cheap hp.1 hp.2.1 hp.2.2 hn
    have ih := ih hf.tail
    rw [both_lane R i, lane_set, other_set, List.length_append, bitsOf_length, Nat.pow_add]
    rw [both_lane R i] at ih
    simp only [prodQ, prodM]
    obtain ⟨A, hA⟩ : ∃ A, 2 ^ R + placeF (F c) 256 s ((2 ^ R + lane i st) / 2 ^ n) = A := ⟨_, rfl⟩
    obtain ⟨q, hq⟩ : ∃ q, F c s = q := ⟨_, rfl⟩
    obtain ⟨X, hX⟩ : ∃ X, 2 ^ R + lane i st = X := ⟨_, rfl⟩
    obtain ⟨M, hM⟩ : ∃ M, 2 ^ R + manyF (F c) - 1 = M := ⟨_, rfl⟩
    obtain ⟨o, ho⟩ : ∃ o, other R i st = o := ⟨_, rfl⟩
    obtain ⟨Q, hQ⟩ : ∃ Q, prodQ F P = Q := ⟨_, rfl⟩
    obtain ⟨B, hB⟩ : ∃ B, 2 ^ bs.length = B := ⟨_, rfl⟩
    obtain ⟨N, hN⟩ : ∃ N, 2 ^ n = N := ⟨_, rfl⟩
    obtain ⟨L, hL⟩ : ∃ L, 2 ^ R * 2 ^ R = L := ⟨_, rfl⟩
    obtain ⟨G, hG⟩ : ∃ G, prodM R F P = G := ⟨_, rfl⟩
    rw [hX, hN] at hA
    rw [hX, hN, hA, hq, hM] at hst
    rw [hX, ho, hQ, hB, hL, hG] at ih
    rw [hX, hN, hA, ho, hq, hQ, hB, hL, hM, hG]
    have e1 : A * o * (q * Q * (B * N)) = (A * q * N) * (o * (Q * B)) := by
      simp only [Nat.mul_left_comm, Nat.mul_comm]
    have e2 : X * M * (o * (Q * B)) = M * (X * o * (Q * B)) := by
      simp only [Nat.mul_left_comm, Nat.mul_comm]
    have e3 : L * (M * G) = M * (L * G) := by
      simp only [Nat.mul_left_comm]
    rw [e1, e3]
    exact Nat.le_trans (Nat.mul_le_mul_right _ hst) (by rw [e2]; exact Nat.mul_le_mul_left _ ih)
theorem enc_cheaper {R : Nat} {F : Nat → Nat → Nat} {i : Nat} {P : List (Nat × Nat)} {bs : List Bool} {st : Nat × Nat} (h : Enc R F i P bs st) (hf : FamOk R F P) : 2 ^ bs.length * prodQ F P ≤ prodM R F P := by
  have h1 := enc_cheap h hf
  have hp := Nat.two_pow_pos R
  have h2 : 2 ^ R * 2 ^ R ≤ both R st := Nat.mul_le_mul (by omega) (by omega)
  have h3 : 2 ^ R * 2 ^ R * (prodQ F P * 2 ^ bs.length) ≤ 2 ^ R * 2 ^ R * prodM R F P := Nat.le_trans (Nat.mul_le_mul_right _ h2) h1
  rw [Nat.mul_comm (2 ^ bs.length)]
  exact Nat.le_of_mul_le_mul_left h3 (Nat.mul_pos hp hp)

/-- the payload's bits, of what was encoded -/
def payB (R : Nat) (bs : List Bool) (st : Nat × Nat) : List Bool := bs ++ bitsOf st.2 R ++ bitsOf st.1 R
/-- what is decoded of a payload's bits -/
def lnDec (R : Nat) (T : Nat → Option (List Cl)) (l : List Bool) (n : Nat) : Except Nat (List Nat) :=
  if l.length < 2 * R then .error 3 else
  match decG T n 0 0 (takeR (takeR l R) R) (takeV l R, takeV (takeR l R) R) with
  | .error e => .error e
  | .ok (o, b, st) => if st = (0, 0) ∧ b = [] then .ok o else .error 14

theorem lnDec_pay {R : Nat} {F : Nat → Nat → Nat} {T : Nat → Option (List Cl)} (xs : List Nat) (bs : List Bool) (st : Nat × Nat) (hf : FamOk R F (prs 0 xs)) (hT : ∀ p ∈ prs 0 xs, ∃ l, T p.1 = some l ∧ IsDtab (F p.1) R l) (h : Enc R F 0 (prs 0 xs) bs st) :
    lnDec R T (payB R bs st) xs.length = .ok xs := by
  obtain ⟨hl1, hl2⟩ := h.lt hf
  obtain ⟨t1, t2⟩ := take_put (bs ++ bitsOf st.2 R) st.1 R
  obtain ⟨t3, t4⟩ := take_put bs st.2 R
  rw [Nat.mod_eq_of_lt hl1] at t1
  rw [Nat.mod_eq_of_lt hl2] at t3
  have hd := dec_enc (T := T) xs 0 0 [] bs st hf hT h
  rw [List.nil_append] at hd
  unfold lnDec payB
  rw [if_neg (by simp [bitsOf_length]; omega), t2, t1, t4, t3, hd]
  simp
theorem lnDec_one {R : Nat} {F : Nat → Nat → Nat} {T : Nat → Option (List Cl)} (hT : ∀ c l, T c = some l → IsDtab (F c) R l ∧ sumTo (F c) 256 = 2 ^ R) (l : List Bool) (n : Nat) (xs : List Nat) (h : lnDec R T l n = .ok xs) :
    xs.length = n ∧ FamOk R F (prs 0 xs) ∧ (∀ p ∈ prs 0 xs, ∃ l, T p.1 = some l) ∧ ∃ bs st, Enc R F 0 (prs 0 xs) bs st ∧ l = payB R bs st := by
  unfold lnDec at h
  by_cases hlen : l.length < 2 * R
  · rw [if_pos hlen] at h; simp at h
  · rw [if_neg hlen] at h
    cases hd : decG T n 0 0 (takeR (takeR l R) R) (takeV l R, takeV (takeR l R) R) with
    | error e => rw [hd] at h; simp at h
    | ok p =>
      obtain ⟨o, b, st⟩ := p
      rw [hd] at h
      simp only [] at h
      by_cases hc : st = (0, 0) ∧ b = []
      · rw [if_pos hc] at h
        obtain ⟨rfl, rfl⟩ := hc
        simp only [Except.ok.injEq] at h
        subst h
        obtain ⟨h1, h2, h3, bs, h4, h5⟩ := enc_dec hT n 0 0 _ [] _ o ⟨takeV_lt l R, takeV_lt (takeR l R) R⟩ hd
        rw [List.nil_append] at h4
        refine ⟨h1, h2, h3, bs, _, h5, ?_⟩
        have hsp : ∀ m : List Bool, R ≤ m.length → m = takeR m R ++ bitsOf (takeV m R) R := fun m hm => by
          have e1 : takeR m R ++ m.drop (m.length - R) = m := List.take_append_drop _ _
          have e2 : (m.drop (m.length - R)).length = R := by rw [List.length_drop]; omega
          have e3 := bitsOf_val (m.drop (m.length - R))
          rw [e2] at e3
          unfold takeV
          rw [e3]
          exact e1.symm
        unfold payB
        simp only []
        rw [← h4, ← hsp (takeR l R) (by rw [takeR_length]; omega)]
        exact hsp l (by omega)
      · rw [if_neg hc] at h; simp at h

end Go.Proofs.Ytokeoebhmjefoaa

/- What the document's own hist (puncheonref05) tells. -/
namespace Go.Proofs.Ytokeoebhmjefoaa
open Go.RowKit

set_option maxHeartbeats 1000000 in
set_option maxRecDepth 100000 in
theorem r5right_any (v : Value) (cs : List Int) (w : World) (h : RdI w v cs) (hb : ∀ z ∈ cs, -9223372036854775808 ≤ z ∧ z ≤ 9223372036854775807) (_hl : cs.length < 100000000000) :
    Calls Try.prog 90 #[v] w fun e w' => e = .returned (.bool (decide (isRight cs))) ∧ w' = w := by
  obtain ⟨ao, cap, rfl⟩ := h.form
  have H := Lib.hid h; have HB := Lib.hid hb
  clear h hb
  by_cases hlen : cs.length = 256
  · have hq : ((cs.length : Int) != 256) = false := by rw [hlen]; rfl
    have HLEN := Lib.hid hlen
    clear hlen
    go_enter Try.func90, Try.ntmps90
    go_wp2
    go_loopw [3, 4] (fun o3 o4 wr => ∃ k : Nat, k ≤ 256 ∧ o4 = .int .i64 (k : Int) ∧ o3 = .int .i64 (tot (cs.take k)) ∧ upTo cs k ∧ tot (cs.take k) ≤ 1073741824 * (k : Int) ∧ wr = w) (fun _ o4 _ => 256 - (intOf o4).toNat)
    case atStart => exact ⟨0, Nat.zero_le _, rfl, rfl, upTo_zero _, by simp [tot], rfl⟩
    case round =>
      obtain ⟨k, hk, rfl, rfl, hup, hle, rfl⟩ := hrel
      have h0 := upTo_take hup
      have HUP := Lib.hid hup
      clear hup
      by_cases hlt : k < 256
      · have hkl : k < cs.length := by rw [HLEN.out]; exact hlt
        obtain ⟨g, off, rfl, hc⟩ := H.out.at k hkl
        have hsu := tot_take_succ cs k hkl
        have hat : isRight cs → _ := fun h => h.one k hkl
        have hbk := HB.out _ (getD_mem hkl)
        obtain ⟨x, hx⟩ : ∃ x, cs.getD k 0 = x := ⟨_, rfl⟩
        obtain ⟨t, ht⟩ : ∃ t, tot (cs.take k) = t := ⟨_, rfl⟩
        rw [hx] at hc hsu hat hbk
        rw [ht] at hsu hle h0 ⊢
        have hle2 : t ≤ 274877906944 := by omega
        have HXX := Lib.hid hx; have HSU := Lib.hid hsu; have HAT := Lib.hid hat; have HLE := Lib.hid hle
        clear hx ht hsu hat hle
        by_cases hneg : x < 0
        · have d1 : decide (x < 0) = true := decide_eq_true hneg
          go_wp2
          go_ret
          have hd : decide (isRight cs) = false := decide_eq_false fun h => by have := HAT.out h; omega
          rw [hd]
          exact ⟨rfl, rfl⟩
        · have d1 : decide (x < 0) = false := decide_eq_false hneg
          by_cases hbig : 1073741824 < x
          · have d2 : decide (1073741824 < x) = true := decide_eq_true hbig
            go_wp2
            go_ret
            have hd : decide (isRight cs) = false := decide_eq_false fun h => by have := HAT.out h; omega
            rw [hd]
            exact ⟨rfl, rfl⟩
          · have d2 : decide (1073741824 < x) = false := decide_eq_false hbig
            go_wp2
            go_roundw
            case rel => exact ⟨k + 1, by omega, by go_num, by rw [HSU.out], upTo_succ HUP.out (by rw [HXX.out]; omega), by rw [HSU.out]; have := HLE.out; omega, trivial⟩
            case measure => simp [intOf]; omega
      · obtain rfl : k = 256 := by omega
        have hall : cs.take 256 = cs := by rw [← HLEN.out, List.take_length]
        rw [hall] at h0 hle ⊢
        have hd : decide (isRight cs) = decide (tot cs ≤ 1073741824) := by
          rw [Bool.eq_iff_iff, decide_eq_true_iff, decide_eq_true_iff]
          exact ⟨fun h => h.2.2, fun h => ⟨HLEN.out, upTo_all HLEN.out HUP.out, h⟩⟩
        have HD := Lib.hid hd
        clear hd hall
        go_wp2
        go_ret
        rw [HD.out]
        exact ⟨rfl, rfl⟩
  · have hq : ((cs.length : Int) != 256) = true := by simp; omega
    go_enter Try.func90, Try.ntmps90
    go_wp2
    go_ret
    have hd : decide (isRight cs) = false := decide_eq_false fun h => hlen h.1
    rw [hd]
    exact ⟨rfl, rfl⟩

set_option maxHeartbeats 1000000 in
theorem r5many_any (v : Value) (cs : List Int) (w : World) (h : RdI w v cs) (hb : ∀ z ∈ cs, -9223372036854775808 ≤ z ∧ z ≤ 9223372036854775807) (hl : cs.length < 100000000000) :
    Calls Try.prog 66 #[v] w fun e w' => e = .returned (.int .i64 ((manyI cs : Nat) : Int)) ∧ w' = w := by
  have HR := Lib.hid (r5right_any v cs w h hb hl)
  obtain ⟨ao, cap, rfl⟩ := h.form
  have H := Lib.hid h; have HB := Lib.hid hb
  clear h hb
  go_enter Try.func66, Try.ntmps66
  go_wp2_with fail
  refine HR.out.mono ?_
  rintro e w' ⟨rfl, rfl⟩
  clear HR
  by_cases hr : isRight cs
  · rw [decide_eq_true hr]
    have hlen : cs.length ≤ 256 := by rw [hr.1]; exact Nat.le_refl _
    have HRR := Lib.hid hr
    clear hr
    go_wp2
    go_loopw [3, 5] (fun o3 o5 wr => ∃ k : Nat, k ≤ cs.length ∧ o5 = .int .i64 (k : Int) ∧ o3 = .int .i64 ((pos (cs.take k) : Nat) : Int) ∧ wr = w') (fun _ o5 _ => cs.length - (intOf o5).toNat)
    case atStart => exact ⟨0, Nat.zero_le _, rfl, rfl, rfl⟩
    case round =>
      obtain ⟨k, hk, rfl, rfl, rfl⟩ := hrel
      have hp : pos (cs.take k) ≤ 256 := by have := pos_le (cs.take k); rw [List.length_take] at this; omega
      by_cases hlt : k < cs.length
      · obtain ⟨g, off, rfl, hc⟩ := H.out.at k hlt
        have hsu := pos_take_succ cs k hlt
        obtain ⟨x, hx⟩ : ∃ x, cs.getD k 0 = x := ⟨_, rfl⟩
        obtain ⟨t, ht⟩ : ∃ t, pos (cs.take k) = t := ⟨_, rfl⟩
        rw [hx] at hc hsu
        rw [ht] at hsu hp ⊢
        clear hx ht
        by_cases hx0 : 0 < x
        · have d1 : decide (0 < x) = true := decide_eq_true hx0
          rw [if_pos hx0] at hsu
          have HSU := Lib.hid hsu
          clear hsu
          go_wp2
          go_roundw
          case rel => exact ⟨k + 1, by omega, by go_num, by rw [HSU.out]; go_num, trivial⟩
          case measure => simp [intOf]; omega
        · have d1 : decide (0 < x) = false := decide_eq_false hx0
          rw [if_neg hx0] at hsu
          have HSU := Lib.hid hsu
          clear hsu
          go_wp2
          go_roundw
          case rel => exact ⟨k + 1, by omega, by go_num, by rw [HSU.out]; go_num, trivial⟩
          case measure => simp [intOf]; omega
      · obtain rfl : k = cs.length := by omega
        rw [List.take_length] at hp ⊢
        have hm : manyI cs = pos cs := by unfold manyI; rw [if_pos HRR.out]
        have HM := Lib.hid hm
        clear hm
        go_wp2
        go_ret
        rw [HM.out]
        exact ⟨rfl, rfl⟩
  · rw [decide_eq_false hr]
    have hm : manyI cs = 0 := by unfold manyI; rw [if_neg hr]
    have HM := Lib.hid hm
    clear hm hr
    go_wp2
    go_loopw [3, 5] (fun o3 o5 wr => o5 = .int .i64 0 ∧ o3 = .int .i64 0 ∧ wr = w') (fun _ _ _ => 0)
    case atStart => exact ⟨rfl, rfl, rfl⟩
    case round =>
      obtain ⟨rfl, rfl, rfl⟩ := hrel
      by_cases hlt : 0 < cs.length
      · go_wp2
        go_ret
        rw [HM.out]
        exact ⟨rfl, rfl⟩
      · have h0 : cs.length = 0 := by omega
        rw [h0]
        go_wp2
        go_ret
        rw [HM.out]
        exact ⟨rfl, rfl⟩

set_option maxHeartbeats 1000000 in
theorem r5total_any (v : Value) (cs : List Int) (w : World) (h : RdI w v cs) (hb : ∀ z ∈ cs, -9223372036854775808 ≤ z ∧ z ≤ 9223372036854775807) (hl : cs.length < 100000000000) :
    Calls Try.prog 75 #[v] w fun e w' => e = .returned (.int .i64 (totalI cs)) ∧ w' = w := by
  have HR := Lib.hid (r5right_any v cs w h hb hl)
  obtain ⟨ao, cap, rfl⟩ := h.form
  have H := Lib.hid h; have HB := Lib.hid hb
  clear h hb
  go_enter Try.func75, Try.ntmps75
  go_wp2_with fail
  refine HR.out.mono ?_
  rintro e w' ⟨rfl, rfl⟩
  clear HR
  by_cases hr : isRight cs
  · rw [decide_eq_true hr]
    have hlen : cs.length ≤ 256 := by rw [hr.1]; exact Nat.le_refl _
    have HRR := Lib.hid hr
    clear hr
    go_wp2
    go_loopw [3, 5] (fun o3 o5 wr => ∃ k : Nat, k ≤ cs.length ∧ o5 = .int .i64 (k : Int) ∧ o3 = .int .i64 (tot (cs.take k)) ∧ wr = w') (fun _ o5 _ => cs.length - (intOf o5).toNat)
    case atStart => exact ⟨0, Nat.zero_le _, rfl, rfl, rfl⟩
    case round =>
      obtain ⟨k, hk, rfl, rfl, rfl⟩ := hrel
      by_cases hlt : k < cs.length
      · obtain ⟨g, off, rfl, hc⟩ := H.out.at k hlt
        have hsu := tot_take_succ cs k hlt
        have hat := HRR.out.at k hlt
        have h0 : 0 ≤ tot (cs.take k) := tot_nonneg _ fun c hc => HRR.out.2.1 c (List.mem_of_mem_take hc)
        obtain ⟨x, hx⟩ : ∃ x, cs.getD k 0 = x := ⟨_, rfl⟩
        obtain ⟨t, ht⟩ : ∃ t, tot (cs.take k) = t := ⟨_, rfl⟩
        rw [hx] at hc hsu hat
        rw [ht] at hsu hat h0 ⊢
        have HSU := Lib.hid hsu
        clear hx ht hsu
        go_wp2
        go_roundw
        case rel => exact ⟨k + 1, by omega, by go_num, by rw [HSU.out], trivial⟩
        case measure => simp [intOf]; omega
      · obtain rfl : k = cs.length := by omega
        rw [List.take_length]
        have hm : totalI cs = tot cs := by unfold totalI; rw [if_pos HRR.out]
        have HM := Lib.hid hm
        clear hm
        go_wp2
        go_ret
        rw [HM.out]
        exact ⟨rfl, rfl⟩
  · rw [decide_eq_false hr]
    have hm : totalI cs = 0 := by unfold totalI; rw [if_neg hr]
    have HM := Lib.hid hm
    clear hm hr
    go_wp2
    go_loopw [3, 5] (fun o3 o5 wr => o5 = .int .i64 0 ∧ o3 = .int .i64 0 ∧ wr = w') (fun _ _ _ => 0)
    case atStart => exact ⟨rfl, rfl, rfl⟩
    case round =>
      obtain ⟨rfl, rfl, rfl⟩ := hrel
      by_cases hlt : 0 < cs.length
      · go_wp2
        go_ret
        rw [HM.out]
        exact ⟨rfl, rfl⟩
      · have h0 : cs.length = 0 := by omega
        rw [h0]
        go_wp2
        go_ret
        rw [HM.out]
        exact ⟨rfl, rfl⟩

/-- counts of values below v whole, of v itself by the first k bytes -/
def cntTo (xs : List Nat) (v k : Nat) : List Int := (List.range 256).map fun u => if u < v then ((xs.count u : Nat) : Int) else if u = v then (((xs.take k).count u : Nat) : Int) else 0
theorem cntTo_length (xs : List Nat) (v k : Nat) : (cntTo xs v k).length = 256 := by simp [cntTo]
theorem cntTo_getD (xs : List Nat) (v k u : Nat) (h : u < 256) : (cntTo xs v k).getD u 0 = if u < v then ((xs.count u : Nat) : Int) else if u = v then (((xs.take k).count u : Nat) : Int) else 0 := by
  simp [cntTo, List.getD_eq_getElem?_getD, h]
theorem cntTo_zero (xs : List Nat) : cntTo xs 0 0 = List.replicate 256 0 := by
  apply ext_getD (by rw [cntTo_length, List.length_replicate])
  intro k hk
  rw [cntTo_length] at hk
  rw [cntTo_getD _ _ _ _ hk, List.getD_eq_getElem?_getD, List.getElem?_replicate, if_pos hk]
  simp
theorem cntTo_eq (xs : List Nat) (v k : Nat) (hv : v < 256) (hk : k < xs.length) (h : xs.getD k 0 = v) : (cntTo xs v k).set v ((cntTo xs v k).getD v 0 + 1) = cntTo xs v (k + 1) := by
  apply ext_getD (by rw [List.length_set, cntTo_length, cntTo_length])
  intro u hu
  rw [List.length_set, cntTo_length] at hu
  rw [cntTo_getD _ _ _ _ hu]
  have ht : xs.take (k + 1) = xs.take k ++ [v] := by
    rw [List.take_succ_eq_append_getElem hk, ← h, List.getD_eq_getElem?_getD, List.getElem?_eq_getElem hk]; rfl
  by_cases huv : v = u
  · subst huv
    rw [List.getD_eq_getElem?_getD, List.getElem?_set_self (by rw [cntTo_length]; exact hv), cntTo_getD _ _ _ _ hv, ht, List.count_append]
    simp
  · rw [List.getD_eq_getElem?_getD, List.getElem?_set_ne huv, ← List.getD_eq_getElem?_getD, cntTo_getD _ _ _ _ hu]
    rw [if_neg (show ¬ u = v by omega), if_neg (show ¬ u = v by omega)]
theorem cntTo_ne (xs : List Nat) (v k : Nat) (hk : k < xs.length) (h : ¬ xs.getD k 0 = v) : cntTo xs v (k + 1) = cntTo xs v k := by
  apply ext_getD (by rw [cntTo_length, cntTo_length])
  intro u hu
  rw [cntTo_length] at hu
  rw [cntTo_getD _ _ _ _ hu, cntTo_getD _ _ _ _ hu]
  by_cases huv : u = v
  · subst huv
    rw [List.take_succ_eq_append_getElem hk, List.count_append]
    rw [List.getD_eq_getElem?_getD, List.getElem?_eq_getElem hk] at h
    have : List.count u [xs[k]] = 0 := by rw [List.count_eq_zero]; simp; exact fun he => h he.symm
    rw [this]; rfl
  · rw [if_neg huv, if_neg huv]
theorem cntTo_next (xs : List Nat) (v : Nat) : cntTo xs v xs.length = cntTo xs (v + 1) 0 := by
  apply ext_getD (by rw [cntTo_length, cntTo_length])
  intro u hu
  rw [cntTo_length] at hu
  rw [cntTo_getD _ _ _ _ hu, cntTo_getD _ _ _ _ hu, List.take_length]
  by_cases h1 : u < v
  · rw [if_pos h1, if_pos (by omega)]
  · rw [if_neg h1]
    by_cases h2 : u = v
    · rw [if_pos h2, if_pos (by omega)]
    · rw [if_neg h2, if_neg (by omega)]; simp
theorem cntTo_all (xs : List Nat) : cntTo xs 256 0 = cnt xs := by
  apply ext_getD (by rw [cntTo_length, cnt_length])
  intro u hu
  rw [cntTo_length] at hu
  rw [cntTo_getD _ _ _ _ hu, cnt_getD _ _ hu, if_pos hu]
theorem cntTo_bound (xs : List Nat) (v k u : Nat) (hu : u < 256) : 0 ≤ (cntTo xs v k).getD u 0 ∧ (cntTo xs v k).getD u 0 ≤ xs.length := by
  rw [cntTo_getD _ _ _ _ hu]
  have h1 := List.count_le_length (l := xs) (a := u)
  have h2 := List.count_le_length (l := xs.take k) (a := u)
  rw [List.length_take] at h2
  split
  · omega
  · split <;> omega

set_option maxHeartbeats 1000000 in
set_option maxRecDepth 100000 in
theorem r5of_any (v : Value) (xs : List Nat) (w : World) (h : RdB w v xs) (hx : ∀ x ∈ xs, x < 256) (hl : xs.length < 100000000000) :
    Calls Try.prog 64 #[v] w fun e w' => ∃ v', e = .returned v' ∧ OwnI w' w.heap.size v' (cnt xs) ∧ Chg (fun _ => False) w w' := by
  obtain ⟨ao, cap, rfl⟩ := h.form
  have H := Lib.hid h; have HX := Lib.hid hx
  clear h hx
  go_enter Try.func64, Try.ntmps64
  go_wp2_with (at_make; refine wpList_make_ints rfl _ _ rfl 256 256 256 rfl rfl rfl rfl (by omega) (cntTo xs 0 0) (cntTo_zero xs) ?_)
  intro w1 h1 hc1
  have H1 := Lib.hid h1; have HC1 := Lib.hid hc1
  clear h1 hc1
  go_wp2
  go_loopw [4] (fun o4 wr => ∃ v : Nat, v ≤ 256 ∧ o4 = .int .i64 (v : Int) ∧ RowI wr w.heap.size 3 (cntTo xs v 0) ∧ Chg (fun _ => False) w wr) (fun o4 _ => 256 - (intOf o4).toNat)
  case atStart => exact ⟨0, Nat.zero_le _, rfl, H1.out, HC1.out⟩
  case round =>
    obtain ⟨u, hu, rfl, hrow, hc⟩ := hrel
    clear H1 HC1
    obtain ⟨wa, hwa⟩ : ∃ wa, wa = wr := ⟨_, rfl⟩
    subst hwa
    by_cases hlt : u < 256
    · have HROW := Lib.hid hrow; have HC := Lib.hid hc
      clear hrow hc
      go_wp2
      go_loopw [5] (fun o5 wr => ∃ k : Nat, k ≤ xs.length ∧ o5 = .int .i64 (k : Int) ∧ RowI wr w.heap.size 3 (cntTo xs u k) ∧ Chg (fun _ => False) w wr) (fun o5 _ => xs.length - (intOf o5).toNat)
      case atStart => exact ⟨0, Nat.zero_le _, rfl, HROW.out, HC.out⟩
      case round =>
        obtain ⟨k, hk, rfl, hrow, hc⟩ := hrel
        clear HROW HC
        by_cases hkl : k < xs.length
        · obtain ⟨g, off, hao, hcell⟩ : ∃ g off, ao = some ⟨g, off, none⟩ ∧ wr.cell? ⟨g, off + k, none⟩ = some (.int .u8 ((xs.getD k 0 : Nat) : Int)) := by
            rcases H.out.kept hc (by simp) with ⟨h0, _⟩ | ⟨g, off, cap', he, hc⟩
            · rw [h0] at hkl; simp at hkl
            · simp only [Value.slice.injEq] at he
              exact ⟨g, off, he.1, hc _ hkl⟩
          subst hao
          have hy := getD_lt xs HX.out k
          by_cases heq : xs.getD k 0 = u
          · have hst := cntTo_eq xs u k hlt hkl heq
            have hcu := hrow.cell u (by rw [cntTo_length]; exact hlt)
            have hfu := hrow.free u
            have hbd := cntTo_bound xs u k u hlt
            have hr2 := hrow.set u ((cntTo xs u k).getD u 0 + 1)
            rw [hst] at hr2
            have hc2 : Chg (fun _ => False) w (wr.setCell ⟨w.heap.size, u, none⟩ (.int .i64 ((cntTo xs u k).getD u 0 + 1))) := hc.trans (Chg.setCell wr ⟨w.heap.size, u, none⟩ _) (fun q hq h => by simp at h; omega)
            obtain ⟨y, hye⟩ : ∃ y, (cntTo xs u k).getD u 0 = y := ⟨_, rfl⟩
            rw [hye] at hcu hbd hr2 hc2
            rw [heq] at hcell
            have HR2 := Lib.hid hr2; have HC2 := Lib.hid hc2
            clear hst hr2 hc2 hrow hc hye heq
            go_wp2
            go_roundw
            case rel => exact ⟨k + 1, by omega, by go_num, HR2.out, HC2.out⟩
            case measure => simp [intOf]; omega
          · have hst := cntTo_ne xs u k hkl heq
            obtain ⟨y, hye⟩ : ∃ y, xs.getD k 0 = y := ⟨_, rfl⟩
            rw [hye] at hcell heq hy
            have hne : ((y : Int) == (u : Int)) = false := by rw [beq_eq_false_iff_ne]; omega
            have HST := Lib.hid hst; have HROW := Lib.hid hrow; have HC := Lib.hid hc
            clear hst hye hrow hc
            go_wp2
            go_roundw
            case rel => exact ⟨k + 1, by omega, by go_num, by rw [HST.out]; exact HROW.out, HC.out⟩
            case measure => simp [intOf]; omega
        · obtain rfl : k = xs.length := by omega
          rw [cntTo_next] at hrow
          go_wp2
          go_roundw
          case rel => exact ⟨u + 1, by omega, by go_num, hrow, hc⟩
          case measure => simp [intOf]; omega
    · obtain rfl : u = 256 := by omega
      rw [cntTo_all] at hrow
      go_wp2
      go_ret
      exact ⟨_, rfl, by have := hrow.own 256 w.heap.size (Nat.le_refl _); rw [cnt_length] at this; exact this, hc⟩

end Go.Proofs.Ytokeoebhmjefoaa

/- Plain mathematics of chapter 8: counts whose sum is a power of two. -/
namespace Go.Proofs.Ytokeoebhmjefoaa
open Go

/-- who has one more next -/
def needyTo (rest : List Int) (had : List Bool) : Nat → Option Nat
  | 0 => none
  | s + 1 => match needyTo rest had s with
    | none => if had.getD s false then none else some s
    | some b => if had.getD s false = false ∧ rest.getD b 0 < rest.getD s 0 then some s else some b

theorem needy_none (rest : List Int) (had : List Bool) (k : Nat) (h : needyTo rest had k = none) : ∀ s, s < k → had.getD s false = true := by
  induction k with
  | zero => intro s hs; omega
  | succ k ih =>
    simp only [needyTo] at h
    cases hn : needyTo rest had k with
    | none =>
      rw [hn] at h
      simp only at h
      intro s hs
      by_cases hsk : s = k
      · subst hsk
        cases hh : had.getD s false with
        | true => rfl
        | false => rw [hh] at h; simp at h
      · exact ih hn s (by omega)
    | some b =>
      rw [hn] at h
      simp only at h
      split at h <;> simp at h

theorem needy_some (rest : List Int) (had : List Bool) (k b : Nat) (h : needyTo rest had k = some b) :
    b < k ∧ had.getD b false = false ∧ ∀ s, s < k → had.getD s false = false → rest.getD s 0 < rest.getD b 0 ∨ (rest.getD s 0 = rest.getD b 0 ∧ b ≤ s) := by
  induction k generalizing b with
  | zero => simp [needyTo] at h
  | succ k ih =>
    simp only [needyTo] at h
    cases hn : needyTo rest had k with
    | none =>
      rw [hn] at h
      simp only at h
      have hall := needy_none rest had k hn
      cases hh : had.getD k false with
      | true => rw [hh] at h; simp at h
      | false =>
        rw [hh] at h
        simp at h
        subst h
        refine ⟨by omega, hh, fun s hs h1 => ?_⟩
        by_cases hsk : s = k
        · subst hsk; right; exact ⟨rfl, Nat.le_refl _⟩
        · have := hall s (by omega); rw [this] at h1; simp at h1
    | some b' =>
      rw [hn] at h
      simp only at h
      obtain ⟨i1, i2, i3⟩ := ih b' hn
      by_cases hc : had.getD k false = false ∧ rest.getD b' 0 < rest.getD k 0
      · rw [if_pos hc] at h
        simp at h
        subst h
        refine ⟨by omega, hc.1, fun s hs h1 => ?_⟩
        by_cases hsk : s = k
        · subst hsk; right; exact ⟨rfl, Nat.le_refl _⟩
        · left
          rcases i3 s (by omega) h1 with h2 | h2
          · omega
          · omega
      · rw [if_neg hc] at h
        simp at h
        subst h
        refine ⟨by omega, i2, fun s hs h1 => ?_⟩
        by_cases hsk : s = k
        · subst hsk
          have : ¬ rest.getD b' 0 < rest.getD s 0 := fun hlt => hc ⟨h1, hlt⟩
          rcases Int.lt_or_eq_of_le (Int.not_lt.1 this) with h2 | h2
          · left; exact h2
          · right; exact ⟨h2, by omega⟩
        · exact i3 s (by omega) h1

theorem needy_times (rest : List Int) (had : List Bool) (f : Int) (hf : 0 < f) (k : Nat) : needyTo (rest.map (· * f)) had k = needyTo rest had k := by
  have hg : ∀ s, (rest.map (· * f)).getD s 0 = rest.getD s 0 * f := by
    intro s
    simp only [List.getD_eq_getElem?_getD, List.getElem?_map]
    cases rest[s]? <;> simp
  induction k with
  | zero => rfl
  | succ k ih =>
    simp only [needyTo, ih]
    cases needyTo rest had k with
    | none => rfl
    | some b =>
      simp only [hg]
      have : (rest.getD b 0 * f < rest.getD k 0 * f) ↔ (rest.getD b 0 < rest.getD k 0) := Int.mul_lt_mul_right hf
      simp only [this]

/-- one more for the neediest -/
def giveStep (rest : List Int) (p : List Int × List Bool) : List Int × List Bool := match needyTo rest p.2 256 with
  | none => p
  | some s => (p.1.set s (p.1.getD s 0 + 1), p.2.set s true)
theorem giveStep_some {rest : List Int} {p : List Int × List Bool} {s : Nat} (h : needyTo rest p.2 256 = some s) : giveStep rest p = (p.1.set s (p.1.getD s 0 + 1), p.2.set s true) := by
  unfold giveStep; rw [h]
theorem giveStep_times (rest : List Int) (f : Int) (hf : 0 < f) (p : List Int × List Bool) : giveStep (rest.map (· * f)) p = giveStep rest p := by
  unfold giveStep; rw [needy_times rest _ f hf]

/-- so k times -/
def giveN (rest : List Int) : Nat → List Int → List Bool → List Int × List Bool
  | 0, q, h => (q, h)
  | k + 1, q, h => giveStep rest (giveN rest k q h)
theorem giveN_succ (rest : List Int) (k : Nat) (q : List Int) (h : List Bool) : giveN rest (k + 1) q h = giveStep rest (giveN rest k q h) := rfl

theorem give_times (rest : List Int) (f : Int) (hf : 0 < f) (k : Nat) (q : List Int) (h : List Bool) : giveN (rest.map (· * f)) k q h = giveN rest k q h := by
  induction k with
  | zero => rfl
  | succ k ih => rw [giveN_succ, giveN_succ, ih, giveStep_times rest f hf]

/-- how many have had none and have some left -/
def cntN : List Int → List Bool → Nat
  | r :: rs, h :: hs => (if h = false ∧ 0 < r then 1 else 0) + cntN rs hs
  | _, _ => 0

theorem cntN_set : ∀ (rest : List Int) (had : List Bool) (s : Nat), s < rest.length → s < had.length → had.getD s false = false → 0 < rest.getD s 0 → cntN rest (had.set s true) + 1 = cntN rest had
  | [], _, s, h, _, _, _ => by simp at h
  | _ :: _, [], s, _, h, _, _ => by simp at h
  | r :: rs, h :: hs, 0, _, _, h1, h2 => by
    simp only [List.getD_cons_zero] at h1 h2
    subst h1
    simp [cntN, h2]; omega
  | r :: rs, h :: hs, s + 1, hl, hl2, h1, h2 => by
    have ih := cntN_set rs hs s (by simpa using hl) (by simpa using hl2) (by simpa using h1) (by simpa using h2)
    simp only [List.set_cons_succ, cntN]
    omega

theorem cntN_pos : ∀ (rest : List Int) (had : List Bool), 0 < cntN rest had → ∃ s, s < rest.length ∧ s < had.length ∧ had.getD s false = false ∧ 0 < rest.getD s 0
  | [], _, h => by simp [cntN] at h
  | _ :: _, [], h => by simp [cntN] at h
  | r :: rs, h :: hs, hp => by
    by_cases hc : h = false ∧ 0 < r
    · exact ⟨0, by simp, by simp, by simpa using hc.1, by simpa using hc.2⟩
    · simp only [cntN, if_neg hc, Nat.zero_add] at hp
      obtain ⟨s, h1, h2, h3, h4⟩ := cntN_pos rs hs hp
      exact ⟨s + 1, by simp; omega, by simp; omega, by simpa using h3, by simpa using h4⟩

/-- what is known behind k gifts -/
structure Gave (rest q : List Int) (had : List Bool) (k : Nat) (p : List Int × List Bool) : Prop where
  len1 : p.1.length = 256
  len2 : p.2.length = 256
  sum : tot p.1 = tot q + (k : Int)
  left : cntN rest p.2 + k = cntN rest had
  keep : ∀ s, had.getD s false = true → p.2.getD s false = true
  val : ∀ s, s < 256 → p.1.getD s 0 = q.getD s 0 + if had.getD s false = false ∧ p.2.getD s false = true then 1 else 0
  some : ∀ s, s < 256 → had.getD s false = false → p.2.getD s false = true → 0 < rest.getD s 0
  first : ∀ s t, s < 256 → t < 256 → had.getD s false = false → p.2.getD s false = true → p.2.getD t false = false → rest.getD t 0 < rest.getD s 0 ∨ (rest.getD t 0 = rest.getD s 0 ∧ s ≤ t)

theorem bset_getD (l : List Bool) (i j : Nat) (z : Bool) (hi : i < l.length) : (l.set i z).getD j false = if i = j then z else l.getD j false := by
  by_cases h : i = j
  · subst h; rw [if_pos rfl, List.getD_eq_getElem?_getD, List.getElem?_set_self hi]; rfl
  · rw [if_neg h, List.getD_eq_getElem?_getD, List.getElem?_set_ne h, ← List.getD_eq_getElem?_getD]
theorem iset_getD (l : List Int) (i j : Nat) (z : Int) (hi : i < l.length) : (l.set i z).getD j 0 = if i = j then z else l.getD j 0 := by
  by_cases h : i = j
  · subst h; rw [if_pos rfl, List.getD_eq_getElem?_getD, List.getElem?_set_self hi]; rfl
  · rw [if_neg h, List.getD_eq_getElem?_getD, List.getElem?_set_ne h, ← List.getD_eq_getElem?_getD]

theorem gave_step {rest q : List Int} {had : List Bool} (hr : rest.length = 256) {k : Nat} {p : List Int × List Bool} (g : Gave rest q had k p) (hk : k < cntN rest had) :
    ∃ s, needyTo rest p.2 256 = some s ∧ s < 256 ∧ p.2.getD s false = false ∧ Gave rest q had (k + 1) (p.1.set s (p.1.getD s 0 + 1), p.2.set s true) := by
  have hp : 0 < cntN rest p.2 := by have := g.left; omega
  obtain ⟨t, ht1, ht2, ht3, ht4⟩ := cntN_pos rest p.2 hp
  cases hn : needyTo rest p.2 256 with
  | none =>
    have := needy_none rest p.2 256 hn t (by omega)
    rw [this] at ht3; simp at ht3
  | some s =>
    obtain ⟨h1, h2, h3⟩ := needy_some rest p.2 256 s hn
    have hs0 : 0 < rest.getD s 0 := by
      rcases h3 t (by omega) ht3 with h | h <;> omega
    have hhs : had.getD s false = false := by
      cases hh : had.getD s false with
      | false => rfl
      | true => have := g.keep s hh; rw [this] at h2; simp at h2
    have l1 := g.len1; have l2 := g.len2
    refine ⟨s, rfl, h1, h2, ?_⟩
    constructor
    · simp [l1]
    · simp [l2]
    · have := tot_set p.1 s (p.1.getD s 0 + 1) (by omega)
      have := g.sum
      simp only; omega
    · have := cntN_set rest p.2 s (by omega) (by omega) h2 hs0
      have := g.left
      simp only; omega
    · intro u hu
      simp only
      rw [bset_getD _ _ _ _ (by omega)]
      split
      · rfl
      · exact g.keep u hu
    · intro u hu
      simp only
      rw [iset_getD _ _ _ _ (by omega), bset_getD _ _ _ _ (by omega)]
      by_cases hus : s = u
      · subst hus
        rw [if_pos rfl, if_pos rfl, if_pos ⟨hhs, rfl⟩, g.val s hu, if_neg (by rw [h2]; simp)]
        omega
      · rw [if_neg hus, if_neg hus]; exact g.val u hu
    · intro u hu hu1 hu2
      simp only at hu2
      rw [bset_getD _ _ _ _ (by omega)] at hu2
      by_cases hus : s = u
      · subst hus; exact hs0
      · rw [if_neg hus] at hu2; exact g.some u hu hu1 hu2
    · intro u t hu ht hu1 hu2 ht2
      simp only at hu2 ht2
      rw [bset_getD _ _ _ _ (by omega)] at hu2 ht2
      by_cases hst : s = t
      · subst hst; simp at ht2
      · rw [if_neg hst] at ht2
        by_cases hus : s = u
        · subst hus; exact h3 t ht ht2
        · rw [if_neg hus] at hu2
          exact g.first u t hu ht hu1 hu2 ht2

theorem gave_zero (rest q : List Int) (had : List Bool) (hq : q.length = 256) (hh : had.length = 256) : Gave rest q had 0 (q, had) := by
  refine ⟨hq, hh, by simp, by simp, fun s h => h, fun s hs => ?_, fun s hs h1 h2 => ?_, fun s t hs ht h1 h2 => ?_⟩
  · show q.getD s 0 = _
    rw [if_neg]
    · omega
    · rintro ⟨h1, h2⟩; simp only at h2; rw [h1] at h2; simp at h2
  · simp only at h2; rw [h1] at h2; simp at h2
  · simp only at h2; rw [h1] at h2; simp at h2

theorem gave {rest q : List Int} {had : List Bool} (hr : rest.length = 256) (hq : q.length = 256) (hh : had.length = 256) (k : Nat) (hk : k ≤ cntN rest had) : Gave rest q had k (giveN rest k q had) := by
  induction k with
  | zero => exact gave_zero rest q had hq hh
  | succ k ih =>
    obtain ⟨s, hs, _, _, g⟩ := gave_step hr (ih (by omega)) (by omega)
    rw [giveN_succ, giveStep_some hs]
    exact g

/-- who has one less next -/
def richTo (q c : List Int) : Nat → Nat
  | 0 => 0
  | s + 1 => if q.getD (richTo q c s) 0 < q.getD (s + 1) 0 ∨ (q.getD (s + 1) 0 = q.getD (richTo q c s) 0 ∧ c.getD (s + 1) 0 ≤ c.getD (richTo q c s) 0) then s + 1 else richTo q c s

theorem rich_spec (q c : List Int) (k : Nat) : richTo q c k ≤ k ∧ ∀ s, s ≤ k → q.getD s 0 < q.getD (richTo q c k) 0 ∨ (q.getD s 0 = q.getD (richTo q c k) 0 ∧ (c.getD (richTo q c k) 0 < c.getD s 0 ∨ (c.getD (richTo q c k) 0 = c.getD s 0 ∧ s ≤ richTo q c k))) := by
  induction k with
  | zero => exact ⟨Nat.le_refl _, fun s hs => by obtain rfl : s = 0 := by omega
                                                 right; exact ⟨rfl, .inr ⟨rfl, Nat.le_refl _⟩⟩⟩
  | succ k ih =>
    obtain ⟨i1, i2⟩ := ih
    simp only [richTo]
    by_cases hc : q.getD (richTo q c k) 0 < q.getD (k + 1) 0 ∨ (q.getD (k + 1) 0 = q.getD (richTo q c k) 0 ∧ c.getD (k + 1) 0 ≤ c.getD (richTo q c k) 0)
    · rw [if_pos hc]
      refine ⟨Nat.le_refl _, fun s hs => ?_⟩
      by_cases hsk : s = k + 1
      · subst hsk; right; exact ⟨rfl, .inr ⟨rfl, Nat.le_refl _⟩⟩
      · rcases i2 s (by omega) with h | ⟨h, h'⟩
        · left; omega
        · rcases hc with hc | ⟨hc, hc'⟩
          · left; omega
          · right
            refine ⟨by omega, ?_⟩
            rcases h' with h' | ⟨h', _⟩
            · left; omega
            · rcases Int.lt_or_eq_of_le hc' with h3 | h3
              · left; omega
              · right; exact ⟨by omega, by omega⟩
    · rw [if_neg hc]
      refine ⟨by omega, fun s hs => ?_⟩
      by_cases hsk : s = k + 1
      · subst hsk
        have n1 : ¬ q.getD (richTo q c k) 0 < q.getD (k + 1) 0 := fun h => hc (.inl h)
        rcases Int.lt_or_eq_of_le (Int.not_lt.1 n1) with h | h
        · left; exact h
        · right
          refine ⟨h, .inl ?_⟩
          have n2 : ¬ c.getD (k + 1) 0 ≤ c.getD (richTo q c k) 0 := fun h2 => hc (.inr ⟨h, h2⟩)
          omega
      · exact i2 s (by omega)

theorem rich_times (q c : List Int) (f : Int) (hf : 0 < f) (k : Nat) : richTo q (c.map (· * f)) k = richTo q c k := by
  have hg : ∀ s, (c.map (· * f)).getD s 0 = c.getD s 0 * f := by
    intro s
    simp only [List.getD_eq_getElem?_getD, List.getElem?_map]
    cases c[s]? <;> simp
  induction k with
  | zero => rfl
  | succ k ih =>
    simp only [richTo, ih, hg]
    have : (c.getD (k + 1) 0 * f ≤ c.getD (richTo q c k) 0 * f) ↔ (c.getD (k + 1) 0 ≤ c.getD (richTo q c k) 0) := Int.mul_le_mul_right hf
    simp only [this]

/-- one less for the richest -/
def takeStep (c q : List Int) : List Int := q.set (richTo q c 255) (q.getD (richTo q c 255) 0 - 1)
theorem takeStep_times (c q : List Int) (f : Int) (hf : 0 < f) : takeStep (c.map (· * f)) q = takeStep c q := by
  unfold takeStep; rw [rich_times _ _ f hf]
/-- so k times -/
def takeN (c : List Int) : Nat → List Int → List Int
  | 0, q => q
  | k + 1, q => takeStep c (takeN c k q)
theorem takeN_succ (c : List Int) (k : Nat) (q : List Int) : takeN c (k + 1) q = takeStep c (takeN c k q) := rfl

theorem takeN_times (c : List Int) (f : Int) (hf : 0 < f) (k : Nat) (q : List Int) : takeN (c.map (· * f)) k q = takeN c k q := by
  induction k with
  | zero => rfl
  | succ k ih => rw [takeN_succ, takeN_succ, ih, takeStep_times _ _ f hf]

theorem tot_le_pos (l : List Int) (h : ∀ c ∈ l, c ≤ 1) : tot l ≤ (pos l : Int) := by
  induction l with
  | nil => simp [tot, pos]
  | cons x r ih =>
    have := h x (by simp)
    have := ih (fun c hc => h c (by simp [hc]))
    simp only [tot, pos]
    split <;> omega

theorem pos_same : ∀ (a b : List Int), a.length = b.length → (∀ k, k < a.length → (0 < a.getD k 0 ↔ 0 < b.getD k 0)) → pos a = pos b
  | [], [], _, _ => by simp [pos]
  | [], _ :: _, h, _ => by simp at h
  | _ :: _, [], h, _ => by simp at h
  | x :: a, y :: b, h, hk => by
    have ih := pos_same a b (by simpa using h) (fun k hk1 => by have := hk (k + 1) (by simpa using hk1); simpa only [List.getD_cons_succ] using this)
    have h0 := hk 0 (by simp)
    simp only [List.getD_cons_zero] at h0
    simp only [pos]
    by_cases hx : 0 < x
    · rw [if_pos hx, if_pos (h0.1 hx)]; omega
    · rw [if_neg hx, if_neg (fun h => hx (h0.2 h))]; omega

/-- what is known behind k takings -/
structure Took (c q : List Int) (k : Nat) (p : List Int) : Prop where
  len : p.length = 256
  sum : tot p = tot q - (k : Int)
  low : ∀ s, s < 256 → 0 ≤ p.getD s 0 ∧ (0 < p.getD s 0 ↔ 0 < c.getD s 0)
  top : ∀ s, s < 256 → p.getD s 0 ≤ q.getD s 0
  order : ∀ a b, a < 256 → b < 256 → c.getD b 0 < c.getD a 0 → p.getD b 0 ≤ p.getD a 0

theorem took_step {c q : List Int} {k : Nat} {p : List Int} (hc : c.length = 256) (t : Took c q k p) (hp : (pos c : Int) < tot p) :
    richTo p c 255 < 256 ∧ 1 < p.getD (richTo p c 255) 0 ∧ Took c q (k + 1) (p.set (richTo p c 255) (p.getD (richTo p c 255) 0 - 1)) := by
  obtain ⟨r1, r2⟩ := rich_spec p c 255
  have hl := t.len
  have h2 : 1 < p.getD (richTo p c 255) 0 := by
    rcases Int.lt_or_le 1 (p.getD (richTo p c 255) 0) with h | h
    · exact h
    · exfalso
      have hall : ∀ z ∈ p, z ≤ 1 := by
        intro z hz
        obtain ⟨i, hi, rfl⟩ := List.mem_iff_getElem.1 hz
        have := r2 i (by omega)
        rw [List.getD_eq_getElem?_getD (i := i), List.getElem?_eq_getElem hi] at this
        simp only [Option.getD_some] at this
        rcases this with h3 | h3 <;> omega
      have h4 := tot_le_pos p hall
      have h5 := pos_same p c (by omega) (fun k hk => (t.low k (by omega)).2)
      omega
  refine ⟨by omega, h2, ?_⟩
  generalize richTo p c 255 = b at *
  have hb : b < 256 := by omega
  constructor
  · simp [hl]
  · have := tot_set p b (p.getD b 0 - 1) (by omega)
    have := t.sum
    omega
  · intro s hs
    rw [iset_getD _ _ _ _ (by omega)]
    have := t.low s hs
    by_cases hbs : b = s
    · subst hbs
      rw [if_pos rfl]
      refine ⟨by omega, ?_⟩
      rw [← this.2]; omega
    · rw [if_neg hbs]; exact this
  · intro s hs
    rw [iset_getD _ _ _ _ (by omega)]
    have := t.top s hs
    by_cases hbs : b = s
    · subst hbs; rw [if_pos rfl]; omega
    · rw [if_neg hbs]; exact this
  · intro x y hx hy hxy
    rw [iset_getD _ _ _ _ (by omega), iset_getD _ _ _ _ (by omega)]
    have ho := t.order x y hx hy hxy
    by_cases hbx : b = x
    · subst hbx
      rw [if_pos rfl]
      by_cases hby : b = y
      · subst hby; omega
      · rw [if_neg hby]
        rcases r2 y (by omega) with h | ⟨h, h'⟩
        · omega
        · rcases h' with h' | ⟨h', _⟩ <;> omega
    · rw [if_neg hbx]
      by_cases hby : b = y
      · subst hby; rw [if_pos rfl]; omega
      · rw [if_neg hby]; exact ho

theorem took {c q : List Int} (hc : c.length = 256) (t : Took c q 0 q) (k : Nat) (hk : (pos c : Int) ≤ tot q - (k : Int)) : Took c q k (takeN c k q) := by
  induction k with
  | zero => exact t
  | succ k ih =>
    have t' := ih (by omega)
    rw [takeN_succ]
    exact (took_step hc t' (by rw [t'.sum]; omega)).2.2

end Go.Proofs.Ytokeoebhmjefoaa

/- Plain: normalized counts, and what chapter 8 promises of them. -/
namespace Go.Proofs.Ytokeoebhmjefoaa
open Go

def q0L (c : List Int) (size n : Int) : List Int := c.map fun x => x * size / n
def qBase (c : List Int) (size n : Int) : List Int := c.map fun x => if x * size / n = 0 then min x 1 else x * size / n
def rest0 (c : List Int) (size n : Int) : List Int := c.map fun x => x * size % n
def had0 (c : List Int) (size n : Int) : List Bool := c.map fun x => decide (x * size / n = 0)
def gaveC (c : List Int) (size n : Int) : List Int := (giveN (rest0 c size n) (size - tot (qBase c size n)).toNat (qBase c size n) (had0 c size n)).1
/-- the counts c, normalized to the sum size -/
def normC (c : List Int) (size : Int) : List Int := takeN c (tot (gaveC c size (tot c)) - size).toNat (gaveC c size (tot c))

/-- how many are raised to 1 -/
def zc (size n : Int) : List Int → Nat
  | [] => 0
  | x :: r => (if 0 < x ∧ x * size / n = 0 then 1 else 0) + zc size n r

theorem sum_parts (size n : Int) (c : List Int) : tot c * size = n * tot (q0L c size n) + tot (rest0 c size n) := by
  induction c with
  | nil => simp [q0L, rest0, tot]
  | cons x r ih =>
    have h := Int.mul_ediv_add_emod (x * size) n
    simp only [q0L, rest0, List.map_cons, tot] at ih ⊢
    rw [Int.add_mul, ih, Int.mul_add]
    omega

theorem base_sum (size n : Int) (c : List Int) (h0 : ∀ x ∈ c, 0 ≤ x) : tot (qBase c size n) = tot (q0L c size n) + (zc size n c : Int) := by
  induction c with
  | nil => simp [qBase, q0L, tot, zc]
  | cons x r ih =>
    have ih := ih (fun y hy => h0 y (by simp [hy]))
    have hx := h0 x (by simp)
    simp only [qBase, q0L, List.map_cons, tot, zc] at ih ⊢
    by_cases hq : x * size / n = 0
    · by_cases hp : 0 < x
      · rw [if_pos hq, if_pos ⟨hp, hq⟩]; omega
      · rw [if_pos hq, if_neg (fun h => hp h.1)]; omega
    · rw [if_neg hq, if_neg (fun h => hq h.2)]; omega

theorem rest_sum (size n : Int) (hn : 0 < n) (c : List Int) (h0 : ∀ x ∈ c, 0 ≤ x) : tot (rest0 c size n) ≤ (n - 1) * ((cntN (rest0 c size n) (had0 c size n) : Int) + (zc size n c : Int)) := by
  induction c with
  | nil => simp [rest0, had0, tot, zc, cntN]
  | cons x r ih =>
    have ih := ih (fun y hy => h0 y (by simp [hy]))
    have hx := h0 x (by simp)
    have e1 := Int.emod_nonneg (x * size) (show n ≠ 0 by omega)
    have e2 := Int.emod_lt_of_pos (x * size) hn
    simp only [rest0, had0, List.map_cons, tot, zc, cntN] at ih ⊢
    generalize hN : cntN (List.map (fun x => x * size % n) r) (List.map (fun x => decide (x * size / n = 0)) r) = N at *
    generalize hZ : zc size n r = Z at *
    have hstep : (n - 1) * ((N : Int) + (Z : Int) + 1) = (n - 1) * ((N : Int) + (Z : Int)) + (n - 1) := by rw [Int.mul_add, Int.mul_one]
    by_cases hq : x * size / n = 0
    · by_cases hp : 0 < x
      · rw [if_pos (show 0 < x ∧ x * size / n = 0 from ⟨hp, hq⟩), if_neg (by simp [hq])]
        rw [show (((0 + N : Nat)) : Int) + ((1 + Z : Nat) : Int) = (N : Int) + (Z : Int) + 1 by omega, hstep]
        omega
      · have : x = 0 := by omega
        subst this
        rw [if_neg (by simp), if_neg (by simp)]
        simp only [Int.zero_mul, Int.zero_emod] at *
        rw [show (((0 + N : Nat)) : Int) + ((0 + Z : Nat) : Int) = (N : Int) + (Z : Int) by omega]
        omega
    · rw [if_neg (show ¬ (0 < x ∧ x * size / n = 0) from fun h => hq h.2)]
      by_cases hr : 0 < x * size % n
      · rw [if_pos ⟨by simp [hq], hr⟩]
        rw [show (((1 + N : Nat)) : Int) + ((0 + Z : Nat) : Int) = (N : Int) + (Z : Int) + 1 by omega, hstep]
        omega
      · rw [if_neg (fun h => hr h.2)]
        rw [show (((0 + N : Nat)) : Int) + ((0 + Z : Nat) : Int) = (N : Int) + (Z : Int) by omega]
        omega

theorem give_room {c : List Int} {size n : Int} (h0 : ∀ x ∈ c, 0 ≤ x) (hn : tot c = n) (hn0 : 0 < n) : (size - tot (qBase c size n)).toNat ≤ cntN (rest0 c size n) (had0 c size n) := by
  have h1 := sum_parts size n c
  have h2 := base_sum size n c h0
  have h3 := rest_sum size n hn0 c h0
  rw [hn] at h1
  generalize cntN (rest0 c size n) (had0 c size n) = N at *
  generalize zc size n c = Z at *
  generalize tot (qBase c size n) = B at *
  generalize tot (q0L c size n) = Q at *
  generalize tot (rest0 c size n) = R at *
  rcases Nat.lt_or_ge N (size - B).toNat with hlt | hge
  · exfalso
    have hA : (N : Int) + Z ≤ size - Q - 1 := by omega
    have hR : R = n * (size - Q) := by rw [Int.mul_sub]; omega
    have h4 : (n - 1) * ((N : Int) + Z) ≤ (n - 1) * (size - Q - 1) := Int.mul_le_mul_of_nonneg_left hA (by omega)
    have h5 : (n - 1) * (size - Q - 1) = n * (size - Q) - n - (size - Q) + 1 := by
      rw [Int.sub_mul, Int.mul_sub n (size - Q) 1, Int.mul_one, Int.one_mul]; omega
    omega
  · exact hge

theorem mapI_getD (c : List Int) (f : Int → Int) (s : Nat) (h : s < c.length) : (c.map f).getD s 0 = f (c.getD s 0) := by
  simp [List.getD_eq_getElem?_getD, List.getElem?_map, List.getElem?_eq_getElem h]
theorem mapB_getD (c : List Int) (f : Int → Bool) (s : Nat) (h : s < c.length) : (c.map f).getD s false = f (c.getD s 0) := by
  simp [List.getD_eq_getElem?_getD, List.getElem?_map, List.getElem?_eq_getElem h]

/-- counts that can be normalized to the sum size -/
structure Fit (c : List Int) (size : Int) : Prop where
  len : c.length = 256
  low : ∀ x ∈ c, 0 ≤ x
  some : 0 < tot c
  sz : 0 < size
  many : (pos c : Int) ≤ size

theorem Fit.at {c : List Int} {size : Int} (h : Fit c size) (s : Nat) (hs : s < 256) : 0 ≤ c.getD s 0 := h.low _ (getD_mem (by rw [h.len]; exact hs))

theorem Fit.gave {c : List Int} {size : Int} (h : Fit c size) : Gave (rest0 c size (tot c)) (qBase c size (tot c)) (had0 c size (tot c)) (size - tot (qBase c size (tot c))).toNat (giveN (rest0 c size (tot c)) (size - tot (qBase c size (tot c))).toNat (qBase c size (tot c)) (had0 c size (tot c))) :=
  Go.Proofs.Ytokeoebhmjefoaa.gave (by simp [rest0, h.len]) (by simp [qBase, h.len]) (by simp [had0, h.len]) _ (give_room h.low rfl h.some)

theorem div_parts (x size n : Int) (hn : 0 < n) (hx : 0 ≤ x) (hs : 0 < size) : 0 ≤ x * size / n ∧ n * (x * size / n) + x * size % n = x * size ∧ 0 ≤ x * size % n ∧ x * size % n < n ∧ 0 ≤ x * size :=
  have hp : 0 ≤ x * size := Int.mul_nonneg hx (by omega)
  ⟨Int.ediv_nonneg hp (by omega), Int.mul_ediv_add_emod _ _, Int.emod_nonneg _ (by omega), Int.emod_lt_of_pos _ hn, hp⟩

theorem base_at {c : List Int} {size n : Int} (s : Nat) (hs : s < c.length) : (qBase c size n).getD s 0 = if c.getD s 0 * size / n = 0 then min (c.getD s 0) 1 else c.getD s 0 * size / n := by
  unfold qBase; rw [mapI_getD c _ s hs]
theorem rest_at {c : List Int} {size n : Int} (s : Nat) (hs : s < c.length) : (rest0 c size n).getD s 0 = c.getD s 0 * size % n := by
  unfold rest0; rw [mapI_getD c _ s hs]
theorem had_at {c : List Int} {size n : Int} (s : Nat) (hs : s < c.length) : (had0 c size n).getD s false = decide (c.getD s 0 * size / n = 0) := by
  unfold had0; rw [mapB_getD c _ s hs]

/-- behind the gifts: a count, and what it was -/
theorem Fit.given {c : List Int} {size : Int} (h : Fit c size) (s : Nat) (hs : s < 256) :
    ((gaveC c size (tot c)).getD s 0 = 0 ∧ c.getD s 0 = 0) ∨ ((gaveC c size (tot c)).getD s 0 = 1 ∧ 0 < c.getD s 0 ∧ c.getD s 0 * size / tot c = 0) ∨
    (0 < c.getD s 0 ∧ 0 < c.getD s 0 * size / tot c ∧ ((gaveC c size (tot c)).getD s 0 = c.getD s 0 * size / tot c ∨ ((gaveC c size (tot c)).getD s 0 = c.getD s 0 * size / tot c + 1 ∧ 0 < c.getD s 0 * size % tot c))) := by
  have g := h.gave
  have hl : s < c.length := by rw [h.len]; exact hs
  have hv := g.val s hs
  have hso := g.some s hs
  rw [base_at s hl, had_at s hl] at hv
  rw [had_at s hl, rest_at s hl] at hso
  have hx := h.at s hs
  obtain ⟨d1, d2, d3, d4, d5⟩ := div_parts (c.getD s 0) size (tot c) h.some hx h.sz
  unfold gaveC
  generalize giveN (rest0 c size (tot c)) (size - tot (qBase c size (tot c))).toNat (qBase c size (tot c)) (had0 c size (tot c)) = p at *
  by_cases hq : c.getD s 0 * size / tot c = 0
  · rw [if_pos hq, if_neg (fun hh => by rw [decide_eq_true hq] at hh; exact Bool.noConfusion hh.1)] at hv
    by_cases hc0 : c.getD s 0 = 0
    · left; exact ⟨by rw [hv]; omega, hc0⟩
    · right; left; exact ⟨by rw [hv]; omega, by omega, hq⟩
  · right; right
    have hcp : 0 < c.getD s 0 := by
      rcases Int.lt_or_eq_of_le hx with h1 | h1
      · exact h1
      · rw [← h1] at hq; simp at hq
    refine ⟨hcp, by omega, ?_⟩
    rw [if_neg hq] at hv
    cases hp2 : p.2.getD s false with
    | false => left; rw [if_neg (fun hh => by rw [hp2] at hh; exact Bool.noConfusion hh.2)] at hv; omega
    | true =>
      right
      rw [if_pos ⟨decide_eq_false hq, hp2⟩] at hv
      exact ⟨hv, hso (decide_eq_false hq) hp2⟩

theorem div_mono {x y size n : Int} (hn : 0 < n) (hs : 0 < size) (h : x ≤ y) : x * size / n ≤ y * size / n :=
  Int.ediv_le_ediv hn (Int.mul_le_mul_of_nonneg_right h (by omega))

theorem Fit.givenOrder {c : List Int} {size : Int} (h : Fit c size) (a b : Nat) (ha : a < 256) (hb : b < 256) (hab : c.getD b 0 < c.getD a 0) : (gaveC c size (tot c)).getD b 0 ≤ (gaveC c size (tot c)).getD a 0 := by
  have ga := h.given a ha
  have gb := h.given b hb
  have hm := div_mono (n := tot c) h.some h.sz (Int.le_of_lt hab)
  have hxa := h.at a ha
  have hxb := h.at b hb
  by_cases hq : c.getD b 0 * size / tot c = c.getD a 0 * size / tot c ∧ 0 < c.getD b 0 * size / tot c
  · -- like quotients: who has more left is first
    have hla : a < c.length := by rw [h.len]; exact ha
    have hlb : b < c.length := by rw [h.len]; exact hb
    have g := h.gave
    have hva := g.val a ha
    have hvb := g.val b hb
    have hfi := g.first b a hb ha
    rw [base_at a hla, had_at a hla] at hva
    rw [base_at b hlb, had_at b hlb] at hvb
    rw [had_at b hlb, rest_at a hla, rest_at b hlb] at hfi
    obtain ⟨a1, a2, a3, a4, a5⟩ := div_parts (c.getD a 0) size (tot c) h.some hxa h.sz
    obtain ⟨b1, b2, b3, b4, b5⟩ := div_parts (c.getD b 0) size (tot c) h.some hxb h.sz
    have hlt : c.getD b 0 * size < c.getD a 0 * size := Int.mul_lt_mul_of_pos_right hab h.sz
    unfold gaveC
    generalize giveN (rest0 c size (tot c)) (size - tot (qBase c size (tot c))).toNat (qBase c size (tot c)) (had0 c size (tot c)) = p at *
    rw [if_neg (by omega)] at hva hvb
    rw [hva, hvb]
    cases hpb : p.2.getD b false with
    | false => rw [if_neg (show ¬ (_ ∧ false = true) from fun hh => Bool.noConfusion hh.2)]; split <;> omega
    | true =>
      cases hpa : p.2.getD a false with
      | true =>
        rw [if_pos ⟨decide_eq_false (by omega), rfl⟩, if_pos ⟨decide_eq_false (by omega), rfl⟩]; omega
      | false =>
        exfalso
        have := hfi (decide_eq_false (by omega)) hpb hpa
        rw [hq.1] at b2
        rcases this with h1 | h1 <;> omega
  · rcases ga with ⟨ga, ga'⟩ | ⟨ga, ga', ga''⟩ | ⟨ga, ga', ga''⟩ <;> rcases gb with ⟨gb, gb'⟩ | ⟨gb, gb', gb''⟩ | ⟨gb, gb', gb''⟩ <;> omega

theorem Fit.took0 {c : List Int} {size : Int} (h : Fit c size) : Took c (gaveC c size (tot c)) 0 (gaveC c size (tot c)) := by
  refine ⟨h.gave.len1, by simp, fun s hs => ?_, fun s _ => Int.le_refl _, fun a b ha hb hab => h.givenOrder a b ha hb hab⟩
  have := h.given s hs
  rcases this with ⟨g, g'⟩ | ⟨g, g', _⟩ | ⟨g, g', g''⟩ <;> omega

theorem Fit.gaveSum {c : List Int} {size : Int} (h : Fit c size) : tot (gaveC c size (tot c)) = max size (tot (qBase c size (tot c))) := by
  have := h.gave.sum
  unfold gaveC
  rw [this]; omega

theorem Fit.took {c : List Int} {size : Int} (h : Fit c size) : Took c (gaveC c size (tot c)) (tot (gaveC c size (tot c)) - size).toNat (normC c size) := by
  have hg := h.gaveSum
  have hm := h.many
  exact Go.Proofs.Ytokeoebhmjefoaa.took h.len h.took0 _ (by omega)

theorem norm_len {c : List Int} {size : Int} (h : Fit c size) : (normC c size).length = 256 := h.took.len
theorem norm_sum {c : List Int} {size : Int} (h : Fit c size) : tot (normC c size) = size := by
  have := h.took.sum
  have := h.gaveSum
  omega
theorem norm_pos {c : List Int} {size : Int} (h : Fit c size) (s : Nat) (hs : s < 256) : 0 ≤ (normC c size).getD s 0 ∧ (0 < (normC c size).getD s 0 ↔ 0 < c.getD s 0) := h.took.low s hs
theorem norm_order {c : List Int} {size : Int} (h : Fit c size) (a b : Nat) (ha : a < 256) (hb : b < 256) (hab : c.getD b 0 < c.getD a 0) : (normC c size).getD b 0 ≤ (normC c size).getD a 0 := h.took.order a b ha hb hab
theorem norm_nonneg {c : List Int} {size : Int} (h : Fit c size) : ∀ x ∈ normC c size, 0 ≤ x := by
  intro x hx
  obtain ⟨i, hi, rfl⟩ := List.mem_iff_getElem.1 hx
  rw [norm_len h] at hi
  have := (norm_pos h i hi).1
  rwa [List.getD_eq_getElem?_getD, List.getElem?_eq_getElem (by rw [norm_len h]; exact hi)] at this

/-- none has its part and one, or more -/
theorem norm_near {c : List Int} {size : Int} (h : Fit c size) (s : Nat) (hs : s < 256) : (normC c size).getD s 0 * tot c < c.getD s 0 * size + tot c := by
  have ht := h.took.top s hs
  have hg := h.given s hs
  have hx := h.at s hs
  have hn := h.some
  obtain ⟨d1, d2, d3, d4, d5⟩ := div_parts (c.getD s 0) size (tot c) h.some hx h.sz
  have hle : (normC c size).getD s 0 * tot c ≤ (gaveC c size (tot c)).getD s 0 * tot c := Int.mul_le_mul_of_nonneg_right ht (by omega)
  rcases hg with ⟨g, g'⟩ | ⟨g, g', g''⟩ | ⟨g, g', g''⟩
  · rw [g, Int.zero_mul] at hle; omega
  · have : 0 < c.getD s 0 * size := Int.mul_pos g' h.sz
    rw [g, Int.one_mul] at hle; omega
  · rcases g'' with g2 | ⟨g2, g3⟩
    · rw [g2, Int.mul_comm (c.getD s 0 * size / tot c)] at hle; omega
    · rw [g2, Int.add_mul, Int.one_mul, Int.mul_comm (c.getD s 0 * size / tot c)] at hle; omega

theorem zc_zero (size n : Int) (c : List Int) (h : ∀ x ∈ c, 0 < x → ¬ x * size / n = 0) : zc size n c = 0 := by
  induction c with
  | nil => rfl
  | cons x r ih =>
    simp only [zc]
    rw [ih (fun y hy => h y (by simp [hy])), if_neg (fun hh => h x (by simp) hh.1 hh.2)]

theorem tot_rest_nonneg (size n : Int) (hn : 0 < n) (c : List Int) : 0 ≤ tot (rest0 c size n) := by
  refine tot_nonneg _ fun x hx => ?_
  simp only [rest0, List.mem_map] at hx
  obtain ⟨y, _, rfl⟩ := hx
  exact Int.emod_nonneg _ (by omega)

/-- where none is raised, none lacks one or more -/
theorem norm_near2 {c : List Int} {size : Int} (h : Fit c size) (hr : ∀ s, s < 256 → 0 < c.getD s 0 → tot c ≤ c.getD s 0 * size) (s : Nat) (hs : s < 256) : c.getD s 0 * size - tot c < (normC c size).getD s 0 * tot c := by
  have hn := h.some
  have hz : zc size (tot c) c = 0 := zc_zero size (tot c) c fun x hx h0 hq => by
    obtain ⟨i, hi, rfl⟩ := List.mem_iff_getElem.1 hx
    have h1 := hr i (by rw [← h.len]; exact hi)
    rw [List.getD_eq_getElem?_getD, List.getElem?_eq_getElem hi] at h1
    simp only [Option.getD_some] at h1
    have h2 := h1 h0
    have h3 := Int.mul_ediv_add_emod (c[i] * size) (tot c)
    have h4 := Int.emod_lt_of_pos (c[i] * size) hn
    rw [hq, Int.mul_zero] at h3
    omega
  have hb := base_sum size (tot c) c h.low
  have hp := sum_parts size (tot c) c
  have hrn := tot_rest_nonneg size (tot c) hn c
  rw [hz] at hb
  have hle : tot (qBase c size (tot c)) ≤ size := by
    have h1 : tot c * tot (q0L c size (tot c)) ≤ tot c * size := by omega
    have := Int.le_of_mul_le_mul_left h1 hn
    omega
  have hgs := h.gaveSum
  have hN : normC c size = gaveC c size (tot c) := by
    unfold normC
    rw [show (tot (gaveC c size (tot c)) - size).toNat = 0 by omega]; rfl
  rw [hN]
  have hg := h.given s hs
  have hx := h.at s hs
  obtain ⟨d1, d2, d3, d4, d5⟩ := div_parts (c.getD s 0) size (tot c) h.some hx h.sz
  rcases hg with ⟨g, g'⟩ | ⟨g, g', g''⟩ | ⟨g, g', g''⟩
  · rw [g, g', Int.zero_mul, Int.zero_mul]; omega
  · have := hr s hs g'
    rw [g'', Int.mul_zero] at d2; omega
  · rcases g'' with g2 | ⟨g2, g3⟩
    · rw [g2, Int.mul_comm (c.getD s 0 * size / tot c)]; omega
    · rw [g2, Int.add_mul, Int.one_mul, Int.mul_comm (c.getD s 0 * size / tot c)]; omega

/-- what is normalized stays as it is -/
theorem norm_again {q : List Int} (_h0 : ∀ x ∈ q, 0 ≤ x) (hp : 0 < tot q) : normC q (tot q) = q := by
  have hb : qBase q (tot q) (tot q) = q := by
    have hid : q.map (fun x => if x * tot q / tot q = 0 then min x 1 else x * tot q / tot q) = q.map id := by
      apply List.map_congr_left
      intro x hx
      have hd : x * tot q / tot q = x := Int.mul_ediv_cancel x (by omega)
      rw [hd]
      by_cases hx0 : x = 0
      · rw [if_pos hx0, hx0]; rfl
      · rw [if_neg hx0]; rfl
    unfold qBase
    rw [hid, List.map_id]
  have hg : gaveC q (tot q) (tot q) = q := by
    unfold gaveC
    rw [hb, show (tot q - tot q).toNat = 0 by omega]; rfl
  unfold normC
  rw [hg, show (tot q - tot q).toNat = 0 by omega]; rfl

theorem tot_times (c : List Int) (f : Int) : tot (c.map (· * f)) = tot c * f := by
  induction c with
  | nil => simp [tot]
  | cons x r ih => simp only [List.map_cons, tot, ih, Int.add_mul]

/-- so many times as great, they are the same -/
theorem norm_times {c : List Int} {size f : Int} (h0 : ∀ x ∈ c, 0 ≤ x) (hf : 0 < f) : normC (c.map (· * f)) size = normC c size := by
  have hb : qBase (c.map (· * f)) size (tot c * f) = qBase c size (tot c) := by
    unfold qBase
    rw [List.map_map]
    apply List.map_congr_left
    intro x hx
    have hx0 := h0 x hx
    have hd : x * f * size / (tot c * f) = x * size / tot c := by
      rw [show x * f * size = x * size * f by rw [Int.mul_assoc, Int.mul_comm f size, ← Int.mul_assoc], Int.mul_ediv_mul_of_pos_left _ _ hf]
    simp only [Function.comp]
    rw [hd]
    by_cases hx1 : x = 0
    · subst hx1; simp
    · have hxf : 1 ≤ x * f := by
        have := Int.mul_pos (show 0 < x by omega) hf
        omega
      rw [show min (x * f) 1 = min x 1 by omega]
  have hr : rest0 (c.map (· * f)) size (tot c * f) = (rest0 c size (tot c)).map (· * f) := by
    unfold rest0
    rw [List.map_map, List.map_map]
    apply List.map_congr_left
    intro x hx
    simp only [Function.comp]
    rw [show x * f * size = f * (x * size) by rw [Int.mul_assoc, Int.mul_comm f size, ← Int.mul_assoc, Int.mul_comm], Int.mul_comm (tot c) f, Int.mul_emod_mul_of_pos _ _ hf, Int.mul_comm]
  have hh : had0 (c.map (· * f)) size (tot c * f) = had0 c size (tot c) := by
    unfold had0
    rw [List.map_map]
    apply List.map_congr_left
    intro x hx
    have hd : x * f * size / (tot c * f) = x * size / tot c := by
      rw [show x * f * size = x * size * f by rw [Int.mul_assoc, Int.mul_comm f size, ← Int.mul_assoc], Int.mul_ediv_mul_of_pos_left _ _ hf]
    simp only [Function.comp]
    rw [hd]
  have hg : gaveC (c.map (· * f)) size (tot c * f) = gaveC c size (tot c) := by
    unfold gaveC
    rw [hb, hr, hh, give_times _ f hf]
  unfold normC
  rw [tot_times, hg, takeN_times c f hf]

end Go.Proofs.Ytokeoebhmjefoaa

/- Bits as a row of bools in memory. -/
namespace Go.Proofs.Ytokeoebhmjefoaa
open Go.RowKit

def bl (bs : List Bool) : List Value := bs.map Value.bool
theorem bl_length (bs : List Bool) : (bl bs).length = bs.length := by simp [bl]
theorem bl_one (bs : List Bool) : ∀ u ∈ bl bs, u.oneCell' = true := by
  intro u hu
  simp only [bl, List.mem_map] at hu
  obtain ⟨x, _, rfl⟩ := hu
  rfl
theorem bl_get (bs : List Bool) (i : Nat) (h : i < bs.length) : (bl bs)[i]? = some (.bool bs[i]) := by simp [bl, List.getElem?_eq_getElem h]
theorem Try.infoBool : (Try.prog.info? 4).map (fun i => (i.zero, i.size, i.bytes)) = some (some (.bool false), 1, 1) := by kernel_rfl

end Go.Proofs.Ytokeoebhmjefoaa

/- A block that is a row of bools. -/
namespace Go.Proofs.Ytokeoebhmjefoaa
open Go.RowKit

/-- A block that is a row of bools. -/
def RowT (w : World) (g : Nat) (t : TypeId) (hs : List Bool) : Prop := w.heap[g]? = some (.cells (bl hs).toArray t (0, 0))
theorem bl_getD (hs : List Bool) (k : Nat) (hk : k < hs.length) : (bl hs)[k]? = some (.bool (hs.getD k false)) := by simp [bl, List.getElem?_eq_getElem hk]
theorem bl_setT (hs : List Bool) (i : Nat) (z : Bool) : (bl hs).set i (.bool z) = bl (hs.set i z) := by simp [bl, List.map_set]
theorem RowT.cell {w : World} {g : Nat} {t : TypeId} {hs : List Bool} (h : RowT w g t hs) (k : Nat) (hk : k < hs.length) : w.cell? ⟨g, k, none⟩ = some (.bool (hs.getD k false)) := by
  rw [cell_of_row w g k _ _ _ h, List.getElem?_toArray, bl_getD hs k hk]
theorem RowT.free {w : World} {g : Nat} {t : TypeId} {hs : List Bool} (h : RowT w g t hs) (k : Nat) : w.frozen? ⟨g, k, none⟩ = false := frozen_of_row w g k _ _ h
theorem RowT.kept {S : Nat → Prop} {w w' : World} {g : Nat} {t : TypeId} {hs : List Bool} (h : RowT w g t hs) (hc : Chg S w w') (hS : ¬ S g) : RowT w' g t hs := (hc.block g (lt_of_block h) hS).trans h
theorem RowT.lt {w : World} {g : Nat} {t : TypeId} {hs : List Bool} (h : RowT w g t hs) : g < w.heap.size := lt_of_block h
theorem RowT.set {w : World} {g : Nat} {t : TypeId} {hs : List Bool} (h : RowT w g t hs) (i : Nat) (z : Bool) : RowT (w.setCell ⟨g, i, none⟩ (.bool z)) g t (hs.set i z) := by
  have := heap_setCell_same w g i _ _ (.bool z) h
  unfold RowT
  rw [this, List.setIfInBounds_toArray, bl_setT]

end Go.Proofs.Ytokeoebhmjefoaa

/- What the document's own norm (puncheonref08) tells: power, sum, neediest, richest. -/
namespace Go.Proofs.Ytokeoebhmjefoaa
open Go.RowKit

set_option maxHeartbeats 1000000 in
theorem r8power_any (r : Nat) (w : World) (hr : r ≤ 40) : Calls Try.prog 76 #[.int .i64 (r : Int)] w fun e w' => e = .returned (.int .i64 ((2 ^ r : Nat) : Int)) ∧ w' = w := by
  have HR := Lib.hid hr
  have hrI : (r : Int) ≤ 40 := by omega
  clear hr
  go_enter Try.func76, Try.ntmps76
  go_wp2
  go_loopw [3, 4] (fun o3 o4 wr => ∃ k P : Nat, k ≤ r ∧ o4 = .int .i64 (k : Int) ∧ o3 = .int .i64 (P : Int) ∧ P = 2 ^ k ∧ wr = w) (fun _ o4 _ => r - (intOf o4).toNat)
  case atStart => exact ⟨0, 1, Nat.zero_le _, rfl, rfl, rfl, rfl⟩
  case round =>
    obtain ⟨k, P, hk, rfl, rfl, hP, rfl⟩ := hrel
    have hP2 : P ≤ 2 ^ 40 := by rw [hP]; exact pow_le (by have := HR.out; omega)
    have hP3 : (P : Int) ≤ 1099511627776 := by
      have : (2 : Nat) ^ 40 = 1099511627776 := by decide
      omega
    by_cases hlt : k < r
    · have hsu : 2 * P = 2 ^ (k + 1) := by rw [hP, two_pow_succ k]
      have HS := Lib.hid hsu
      clear hsu hP hP2
      go_wp2
      go_roundw
      case rel => exact ⟨k + 1, 2 * P, by omega, by go_num, by go_num, HS.out, trivial⟩
      case measure => simp [intOf]; omega
    · obtain rfl : k = r := by omega
      have HP := Lib.hid hP
      clear hP hP2
      go_wp2
      go_ret
      rw [← HP.out]
      exact ⟨rfl, rfl⟩

set_option maxHeartbeats 1000000 in
theorem r8sum_any (v : Value) (q : List Int) (w : World) (h : RdI w v q) (hb : ∀ z ∈ q, 0 ≤ z ∧ z ≤ 4294967296) (hl : q.length ≤ 1000) :
    Calls Try.prog 91 #[v] w fun e w' => e = .returned (.int .i64 (tot q)) ∧ w' = w := by
  obtain ⟨ao, cap, rfl⟩ := h.form
  have H := Lib.hid h; have HB := Lib.hid hb
  have hlI : (q.length : Int) ≤ 1000 := by omega
  have HL := Lib.hid hl
  clear h hb hl
  go_enter Try.func91, Try.ntmps91
  go_wp2
  go_loopw [3, 4] (fun o3 o4 wr => ∃ k : Nat, k ≤ q.length ∧ o4 = .int .i64 (k : Int) ∧ o3 = .int .i64 (tot (q.take k)) ∧ 0 ≤ tot (q.take k) ∧ tot (q.take k) ≤ 4294967296 * (k : Int) ∧ wr = w) (fun _ o4 _ => q.length - (intOf o4).toNat)
  case atStart => exact ⟨0, Nat.zero_le _, rfl, rfl, by simp [tot], by simp [tot], rfl⟩
  case round =>
    obtain ⟨k, hk, rfl, rfl, h0, h1, rfl⟩ := hrel
    by_cases hlt : k < q.length
    · obtain ⟨g, off, rfl, hc⟩ := H.out.at k hlt
      have hsu := tot_take_succ q k hlt
      have hbk := HB.out _ (getD_mem hlt)
      obtain ⟨x, hx⟩ : ∃ x, q.getD k 0 = x := ⟨_, rfl⟩
      obtain ⟨t, ht⟩ : ∃ t, tot (q.take k) = t := ⟨_, rfl⟩
      rw [hx] at hc hsu hbk
      rw [ht] at hsu h0 h1 ⊢
      have hkl := HL.out
      have ht2 : t ≤ 4294967296000 := by omega
      obtain ⟨hx0, hx1⟩ := hbk
      have HSU := Lib.hid hsu; have H1 := Lib.hid h1
      clear hx ht hsu h1 hkl
      go_wp2
      go_roundw
      case rel => exact ⟨k + 1, by omega, by go_num, by rw [HSU.out], by rw [HSU.out]; omega, by rw [HSU.out]; have := H1.out; omega, trivial⟩
      case measure => simp [intOf]; omega
    · obtain rfl : k = q.length := by omega
      rw [List.take_length]
      clear h0 h1
      go_wp2
      go_ret
      exact ⟨rfl, rfl⟩

/-- an index, or -1 -/
def idx : Option Nat → Int
  | none => -1
  | some b => (b : Int)

set_option maxHeartbeats 2000000 in
set_option maxRecDepth 100000 in
theorem r8neediest_any (g h : Nat) (t u : TypeId) (rest : List Int) (had : List Bool) (w : World) (hr : RowI w g t rest) (hh : RowT w h u had) (hl : rest.length = 256) (hl2 : had.length = 256) :
    Calls Try.prog 92 #[.slice (some ⟨g, 0, none⟩) 256 256, .slice (some ⟨h, 0, none⟩) 256 256] w fun e w' => e = .returned (.int .i64 (idx (needyTo rest had 256))) ∧ ∃ m, w' = w.drewN m := by
  obtain ⟨N, hN⟩ : ∃ N, needyTo rest had 256 = N := ⟨_, rfl⟩
  rw [hN]
  have HN := Lib.hid hN; have HR := Lib.hid hr; have HH := Lib.hid hh; have HL := Lib.hid hl; have HL2 := Lib.hid hl2
  clear hN hr hh hl hl2
  go_enter Try.func92, Try.ntmps92
  go_wp2
  go_loopw [5, 6] (fun o5 o6 wr => ∃ s : Nat, s ≤ 256 ∧ o6 = .int .i64 (s : Int) ∧ o5 = .int .i64 (idx (needyTo rest had s)) ∧ ∃ m, wr = w.drewN m) (fun _ o6 _ => 256 - (intOf o6).toNat)
  case atStart => exact ⟨0, Nat.zero_le _, rfl, rfl, 0, rfl⟩
  case round =>
    obtain ⟨s, hs, rfl, rfl, m, rfl⟩ := hrel
    by_cases hlt : s < 256
    · have d8 : decide ((s : Int) < 256) = true := by simp; omega
      have hsI : (s : Int) < 256 := by omega
      have c1 := HH.out.cell s (by rw [HL2.out]; exact hlt)
      have c2 := HR.out.cell s (by rw [HL.out]; exact hlt)
      have hst : needyTo rest had (s + 1) = match needyTo rest had s with
        | none => if had.getD s false then none else some s
        | some b => if had.getD s false = false ∧ rest.getD b 0 < rest.getD s 0 then some s else some b := rfl
      cases hn : needyTo rest had s with
      | none =>
        rw [hn] at hst
        simp only at hst
        cases hhs : had.getD s false with
        | true =>
          rw [hhs] at hst c1
          have HST := Lib.hid hst
          clear hst hn hhs
          simp only [idx]
          go_wp2
          go_quiet (fail)
          go_wp2
          go_roundw
          case rel => exact ⟨s + 1, by omega, by go_num, by rw [HST.out] <;> rfl, m + nq, rfl⟩
          case measure => simp [intOf]; omega
        | false =>
          rw [hhs] at hst c1
          have HST := Lib.hid hst
          clear hst hn hhs
          simp only [idx]
          go_wp2
          go_quiet (fail)
          go_wp2
          go_roundw
          case rel => exact ⟨s + 1, by omega, by go_num, by rw [HST.out] <;> rfl, m + nq, rfl⟩
          case measure => simp [intOf]; omega
      | some b =>
        have hb := (needy_some rest had s b hn).1
        have hb256 : b < 256 := by omega
        have hbI : (b : Int) < 256 := by omega
        have c3 := HR.out.cell b (by rw [HL.out]; exact hb256)
        rw [hn] at hst
        simp only at hst
        have hneg : decide ((b : Int) < 0) = false := by simp
        obtain ⟨x, hx⟩ : ∃ x, rest.getD s 0 = x := ⟨_, rfl⟩
        obtain ⟨y, hy⟩ : ∃ y, rest.getD b 0 = y := ⟨_, rfl⟩
        rw [hx] at hst c2
        rw [hy] at hst c3
        clear hx hy hn
        cases hhs : had.getD s false with
        | true =>
          rw [hhs] at hst c1
          rw [if_neg (by simp)] at hst
          have HST := Lib.hid hst
          clear hst hhs
          simp only [idx]
          go_wp2
          go_quiet (fail)
          go_wp2
          go_roundw
          case rel => exact ⟨s + 1, by omega, by go_num, by rw [HST.out] <;> rfl, m + nq, rfl⟩
          case measure => simp [intOf]; omega
        | false =>
          rw [hhs] at hst c1
          by_cases hyx : y < x
          · have d1 : decide (y < x) = true := decide_eq_true hyx
            rw [if_pos ⟨rfl, hyx⟩] at hst
            have HST := Lib.hid hst
            clear hst hhs
            simp only [idx]
            go_wp2
            go_quiet (fail)
            go_wp2
            go_roundw
            case rel => exact ⟨s + 1, by omega, by go_num, by rw [HST.out] <;> rfl, m + nq, rfl⟩
            case measure => simp [intOf]; omega
          · have d1 : decide (y < x) = false := decide_eq_false hyx
            rw [if_neg (fun hh => hyx hh.2)] at hst
            have HST := Lib.hid hst
            clear hst hhs
            simp only [idx]
            go_wp2
            go_quiet (fail)
            go_wp2
            go_roundw
            case rel => exact ⟨s + 1, by omega, by go_num, by rw [HST.out] <;> rfl, m + nq, rfl⟩
            case measure => simp [intOf]; omega
    · obtain rfl : s = 256 := by omega
      rw [HN.out]
      go_wp2
      go_ret
      exact ⟨rfl, m, rfl⟩

set_option maxHeartbeats 2000000 in
set_option maxRecDepth 100000 in
theorem r8richest_any (g h o cap : Nat) (t : TypeId) (q c : List Int) (w : World) (hr : RowI w g t q) (hh : RdI w (.slice (some ⟨h, o, none⟩) 256 cap) c) (hl : q.length = 256) (hl2 : c.length = 256) :
    Calls Try.prog 93 #[.slice (some ⟨g, 0, none⟩) 256 256, .slice (some ⟨h, o, none⟩) 256 cap] w fun e w' => e = .returned (.int .i64 ((richTo q c 255 : Nat) : Int)) ∧ ∃ m, w' = w.drewN m := by
  obtain ⟨N, hN⟩ : ∃ N, richTo q c 255 = N := ⟨_, rfl⟩
  rw [hN]
  have hcell : ∀ k, k < 256 → w.cell? ⟨h, o + k, none⟩ = some (.int .i64 (c.getD k 0)) := fun k hk => by
    obtain ⟨g', o', he, hc⟩ := hh.at k (by omega)
    simp only [Option.some.injEq, Addr.mk.injEq] at he
    obtain ⟨rfl, rfl, -⟩ := he
    exact hc
  have HN := Lib.hid hN; have HR := Lib.hid hr; have HC := Lib.hid hcell; have HL := Lib.hid hl
  clear hN hr hh hl hl2 hcell
  go_enter Try.func93, Try.ntmps93
  go_wp2
  go_loopw [5, 6] (fun o5 o6 wr => ∃ s : Nat, s ≤ 255 ∧ o6 = .int .i64 ((s + 1 : Nat) : Int) ∧ o5 = .int .i64 ((richTo q c s : Nat) : Int) ∧ ∃ m, wr = w.drewN m) (fun _ o6 _ => 256 - (intOf o6).toNat)
  case atStart => exact ⟨0, Nat.zero_le _, rfl, rfl, 0, rfl⟩
  case round =>
    obtain ⟨s, hs, rfl, rfl, m, rfl⟩ := hrel
    have hb := (rich_spec q c s).1
    by_cases hlt : s < 255
    · have d8 : decide ((((s + 1 : Nat)) : Int) < 256) = true := by simp; omega
      have hsI : (s : Int) + 1 < 256 := by omega
      have hst : richTo q c (s + 1) = if q.getD (richTo q c s) 0 < q.getD (s + 1) 0 ∨ (q.getD (s + 1) 0 = q.getD (richTo q c s) 0 ∧ c.getD (s + 1) 0 ≤ c.getD (richTo q c s) 0) then s + 1 else richTo q c s := rfl
      have c1 := HR.out.cell (s + 1) (by rw [HL.out]; omega)
      have c2 := HR.out.cell (richTo q c s) (by rw [HL.out]; omega)
      have c3 := HC.out (s + 1) (by omega)
      have c4 := HC.out (richTo q c s) (by omega)
      obtain ⟨b, hbe⟩ : ∃ b, richTo q c s = b := ⟨_, rfl⟩
      rw [hbe] at hst c2 c4 hb ⊢
      clear hbe
      obtain ⟨x, hx⟩ : ∃ x, q.getD (s + 1) 0 = x := ⟨_, rfl⟩
      obtain ⟨y, hy⟩ : ∃ y, q.getD b 0 = y := ⟨_, rfl⟩
      obtain ⟨x2, hx2⟩ : ∃ x2, c.getD (s + 1) 0 = x2 := ⟨_, rfl⟩
      obtain ⟨y2, hy2⟩ : ∃ y2, c.getD b 0 = y2 := ⟨_, rfl⟩
      rw [hx] at hst c1
      rw [hy] at hst c2
      rw [hx2] at hst c3
      rw [hy2] at hst c4
      have hbI : (b : Int) < 256 := by omega
      clear hx hy hx2 hy2
      by_cases h1 : y < x
      · have d1 : decide (y < x) = true := decide_eq_true h1
        rw [if_pos (.inl h1)] at hst
        have HST := Lib.hid hst
        clear hst
        go_wp2
        go_quiet (fail)
        go_wp2
        go_roundw
        case rel => exact ⟨s + 1, by omega, by go_num, by rw [HST.out] <;> go_num, m + nq, rfl⟩
        case measure => simp [intOf]; omega
      · have d1 : decide (y < x) = false := decide_eq_false h1
        by_cases h2 : x = y
        · subst h2
          by_cases h3 : x2 ≤ y2
          · have d3 : decide (x2 ≤ y2) = true := decide_eq_true h3
            rw [if_pos (.inr ⟨rfl, h3⟩)] at hst
            have HST := Lib.hid hst
            clear hst
            go_wp2
            go_quiet (fail)
            go_wp2
            go_roundw
            case rel => exact ⟨s + 1, by omega, by go_num, by rw [HST.out] <;> go_num, m + nq, rfl⟩
            case measure => simp [intOf]; omega
          · have d3 : decide (x2 ≤ y2) = false := decide_eq_false h3
            rw [if_neg (fun hh => hh.elim h1 (fun hh => h3 hh.2))] at hst
            have HST := Lib.hid hst
            clear hst
            go_wp2
            go_quiet (fail)
            go_wp2
            go_roundw
            case rel => exact ⟨s + 1, by omega, by go_num, by rw [HST.out], m + nq, rfl⟩
            case measure => simp [intOf]; omega
        · have d2 : (x == y) = false := by simp [h2]
          rw [if_neg (fun hh => hh.elim h1 (fun hh => h2 hh.1))] at hst
          have HST := Lib.hid hst
          clear hst
          go_wp2
          go_quiet (fail)
          go_wp2
          go_roundw
          case rel => exact ⟨s + 1, by omega, by go_num, by rw [HST.out], m + nq, rfl⟩
          case measure => simp [intOf]; omega
    · obtain rfl : s = 255 := by omega
      rw [HN.out]
      go_wp2
      go_ret
      exact ⟨rfl, m, rfl⟩

end Go.Proofs.Ytokeoebhmjefoaa

/- What the document's own Counts (puncheonref08) tells. -/
namespace Go.Proofs.Ytokeoebhmjefoaa
open Go.RowKit

/-- filled up to the k-th -/
def fillI (f : Nat → Int) (k : Nat) : List Int := (List.range 256).map fun i => if i < k then f i else 0
def fillB (f : Nat → Bool) (k : Nat) : List Bool := (List.range 256).map fun i => if i < k then f i else false
theorem fillI_length (f : Nat → Int) (k : Nat) : (fillI f k).length = 256 := by simp [fillI]
theorem fillB_length (f : Nat → Bool) (k : Nat) : (fillB f k).length = 256 := by simp [fillB]
theorem fillI_getD (f : Nat → Int) (k i : Nat) (h : i < 256) : (fillI f k).getD i 0 = if i < k then f i else 0 := by simp [fillI, List.getD_eq_getElem?_getD, h]
theorem fillB_getD (f : Nat → Bool) (k i : Nat) (h : i < 256) : (fillB f k).getD i false = if i < k then f i else false := by simp [fillB, List.getD_eq_getElem?_getD, h]
theorem extB_getD {a b : List Bool} (hl : a.length = b.length) (h : ∀ k, k < a.length → a.getD k false = b.getD k false) : a = b := by
  apply List.ext_getElem hl
  intro i h1 h2
  have := h i h1
  rwa [List.getD_eq_getElem?_getD, List.getD_eq_getElem?_getD, List.getElem?_eq_getElem h1, List.getElem?_eq_getElem h2] at this
theorem fillI_zero (f : Nat → Int) : fillI f 0 = List.replicate 256 0 := by
  apply ext_getD (by rw [fillI_length, List.length_replicate])
  intro k hk
  rw [fillI_length] at hk
  rw [fillI_getD _ _ _ hk, if_neg (by omega), List.getD_eq_getElem?_getD, List.getElem?_replicate, if_pos hk]; rfl
theorem fillB_zero (f : Nat → Bool) : fillB f 0 = List.replicate 256 false := by
  apply extB_getD (by rw [fillB_length, List.length_replicate])
  intro k hk
  rw [fillB_length] at hk
  rw [fillB_getD _ _ _ hk, if_neg (by omega), List.getD_eq_getElem?_getD, List.getElem?_replicate, if_pos hk]; rfl
theorem fillI_set (f : Nat → Int) (k : Nat) (hk : k < 256) : (fillI f k).set k (f k) = fillI f (k + 1) := by
  apply ext_getD (by rw [List.length_set, fillI_length, fillI_length])
  intro u hu
  rw [List.length_set, fillI_length] at hu
  rw [fillI_getD _ _ _ hu, iset_getD _ _ _ _ (by rw [fillI_length]; exact hk), fillI_getD _ _ _ hu]
  by_cases h : k = u
  · subst h; rw [if_pos rfl, if_pos (by omega)]
  · rw [if_neg h]
    by_cases h2 : u < k
    · rw [if_pos h2, if_pos (by omega)]
    · rw [if_neg h2, if_neg (by omega)]
theorem fillB_set (f : Nat → Bool) (k : Nat) (hk : k < 256) : (fillB f k).set k (f k) = fillB f (k + 1) := by
  apply extB_getD (by rw [List.length_set, fillB_length, fillB_length])
  intro u hu
  rw [List.length_set, fillB_length] at hu
  rw [fillB_getD _ _ _ hu, bset_getD _ _ _ _ (by rw [fillB_length]; exact hk), fillB_getD _ _ _ hu]
  by_cases h : k = u
  · subst h; rw [if_pos rfl, if_pos (by omega)]
  · rw [if_neg h]
    by_cases h2 : u < k
    · rw [if_pos h2, if_pos (by omega)]
    · rw [if_neg h2, if_neg (by omega)]
theorem fillB_skip (f : Nat → Bool) (k : Nat) (hk : k < 256) (hf : f k = false) : fillB f k = fillB f (k + 1) := by
  rw [← fillB_set f k hk, hf]
  apply extB_getD (by rw [List.length_set])
  intro u hu
  rw [fillB_length] at hu
  rw [bset_getD _ _ _ _ (by rw [fillB_length]; exact hk)]
  by_cases h : k = u
  · subst h; rw [if_pos rfl, fillB_getD _ _ _ hu, if_neg (by omega)]
  · rw [if_neg h]
theorem fillI_all (f : Nat → Int) (l : List Int) (hl : l.length = 256) (h : ∀ s, s < 256 → l.getD s 0 = f s) : fillI f 256 = l := by
  apply ext_getD (by rw [fillI_length, hl])
  intro u hu
  rw [fillI_length] at hu
  rw [fillI_getD _ _ _ hu, if_pos hu, h u hu]
theorem fillB_all (f : Nat → Bool) (l : List Bool) (hl : l.length = 256) (h : ∀ s, s < 256 → l.getD s false = f s) : fillB f 256 = l := by
  apply extB_getD (by rw [fillB_length, hl])
  intro u hu
  rw [fillB_length] at hu
  rw [fillB_getD _ _ _ hu, if_pos hu, h u hu]

theorem setset (l : List Int) (i : Nat) (x y : Int) : (l.set i x).set i y = l.set i y := by simp

/-- a row of bools is made -/
theorem zeros_bl (n : Nat) : (madeCells (Value.bool false).cells (n * 1)).toList = bl (List.replicate n false) := by
  rw [Nat.mul_one]
  apply List.ext_getElem (by simp [madeCells, bl])
  intro i h1 h2
  simp [madeCells, Value.cells, Nat.mod_one, bl]
theorem RowT.of_own {w : World} {base g n : Nat} {hs : List Bool} (h : w.ownsRow base 4 1 (.slice (some ⟨g, 0, none⟩) n n) n (bl hs)) : RowT w g 4 hs := by
  rcases h.2 with ⟨h0, _⟩ | ⟨g', cap, cur, he, _, hg, _, _, hs', ht⟩
  · simp at h0
  · simp only [Value.slice.injEq, Option.some.injEq, Addr.mk.injEq, and_true, true_and] at he
    obtain ⟨rfl, rfl⟩ := he
    have : cur = (bl hs).toArray := by
      apply Array.ext'
      rw [← ht, List.take_of_length_le (by rw [Array.length_toList, hs']; exact Nat.le_refl _)]
    rw [this] at hg
    exact hg
theorem wpList_make_bools {ops : Array Oper} {rest : List Oper} {o : Oper} {a : Act} {w : World} {Q : Exit → Act → World → Prop} (hg : o.guard = none) (l c : Operand) (hop : o.op = Op.makeSlice 31 l c)
    (L C : Int) (n : Nat) (hl : a.eval l = .int .i64 L) (hc : a.eval c = .int .i64 C) (hL : L = (n : Int)) (hC : C = (n : Int)) (hn : n < 100000000000) (Z : List Bool) (hZ : Z = List.replicate n false)
    (hK : ∀ w', RowT w' w.heap.size 4 Z → Chg (fun _ => False) w w' → wpList Try.prog ops Q rest (a.put o.dst (.slice (some ⟨w.heap.size, 0, none⟩) n n)) w') : wpList Try.prog ops Q (o :: rest) a w := by
  obtain ⟨i, hi, hz0, hz1, hz2⟩ := info_parts Try.infoBool
  refine wpList_make_full w hg l c 31 hop w.heap.size 4 i (.bool false) 1 Try.underlying31 hi hz0 hz1 .i64 .i64 L C n hl hc hL hC (by rw [hz2]; omega) (by unfold maxLen; omega) (Nat.le_refl _) ?_
  intro w1 h1 h2
  rw [zeros_bl, ← hZ] at h1
  exact hK w1 (RowT.of_own h1) ((Chg.of_grown h2).mono fun k _ hk => by simp at hk)

/-- whether counts can be normalized to the log r -/
def normOk (c : List Int) (r : Int) : Prop := isRight c ∧ 0 < tot c ∧ 1 ≤ r ∧ r ≤ 12 ∧ (pos c : Int) ≤ ((2 ^ r.toNat : Nat) : Int)
instance normOk_dec (c : List Int) (r : Int) : Decidable (normOk c r) := by unfold normOk; infer_instance
/-- what they are -/
def normR (c : List Int) (r : Int) : List Int := normC c ((2 ^ r.toNat : Nat) : Int)

theorem normOk.fit {c : List Int} {r : Int} (h : normOk c r) : Fit c ((2 ^ r.toNat : Nat) : Int) :=
  ⟨h.1.1, h.1.2.1, h.2.1, by have := Nat.two_pow_pos r.toNat; omega, h.2.2.2.2⟩
theorem pow12 {k : Nat} (h : k ≤ 12) : (2 ^ k : Nat) ≤ 4096 := by
  have := pow_le h
  have : (2 : Nat) ^ 12 = 4096 := by decide
  omega

/-- what Counts tells -/
def NormSays (w : World) (c : List Int) (r : Int) (e : Ending) (w' : World) : Prop :=
  ∃ v', e = .returned (.tuple #[v', .int .i64 (if normOk c r then 0 else 1)]) ∧ (normOk c r → OwnI w' w.heap.size v' (normR c r)) ∧ (¬ normOk c r → RdI w' v' []) ∧ Chg (fun _ => False) w w'

theorem total_pos {c : List Int} : totalI c = 0 ↔ ¬ (isRight c ∧ 0 < tot c) := by
  unfold totalI
  by_cases h : isRight c
  · rw [if_pos h]
    have := tot_nonneg c h.2.1
    constructor
    · rintro h0 ⟨_, h1⟩; omega
    · intro h1
      have : ¬ 0 < tot c := fun h2 => h1 ⟨h, h2⟩
      omega
  · rw [if_neg h]
    exact ⟨fun _ h1 => h h1.1, fun _ => rfl⟩

end Go.Proofs.Ytokeoebhmjefoaa

/- Logs of normalized counts; what the document's own Log (puncheonref08) tells. -/
namespace Go.Proofs.Ytokeoebhmjefoaa
open Go.RowKit

/-- the log of which the sum t is; 0, if of none -/
def logI (t : Int) : Nat := if 1 ≤ floorI t ∧ floorI t ≤ 12 ∧ t = ((2 ^ floorI t : Nat) : Int) then floorI t else 0
theorem logI_pow {r : Nat} (h1 : 1 ≤ r) (h2 : r ≤ 12) : logI ((2 ^ r : Nat) : Int) = r := by
  unfold logI
  rw [floor_at, if_pos ⟨h1, h2, rfl⟩]
theorem logI_none {t : Int} (h : ∀ r : Nat, 1 ≤ r → r ≤ 12 → ¬ t = ((2 ^ r : Nat) : Int)) : logI t = 0 := by
  unfold logI
  rw [if_neg (fun hh => h _ hh.1 hh.2.1 hh.2.2)]
theorem logI_le (t : Int) : logI t ≤ 12 := by
  unfold logI
  split
  · next h => exact h.2.1
  · omega
theorem logI_spec (t : Int) : logI t = 0 ∨ (1 ≤ logI t ∧ t = ((2 ^ logI t : Nat) : Int)) := by
  by_cases h : 1 ≤ floorI t ∧ floorI t ≤ 12 ∧ t = ((2 ^ floorI t : Nat) : Int)
  · right
    have : logI t = floorI t := by unfold logI; rw [if_pos h]
    rw [this]; exact ⟨h.1, h.2.2⟩
  · left; unfold logI; rw [if_neg h]

set_option maxHeartbeats 1000000 in
theorem r8log_of (v : Value) (q : List Int) (w : World) (h : RdI w v q) (hTT : Calls Try.prog 75 #[v] w fun e w' => e = .returned (.int .i64 (totalI q)) ∧ w' = w) :
    Calls Try.prog 48 #[v] w fun e w' => e = .returned (.int .i64 ((logI (totalI q) : Nat) : Int)) ∧ w' = w := by
  have HT := Lib.hid hTT
  obtain ⟨ao, cap, rfl⟩ := h.form
  clear h hTT
  have htl := totalI_le q
  obtain ⟨t, ht⟩ : ∃ t, totalI q = t := ⟨_, rfl⟩
  rw [ht] at HT htl ⊢
  obtain ⟨ht0, ht1⟩ := htl
  obtain ⟨L, hL⟩ : ∃ L, logI t = L := ⟨_, rfl⟩
  rw [hL]
  have HL := Lib.hid hL
  clear ht hL
  go_enter Try.func48, Try.ntmps48
  go_wp2_with fail
  refine HT.out.mono ?_
  rintro e w' ⟨rfl, rfl⟩
  clear HT
  go_wp2
  go_loopw [4] (fun o4 wr => ∃ r : Nat, 1 ≤ r ∧ r ≤ 13 ∧ o4 = .int .i64 (r : Int) ∧ (∀ j, 1 ≤ j → j < r → ¬ t = ((2 ^ j : Nat) : Int)) ∧ wr = w') (fun o4 _ => 13 - (intOf o4).toNat)
  case atStart => exact ⟨1, Nat.le_refl _, by omega, rfl, fun j h1 h2 => by omega, rfl⟩
  case round =>
    obtain ⟨r, hr1, hr2, rfl, hno, rfl⟩ := hrel
    have HNO := Lib.hid hno
    clear hno
    by_cases hlt : r ≤ 12
    · have d1 : decide ((r : Int) ≤ 12) = true := by simp; omega
      have hlI : (r : Int) ≤ 12 := by omega
      have HP := Lib.hid (r8power_any r wr (by omega))
      have hpw := pow12 hlt
      obtain ⟨P, hP⟩ : ∃ P, 2 ^ r = P := ⟨_, rfl⟩
      rw [hP] at HP hpw
      have HPP := Lib.hid hP
      clear hP
      by_cases heq : t = (P : Int)
      · have hLr : L = r := by
          rw [← HL.out, heq, ← HPP.out]
          exact logI_pow hr1 hlt
        subst hLr
        subst heq
        go_wp2_with fail
        refine HP.out.mono ?_
        rintro e w2 ⟨rfl, rfl⟩
        go_wp2
        go_ret
        exact ⟨rfl, rfl⟩
      · have hne : (t == (P : Int)) = false := by simp [heq]
        go_wp2_with fail
        refine HP.out.mono ?_
        rintro e w2 ⟨rfl, rfl⟩
        go_wp2
        go_roundw
        case rel =>
          refine ⟨r + 1, by omega, by omega, by go_num, fun j h1 h2 => ?_, trivial⟩
          by_cases hjr : j = r
          · subst hjr; rw [HPP.out]; exact heq
          · exact HNO.out j h1 (by omega)
        case measure => simp [intOf]; omega
    · have hr13 : r = 13 := by omega
      have hrI : (r : Int) = 13 := by omega
      rw [hrI]
      have hL0 : L = 0 := by
        rw [← HL.out]
        exact logI_none fun j h1 h2 => HNO.out j h1 (by omega)
      subst hL0
      clear hr13 hrI hlt hr1 hr2
      go_wp2
      go_ret
      exact ⟨rfl, rfl⟩

theorem r8log_any (v : Value) (q : List Int) (w : World) (h : RdI w v q) (hb : ∀ z ∈ q, -9223372036854775808 ≤ z ∧ z ≤ 9223372036854775807) (hl : q.length < 100000000000) :
    Calls Try.prog 48 #[v] w fun e w' => e = .returned (.int .i64 ((logI (totalI q) : Nat) : Int)) ∧ w' = w := r8log_of v q w h (r5total_any v q w h hb hl)

/-- numbers of any length: none but 256 are right -/
theorem r5right_all (v : Value) (cs : List Int) (w : World) (h : RdI w v cs) (hb : ∀ z ∈ cs, -9223372036854775808 ≤ z ∧ z ≤ 9223372036854775807) :
    Calls Try.prog 90 #[v] w fun e w' => e = .returned (.bool (decide (isRight cs))) ∧ w' = w := by
  by_cases hlen : cs.length = 256
  · exact r5right_any v cs w h hb (by omega)
  · obtain ⟨ao, cap, rfl⟩ := h.form
    have hq : ((cs.length : Int) != 256) = true := by simp; omega
    clear h hb
    go_enter Try.func90, Try.ntmps90
    go_wp2
    go_ret
    have hd : decide (isRight cs) = false := decide_eq_false fun h => hlen h.1
    rw [hd]
    exact ⟨rfl, rfl⟩
theorem r5total_all (v : Value) (cs : List Int) (w : World) (h : RdI w v cs) (hb : ∀ z ∈ cs, -9223372036854775808 ≤ z ∧ z ≤ 9223372036854775807) :
    Calls Try.prog 75 #[v] w fun e w' => e = .returned (.int .i64 (totalI cs)) ∧ w' = w := by
  by_cases hlen : cs.length = 256
  · exact r5total_any v cs w h hb (by omega)
  · have HR := Lib.hid (r5right_all v cs w h hb)
    obtain ⟨ao, cap, rfl⟩ := h.form
    have hr : ¬ isRight cs := fun h => hlen h.1
    have hm : totalI cs = 0 := by unfold totalI; rw [if_neg hr]
    have HM := Lib.hid hm
    clear h hb hm
    go_enter Try.func75, Try.ntmps75
    go_wp2_with fail
    refine HR.out.mono ?_
    rintro e w' ⟨rfl, rfl⟩
    rw [decide_eq_false hr]
    clear HR hr hlen
    go_wp2
    go_loopw [3, 5] (fun o3 o5 wr => o5 = .int .i64 0 ∧ o3 = .int .i64 0 ∧ wr = w') (fun _ _ _ => 0)
    case atStart => exact ⟨rfl, rfl, rfl⟩
    case round =>
      obtain ⟨rfl, rfl, rfl⟩ := hrel
      by_cases hlt : 0 < cs.length
      · go_wp2
        go_ret
        rw [HM.out]
        exact ⟨rfl, rfl⟩
      · have h0 : cs.length = 0 := by omega
        rw [h0]
        go_wp2
        go_ret
        rw [HM.out]
        exact ⟨rfl, rfl⟩
theorem r8log_all (v : Value) (q : List Int) (w : World) (h : RdI w v q) (hb : ∀ z ∈ q, -9223372036854775808 ≤ z ∧ z ≤ 9223372036854775807) :
    Calls Try.prog 48 #[v] w fun e w' => e = .returned (.int .i64 ((logI (totalI q) : Nat) : Int)) ∧ w' = w := r8log_of v q w h (r5total_all v q w h hb)

end Go.Proofs.Ytokeoebhmjefoaa

/- Plain: contexts by what stands ahead; pairs that are new. -/
namespace Go.Proofs.Ytokeoebhmjefoaa
open Go

theorem prs_fst (c : Nat) (xs : List Nat) : (prs c xs).map (·.1) = (c :: xs).take xs.length := by
  induction xs generalizing c with
  | nil => rfl
  | cons x r ih => simp only [prs, List.map_cons, ih, List.length_cons, List.take_succ_cons]

theorem selP_length (P : List (Nat × Nat)) (c : Nat) : (selP P (c : Int)).length = (P.map (·.1)).count c := by
  induction P with
  | nil => rfl
  | cons p P ih =>
    rw [selP_cons, List.length_append, ih, List.map_cons, List.count_cons]
    by_cases h : p.1 = c
    · rw [if_pos (by omega)]; simp [h]; omega
    · rw [if_neg (by omega)]; simp [h]

/-- a context is there just if it is 0, or a byte's that isn't the last one -/
theorem ahead_pos (xs : List Nat) (n c : Nat) (hn : xs.length = n + 1) (hc : c < 256) :
    0 < ((cnt (xs.take n)).set 0 ((cnt (xs.take n)).getD 0 0 + 1)).getD c 0 ↔ 0 < (sel xs (c : Int)).length := by
  rw [← cnt_snoc _ _ (by omega), cnt_getD _ _ hc]
  unfold sel
  rw [selP_length, prs_fst, hn, List.take_succ_cons, List.count_cons, List.count_append]
  simp only [List.count_cons, List.count_nil]
  omega

theorem sel_snoc_eq (ys : List Nat) (x : Nat) : sel (ys ++ [x]) ((lst 0 ys : Nat) : Int) = sel ys ((lst 0 ys : Nat) : Int) ++ [x] := by
  rw [sel_snoc, if_pos rfl]
theorem sel_snoc_ne (ys : List Nat) (x c : Nat) (h : c ≠ lst 0 ys) : sel (ys ++ [x]) (c : Int) = sel ys (c : Int) := by
  rw [sel_snoc, if_neg (by omega), List.append_nil]

/-- which pairs came -/
def SeenOk (ys : List Nat) (vs : List Bool) : Prop := vs.length = 65536 ∧ ∀ c x : Nat, c < 256 → x < 256 → vs.getD (c * 256 + x) false = decide (x ∈ sel ys (c : Int))
/-- how many unlike bytes each context has -/
def ManyOk (ys : List Nat) (ms : List Int) : Prop := ms.length = 256 ∧ ∀ c : Nat, c < 256 → ms.getD c 0 = ((manyI (cnt (sel ys (c : Int))) : Nat) : Int)

theorem SeenOk.nil {vs : List Bool} (hl : vs.length = 65536) (h : ∀ j, j < 65536 → vs.getD j false = false) : SeenOk [] vs :=
  ⟨hl, fun c x hc hx => by rw [h _ (by omega), sel_nil]; simp⟩
theorem ManyOk.nil : ManyOk [] (List.replicate 256 0) :=
  ⟨List.length_replicate, fun c hc => by rw [sel_nil, many_nil, List.getD_eq_getElem?_getD, List.getElem?_replicate, if_pos hc]; rfl⟩

theorem cnt_zero_iff (zs : List Nat) (x : Nat) (hx : x < 256) : (cnt zs).getD x 0 = 0 ↔ x ∉ zs := by
  rw [cnt_getD _ _ hx]
  have := @List.count_eq_zero _ _ _ x zs
  constructor
  · intro h; exact this.1 (by omega)
  · intro h; have := this.2 h; omega

theorem wid_snoc (ys : List Nat) (x : Nat) (hy : ∀ y ∈ ys, y < 256) (hx : x < 256) (hl : ys.length < 1073741824) (hc : lst 0 ys < 256) :
    widest (ys ++ [x]) = max (widest ys) (manyI (cnt (sel (ys ++ [x]) ((lst 0 ys : Nat) : Int)))) := by
  apply Nat.le_antisymm
  · refine wid_bound _ 256 _ fun c hc' => ?_
    by_cases h : c = lst 0 ys
    · subst h; omega
    · rw [sel_snoc_ne ys x c h]
      have := wid_ge ys 256 c hc'
      unfold widest; omega
  · have h1 := (wid_more ys x hy hx hl 256).1
    have h2 := wid_ge (ys ++ [x]) 256 (lst 0 ys) hc
    unfold widest; omega

/-- a pair that came already -/
theorem seen_old {ys : List Nat} {x : Nat} {vs : List Bool} {ms : List Int} (hs : SeenOk ys vs) (hm : ManyOk ys ms) (hy : ∀ y ∈ ys, y < 256) (hx : x < 256) (hl : ys.length < 1073741824)
    (h : vs.getD (lst 0 ys * 256 + x) false = true) : SeenOk (ys ++ [x]) vs ∧ ManyOk (ys ++ [x]) ms ∧ widest (ys ++ [x]) = widest ys := by
  have hc : lst 0 ys < 256 := lst_lt 0 ys (by omega) hy
  rw [hs.2 _ _ hc hx, decide_eq_true_iff] at h
  have hmany : manyI (cnt (sel (ys ++ [x]) ((lst 0 ys : Nat) : Int))) = manyI (cnt (sel ys ((lst 0 ys : Nat) : Int))) := by
    rw [sel_snoc_eq, many_snoc _ _ (sel_lt hy _) hx (Nat.lt_of_le_of_lt (sel_len _ _) hl), if_neg (by rw [cnt_zero_iff _ _ hx]; simpa using h)]
  refine ⟨⟨hs.1, fun c z hc' hz => ?_⟩, ⟨hm.1, fun c hc' => ?_⟩, ?_⟩
  · rw [hs.2 c z hc' hz]
    by_cases e : c = lst 0 ys
    · subst e
      rw [sel_snoc_eq]
      by_cases ez : z = x
      · subst ez; simp [h]
      · simp [ez]
    · rw [sel_snoc_ne _ _ _ e]
  · rw [hm.2 c hc']
    by_cases e : c = lst 0 ys
    · subst e; rw [hmany]
    · rw [sel_snoc_ne _ _ _ e]
  · rw [wid_snoc ys x hy hx hl hc, hmany]
    have := wid_ge ys 256 _ hc
    unfold widest; omega

theorem set_getD_B (l : List Bool) (i j : Nat) (z : Bool) (hi : i < l.length) : (l.set i z).getD j false = if i = j then z else l.getD j false := by
  by_cases h : i = j
  · subst h; rw [if_pos rfl, List.getD_eq_getElem?_getD, List.getElem?_set_self hi]; rfl
  · rw [if_neg h, List.getD_eq_getElem?_getD, List.getElem?_set_ne h, ← List.getD_eq_getElem?_getD]

/-- a pair that is new -/
theorem seen_new {ys : List Nat} {x : Nat} {vs : List Bool} {ms : List Int} (hs : SeenOk ys vs) (hm : ManyOk ys ms) (hy : ∀ y ∈ ys, y < 256) (hx : x < 256) (hl : ys.length < 1073741824)
    (h : vs.getD (lst 0 ys * 256 + x) false = false) : SeenOk (ys ++ [x]) (vs.set (lst 0 ys * 256 + x) true) ∧ ManyOk (ys ++ [x]) (ms.set (lst 0 ys) (ms.getD (lst 0 ys) 0 + 1)) ∧ ((widest (ys ++ [x]) : Nat) : Int) = max ((widest ys : Nat) : Int) (ms.getD (lst 0 ys) 0 + 1) := by
  have hc : lst 0 ys < 256 := lst_lt 0 ys (by omega) hy
  rw [hs.2 _ _ hc hx, decide_eq_false_iff_not] at h
  have hmany : manyI (cnt (sel (ys ++ [x]) ((lst 0 ys : Nat) : Int))) = manyI (cnt (sel ys ((lst 0 ys : Nat) : Int))) + 1 := by
    rw [sel_snoc_eq, many_snoc _ _ (sel_lt hy _) hx (Nat.lt_of_le_of_lt (sel_len _ _) hl), if_pos (by rw [cnt_zero_iff _ _ hx]; exact h)]
  refine ⟨⟨by rw [List.length_set]; exact hs.1, fun c z hc' hz => ?_⟩, ⟨by rw [List.length_set]; exact hm.1, fun c hc' => ?_⟩, ?_⟩
  · rw [set_getD_B _ _ _ _ (by rw [hs.1]; omega), hs.2 c z hc' hz]
    by_cases e : c = lst 0 ys
    · subst e
      rw [sel_snoc_eq]
      by_cases ez : z = x
      · subst ez; simp
      · rw [if_neg (by omega)]; simp [ez]
    · rw [sel_snoc_ne _ _ _ e, if_neg (by omega)]
  · rw [set_getD _ _ _ _ (by rw [hm.1]; exact hc)]
    by_cases e : c = lst 0 ys
    · subst e; rw [if_pos rfl, hmany, hm.2 _ hc]; omega
    · rw [if_neg (fun h => e h.symm), sel_snoc_ne _ _ _ e, hm.2 c hc']
  · rw [wid_snoc ys x hy hx hl hc, hmany, hm.2 _ hc]; omega

theorem ManyOk.bound {ys : List Nat} {ms : List Int} (h : ManyOk ys ms) (c : Nat) (hc : c < 256) : 0 ≤ ms.getD c 0 ∧ ms.getD c 0 ≤ 256 := by
  rw [h.2 c hc]
  have := manyI_le (cnt (sel ys (c : Int)))
  omega

/-- twice, and again -/
def dbl : Nat → List Value → List Value
  | 0, l => l
  | n + 1, l => dbl n l ++ dbl n l
theorem dbl_rep (n m : Nat) (v : Value) : dbl n (List.replicate m v) = List.replicate (2 ^ n * m) v := by
  induction n with
  | zero => simp [dbl]
  | succ n ih => rw [dbl, ih, List.replicate_append_replicate, Nat.pow_succ]; congr 1; rw [Nat.mul_assoc, Nat.mul_comm 2 m, ← Nat.mul_assoc]; omega

end Go.Proofs.Ytokeoebhmjefoaa

/- Plain mathematics of chapter 16: models. -/
namespace Go.Proofs.Ytokeoebhmjefoaa
open Go

/-- a model -/
structure Md where
  log : Int
  one : Bool
  cs : List (List Int)
def md0 : Md := ⟨0, false, []⟩

/-- is a list of the log? -/
def okL (log : Int) (one : Bool) (l : List Int) : Prop := (l = [] ∧ one = false) ∨ ((logI (totalI l) : Nat) : Int) = log
instance okL_dec (log : Int) (one : Bool) (l : List Int) : Decidable (okL log one l) := by unfold okL; infer_instance
def Md.right (m : Md) : Prop := (1 ≤ m.log ∧ m.log ≤ 12) ∧ m.cs.length = (if m.one then 1 else 256) ∧ ∀ l ∈ m.cs, okL m.log m.one l
instance right_dec (m : Md) : Decidable m.right := by unfold Md.right; infer_instance
/-- the list of a context -/
def Md.atL (m : Md) (c : Int) : List Int := if m.right ∧ 0 ≤ c ∧ c ≤ 255 then (if m.one then m.cs.getD 0 [] else m.cs.getD c.toNat []) else []
/-- is the i-th byte expected? -/
def Md.fitAt (m : Md) (xs : List Nat) (i : Nat) : Prop := m.atL (((0 :: xs).getD i 0 : Nat) : Int) ≠ [] ∧ (m.atL (((0 :: xs).getD i 0 : Nat) : Int)).getD (xs.getD i 0) 0 ≠ 0
instance fitAt_dec (m : Md) (xs : List Nat) (i : Nat) : Decidable (m.fitAt xs i) := by unfold Md.fitAt; infer_instance
def Md.fits (m : Md) (xs : List Nat) : Prop := m.right ∧ ∀ i, i < xs.length → m.fitAt xs i
instance fits_dec (m : Md) (xs : List Nat) : Decidable (m.fits xs) := by unfold Md.fits; infer_instance

/-- the model of all bytes -/
def zeroLog (xs : List Nat) : Int := pickI (xs.length : Int) ((manyI (cnt xs) : Nat) : Int) 11
def zeroM (xs : List Nat) : Md := ⟨zeroLog xs, true, [normR (cnt xs) (zeroLog xs)]⟩
/-- the model by contexts -/
def firstLog (xs : List Nat) : Int := pickI (xs.length : Int) ((widest xs : Nat) : Int) 9
def ctxL (xs : List Nat) (r : Int) (c : Nat) : List Int := if 0 < (sel xs (c : Int)).length then normR (cnt (sel xs (c : Int))) r else []
def firstM (xs : List Nat) : Md := ⟨firstLog xs, false, (List.range 256).map (ctxL xs (firstLog xs))⟩
theorem firstM_at (xs : List Nat) (c : Nat) (h : c < 256) : (firstM xs).cs.getD c [] = ctxL xs (firstLog xs) c := by
  simp [firstM, List.getD_eq_getElem?_getD, h]

/-- normalized counts' own total and log -/
theorem normR_right {c : List Int} {r : Int} (h : normOk c r) : isRight (normR c r) ∧ totalI (normR c r) = ((2 ^ r.toNat : Nat) : Int) ∧ logI (totalI (normR c r)) = r.toNat := by
  have hf := h.fit
  have hp := pow12 (k := r.toNat) (by have := h.2.2.2.1; omega)
  have hs := norm_sum hf
  have hr : isRight (normR c r) := ⟨norm_len hf, norm_nonneg hf, by unfold normR; rw [hs]; omega⟩
  have ht : totalI (normR c r) = ((2 ^ r.toNat : Nat) : Int) := by
    unfold totalI; rw [if_pos hr]; exact hs
  refine ⟨hr, ht, ?_⟩
  rw [ht]
  exact logI_pow (by have := h.2.2.1; omega) (by have := h.2.2.2.1; omega)
theorem normR_log {c : List Int} {r : Int} (h : normOk c r) : ((logI (totalI (normR c r)) : Nat) : Int) = r := by
  rw [(normR_right h).2.2]; have := h.2.2.1; omega
theorem normR_ne {c : List Int} {r : Int} (h : normOk c r) : normR c r ≠ [] := fun he => by
  have := (normR_right h).1.1
  rw [he] at this; simp at this

theorem log_right {l : List Int} (h : 0 < logI (totalI l)) : isRight l ∧ l.length = 256 := by
  by_cases hr : isRight l
  · exact ⟨hr, hr.1⟩
  · exfalso
    have : totalI l = 0 := by unfold totalI; rw [if_neg hr]
    rw [this] at h
    have : logI 0 = 0 := logI_none fun r _ _ he => by have := Nat.two_pow_pos r; omega
    omega

theorem pick_top {n m t : Int} (_hm : 1 ≤ m) (hm2 : m ≤ 256) (ht : 5 ≤ t) : pickI n m t ≤ max t 8 := by
  have hc : ceilI m ≤ 8 := by
    have := ceil_mono hm2
    have h8 : ceilI (256 : Int) = 8 := ceil_at 8
    omega
  unfold pickI
  omega

/-- of some bytes the log serves -/
theorem zero_ok (xs : List Nat) (hx : ∀ x ∈ xs, x < 256) (hl : xs.length ≤ 1073741824) (h0 : 0 < xs.length) : normOk (cnt xs) (zeroLog xs) ∧ 5 ≤ zeroLog xs ∧ zeroLog xs ≤ 11 := by
  obtain ⟨x, hxm⟩ := List.exists_mem_of_length_pos h0
  have hr := cnt_right xs hx hl
  have ht := tot_cnt xs hx
  have hm : 0 < manyI (cnt xs) := many_pos xs x hxm hx hl
  have hm2 := manyI_le (cnt xs)
  have h5 := pick_ge5 (xs.length : Int) ((manyI (cnt xs) : Nat) : Int) 11
  have h11 := pick_top (n := (xs.length : Int)) (m := ((manyI (cnt xs) : Nat) : Int)) (t := 11) (by omega) (by omega) (by omega)
  have hrm := (pick_room (n := (xs.length : Int)) (m := ((manyI (cnt xs) : Nat) : Int)) (t := 11) (by omega) (by omega) (zeroLog xs).toNat (by unfold zeroLog; omega)).1
  have hmp : manyI (cnt xs) = pos (cnt xs) := by unfold manyI; rw [if_pos hr]
  have hz : zeroLog xs = pickI (xs.length : Int) ((manyI (cnt xs) : Nat) : Int) 11 := rfl
  rw [hmp] at hrm
  exact ⟨⟨hr, by omega, by omega, by omega, hrm⟩, by omega, by omega⟩
theorem first_ok (xs : List Nat) (hx : ∀ x ∈ xs, x < 256) (hl : xs.length ≤ 1073741824) (c : Nat) (hc : c < 256) (h0 : 0 < (sel xs (c : Int)).length) : normOk (cnt (sel xs (c : Int))) (firstLog xs) := by
  obtain ⟨x, hxm⟩ := List.exists_mem_of_length_pos h0
  have hsl := sel_len xs (c : Int)
  have hr := cnt_right (sel xs (c : Int)) (sel_lt hx _) (by omega)
  have ht := tot_cnt (sel xs (c : Int)) (sel_lt hx _)
  have hm : 0 < manyI (cnt (sel xs (c : Int))) := many_pos _ x hxm (sel_lt hx _) (by omega)
  have hw : manyI (cnt (sel xs (c : Int))) ≤ widest xs := wid_ge xs 256 c hc
  have hw2 := wid_le xs 256
  have hwe : widest xs = wid xs 256 := rfl
  have h5 := pick_ge5 (xs.length : Int) ((widest xs : Nat) : Int) 9
  have h9 := pick_top (n := (xs.length : Int)) (m := ((widest xs : Nat) : Int)) (t := 9) (by omega) (by omega) (by omega)
  have hrm := (pick_room (n := (xs.length : Int)) (m := ((widest xs : Nat) : Int)) (t := 9) (by omega) (by omega) (firstLog xs).toNat (by unfold firstLog; omega)).1
  have hmp : manyI (cnt (sel xs (c : Int))) = pos (cnt (sel xs (c : Int))) := by unfold manyI; rw [if_pos hr]
  have hz : firstLog xs = pickI (xs.length : Int) ((widest xs : Nat) : Int) 9 := rfl
  rw [hmp] at hw
  exact ⟨hr, by omega, by omega, by omega, by omega⟩
theorem firstLog_bounds (xs : List Nat) (hx : ∀ x ∈ xs, x < 256) (hl : xs.length ≤ 1073741824) (h0 : 0 < xs.length) : 5 ≤ firstLog xs ∧ firstLog xs ≤ 9 := by
  have hw := (widest_pos xs hx hl).2 h0
  have hw2 := wid_le xs 256
  have hwe : widest xs = wid xs 256 := rfl
  have h5 := pick_ge5 (xs.length : Int) ((widest xs : Nat) : Int) 9
  have h9 := pick_top (n := (xs.length : Int)) (m := ((widest xs : Nat) : Int)) (t := 9) (by omega) (by omega) (by omega)
  have hz : firstLog xs = pickI (xs.length : Int) ((widest xs : Nat) : Int) 9 := rfl
  omega

theorem zero_right (xs : List Nat) (hx : ∀ x ∈ xs, x < 256) (hl : xs.length ≤ 1073741824) (h0 : 0 < xs.length) : (zeroM xs).right := by
  obtain ⟨h1, h2, h3⟩ := zero_ok xs hx hl h0
  refine ⟨⟨by show 1 ≤ zeroLog xs; omega, by show zeroLog xs ≤ 12; omega⟩, rfl, fun l hl => ?_⟩
  have he : l = normR (cnt xs) (zeroLog xs) := List.mem_singleton.1 hl
  rw [he]
  show okL (zeroLog xs) true _
  exact .inr (normR_log h1)
theorem first_right (xs : List Nat) (hx : ∀ x ∈ xs, x < 256) (hl : xs.length ≤ 1073741824) (h0 : 0 < xs.length) : (firstM xs).right := by
  obtain ⟨h2, h3⟩ := firstLog_bounds xs hx hl h0
  refine ⟨⟨by show 1 ≤ firstLog xs; omega, by show firstLog xs ≤ 12; omega⟩, by simp [firstM], fun l hl => ?_⟩
  simp only [firstM, List.mem_map, List.mem_range] at hl
  obtain ⟨c, hc, rfl⟩ := hl
  unfold ctxL
  by_cases hs : 0 < (sel xs (c : Int)).length
  · rw [if_pos hs]; exact .inr (normR_log (first_ok xs hx (by assumption) c hc hs))
  · rw [if_neg hs]; exact .inl ⟨rfl, rfl⟩
theorem zero_at (xs : List Nat) (hx : ∀ x ∈ xs, x < 256) (hl : xs.length ≤ 1073741824) (h0 : 0 < xs.length) (c : Int) (hc : 0 ≤ c ∧ c ≤ 255) : (zeroM xs).atL c = normR (cnt xs) (zeroLog xs) := by
  unfold Md.atL
  rw [if_pos ⟨zero_right xs hx hl h0, hc.1, hc.2⟩]
  obtain ⟨q, hq⟩ : ∃ q, normR (cnt xs) (zeroLog xs) = q := ⟨_, rfl⟩
  unfold zeroM
  rw [hq]
  simp
theorem first_at (xs : List Nat) (hx : ∀ x ∈ xs, x < 256) (hl : xs.length ≤ 1073741824) (h0 : 0 < xs.length) (c : Nat) (hc : c < 256) : (firstM xs).atL (c : Int) = ctxL xs (firstLog xs) c := by
  unfold Md.atL
  rw [if_pos ⟨first_right xs hx hl h0, by omega, by omega⟩, Int.toNat_natCast, if_neg (by simp [firstM]), firstM_at xs c hc]

/-- a byte has a count just where it comes -/
theorem normR_pos {ys : List Nat} {r : Int} (h : normOk (cnt ys) r) (v : Nat) (hv : v < 256) : (0 < (normR (cnt ys) r).getD v 0 ↔ v ∈ ys) ∧ 0 ≤ (normR (cnt ys) r).getD v 0 := by
  have hp := norm_pos h.fit v hv
  refine ⟨?_, hp.1⟩
  unfold normR
  rw [hp.2, cnt_getD ys v hv, ← List.count_pos_iff]
  omega

theorem ahead_lt {xs : List Nat} (hx : ∀ x ∈ xs, x < 256) (i : Nat) : (0 :: xs).getD i 0 < 256 := by
  rcases Nat.lt_or_ge i (0 :: xs).length with h | h
  · rw [List.getD_eq_getElem?_getD, List.getElem?_eq_getElem h]
    have := List.getElem_mem h
    rcases List.mem_cons.1 this with h1 | h1
    · rw [Option.getD_some, h1]; omega
    · exact hx _ h1
  · rw [List.getD_eq_getElem?_getD, List.getElem?_eq_none h]; simp
/-- each byte is among those behind what stands ahead of it -/
theorem sel_own (xs : List Nat) (i : Nat) (h : i < xs.length) : xs.getD i 0 ∈ sel xs (((0 :: xs).getD i 0 : Nat) : Int) := by
  have h1 := sel_take_succ xs i h (((0 :: xs).getD i 0 : Nat) : Int)
  rw [if_pos rfl] at h1
  have h2 : xs.getD i 0 ∈ sel (xs.take (i + 1)) (((0 :: xs).getD i 0 : Nat) : Int) := by rw [h1]; simp
  have h3 : sel xs (((0 :: xs).getD i 0 : Nat) : Int) = sel (xs.take (i + 1)) (((0 :: xs).getD i 0 : Nat) : Int) ++ selP (prs (lst 0 (xs.take (i + 1))) (xs.drop (i + 1))) (((0 :: xs).getD i 0 : Nat) : Int) := by
    have := prs_append 0 (xs.take (i + 1)) (xs.drop (i + 1))
    rw [List.take_append_drop] at this
    unfold sel
    rw [this, selP_append]
  rw [h3]
  exact List.mem_append_left _ h2

theorem zero_fits (xs : List Nat) (hx : ∀ x ∈ xs, x < 256) (hl : xs.length ≤ 1073741824) (h0 : 0 < xs.length) : (zeroM xs).fits xs := by
  refine ⟨zero_right xs hx hl h0, fun i hi => ?_⟩
  have hc := ahead_lt hx i
  obtain ⟨h1, _⟩ := zero_ok xs hx hl h0
  have hm : xs.getD i 0 ∈ xs := by rw [List.getD_eq_getElem?_getD, List.getElem?_eq_getElem hi]; exact List.getElem_mem _
  unfold Md.fitAt
  rw [zero_at xs hx hl h0 _ (by omega)]
  have := (normR_pos h1 (xs.getD i 0) (hx _ hm)).1.2 hm
  exact ⟨normR_ne h1, by omega⟩
theorem first_fits (xs : List Nat) (hx : ∀ x ∈ xs, x < 256) (hl : xs.length ≤ 1073741824) (h0 : 0 < xs.length) : (firstM xs).fits xs := by
  refine ⟨first_right xs hx hl h0, fun i hi => ?_⟩
  have hc := ahead_lt hx i
  have hm : xs.getD i 0 ∈ xs := by rw [List.getD_eq_getElem?_getD, List.getElem?_eq_getElem hi]; exact List.getElem_mem _
  have hs := sel_own xs i hi
  unfold Md.fitAt
  obtain ⟨c, hce⟩ : ∃ c, (0 :: xs).getD i 0 = c := ⟨_, rfl⟩
  rw [hce] at hs hc ⊢
  have h1 := first_ok xs hx hl c hc (List.length_pos_of_mem hs)
  rw [first_at xs hx hl h0 c hc]
  unfold ctxL
  rw [if_pos (List.length_pos_of_mem hs)]
  have := (normR_pos h1 (xs.getD i 0) (hx _ hm)).1.2 hs
  exact ⟨normR_ne h1, by omega⟩

/-- a beginning fits too -/
theorem Md.fits.take {m : Md} {xs : List Nat} (h : m.fits xs) (k : Nat) : m.fits (xs.take k) := by
  refine ⟨h.1, fun i hi => ?_⟩
  rw [List.length_take] at hi
  have := h.2 i (by omega)
  unfold Md.fitAt at this ⊢
  have e1 : (xs.take k).getD i 0 = xs.getD i 0 := by simp only [List.getD_eq_getElem?_getD, List.getElem?_take, if_pos (show i < k by omega)]
  have e2 : (0 :: xs.take k).getD i 0 = (0 :: xs).getD i 0 := by
    cases i with
    | zero => rfl
    | succ i =>
      rw [List.getD_cons_succ, List.getD_cons_succ]
      simp only [List.getD_eq_getElem?_getD, List.getElem?_take, if_pos (show i < k by omega)]
  rw [e1, e2]; exact this
/-- a byte more -/
theorem fits_more {m : Md} {xs : List Nat} (h : m.fits xs) (h0 : 0 < xs.length) (x : Nat) : m.fits (xs ++ [x]) ↔ (m.atL ((xs.getD (xs.length - 1) 0 : Nat) : Int) ≠ [] ∧ (m.atL ((xs.getD (xs.length - 1) 0 : Nat) : Int)).getD x 0 ≠ 0) := by
  have e1 : (xs ++ [x]).getD xs.length 0 = x := by simp [List.getD_eq_getElem?_getD]
  have e2 : (0 :: (xs ++ [x])).getD xs.length 0 = xs.getD (xs.length - 1) 0 := by
    obtain ⟨n, hn⟩ : ∃ n, xs.length = n + 1 := ⟨xs.length - 1, by omega⟩
    rw [hn, List.getD_cons_succ, List.getD_eq_getElem?_getD, List.getElem?_append_left (by omega), ← List.getD_eq_getElem?_getD]; rfl
  constructor
  · intro hf
    have := hf.2 xs.length (by simp)
    unfold Md.fitAt at this
    rw [e1, e2] at this
    exact this
  · intro hf
    refine ⟨h.1, fun i hi => ?_⟩
    rw [List.length_append, List.length_singleton] at hi
    by_cases hlt : i < xs.length
    · have := h.2 i hlt
      unfold Md.fitAt at this ⊢
      have e3 : (xs ++ [x]).getD i 0 = xs.getD i 0 := by rw [List.getD_eq_getElem?_getD, List.getElem?_append_left hlt, ← List.getD_eq_getElem?_getD]
      have e4 : (0 :: (xs ++ [x])).getD i 0 = (0 :: xs).getD i 0 := by
        cases i with
        | zero => rfl
        | succ i => rw [List.getD_cons_succ, List.getD_cons_succ, List.getD_eq_getElem?_getD, List.getElem?_append_left (by omega), ← List.getD_eq_getElem?_getD]
      rw [e3, e4]; exact this
    · obtain rfl : i = xs.length := by omega
      unfold Md.fitAt
      rw [e1, e2]
      exact hf

/-- turned round they have the same counts -/
theorem cnt_turn (xs : List Nat) (k : Nat) : cnt (xs.drop k ++ xs.take k) = cnt xs := by
  rw [cnt_append, addL_comm, ← cnt_append, List.take_append_drop]
theorem zero_turn (xs : List Nat) (k : Nat) (hk : k ≤ xs.length) : zeroM (xs.drop k ++ xs.take k) = zeroM xs := by
  have hl : (xs.drop k ++ xs.take k).length = xs.length := by simp; omega
  unfold zeroM zeroLog
  rw [cnt_turn, hl]

/-- each one twice -/
def twice (xs : List Nat) : List Nat := xs.flatMap fun x => [x, x]
theorem twice_take (xs : List Nat) (k : Nat) (h : k < xs.length) : twice (xs.take (k + 1)) = twice (xs.take k) ++ [xs.getD k 0, xs.getD k 0] := by
  rw [List.take_succ_eq_append_getElem h, List.getD_eq_getElem?_getD, List.getElem?_eq_getElem h]
  unfold twice
  rw [List.flatMap_append]; rfl
theorem twice_length (xs : List Nat) : (twice xs).length = xs.length * 2 := by
  induction xs with
  | nil => rfl
  | cons x r ih => simp [twice] at ih ⊢; omega
theorem twice_lt {xs : List Nat} (hx : ∀ x ∈ xs, x < 256) : ∀ x ∈ twice xs, x < 256 := by
  intro x h
  simp only [twice, List.mem_flatMap] at h
  obtain ⟨y, hy, h⟩ := h
  simp at h
  rw [h]; exact hx y hy
theorem twice_get (xs : List Nat) (k : Nat) (h : k < xs.length) : (twice xs).getD (k * 2) 0 = xs.getD k 0 ∧ (twice xs).getD (k * 2 + 1) 0 = xs.getD k 0 := by
  induction xs generalizing k with
  | nil => simp at h
  | cons x r ih =>
    have e : twice (x :: r) = x :: x :: twice r := by simp [twice]
    rw [e]
    cases k with
    | zero => exact ⟨rfl, rfl⟩
    | succ k =>
      have := ih k (by simpa using h)
      rw [show (k + 1) * 2 = k * 2 + 1 + 1 by omega]
      simp only [List.getD_cons_succ]
      exact this
/-- who stands twice in a row comes behind itself -/
theorem twice_own (xs : List Nat) (k : Nat) (h : k < xs.length) : xs.getD k 0 ∈ sel (twice xs) ((xs.getD k 0 : Nat) : Int) := by
  have hs := sel_own (twice xs) (k * 2 + 1) (by rw [twice_length]; omega)
  obtain ⟨h1, h2⟩ := twice_get xs k h
  rw [h2, List.getD_cons_succ, h1] at hs
  exact hs

end Go.Proofs.Ytokeoebhmjefoaa

/- Normalized counts as a function; what the document's own spread (puncheonref10) tells of two keys, and of a key's place. -/
namespace Go.Proofs.Ytokeoebhmjefoaa
open Go.RowKit

/-- normalized counts of the log k -/
def NormQ (q : List Int) (k : Nat) : Prop := q.length = 256 ∧ (∀ z ∈ q, 0 ≤ z) ∧ tot q = ((2 ^ k : Nat) : Int) ∧ 1 ≤ k ∧ k ≤ 12
/-- counts as a function -/
def fq (q : List Int) (s : Nat) : Nat := (q.getD s 0).toNat

theorem NormQ.at {q : List Int} {k : Nat} (h : NormQ q k) (s : Nat) : q.getD s 0 = ((fq q s : Nat) : Int) := by
  unfold fq
  by_cases hs : s < q.length
  · rw [Int.toNat_of_nonneg (h.2.1 _ (getD_mem hs))]
  · rw [List.getD_eq_getElem?_getD, List.getElem?_eq_none (by omega)]; rfl
theorem sumTo_tot (q : List Int) (h : ∀ z ∈ q, 0 ≤ z) : ∀ n, n ≤ q.length → ((sumTo (fq q) n : Nat) : Int) = tot (q.take n)
  | 0, _ => rfl
  | n + 1, hn => by
    have ih := sumTo_tot q h n (by omega)
    rw [tot_take_succ q n (by omega), ← ih]
    simp only [sumTo]
    have : ((fq q n : Nat) : Int) = q.getD n 0 := by
      unfold fq; rw [Int.toNat_of_nonneg (h _ (getD_mem (by omega)))]
    omega
theorem NormQ.sum {q : List Int} {k : Nat} (h : NormQ q k) : sumTo (fq q) 256 = 2 ^ k := by
  have := sumTo_tot q h.2.1 256 (by rw [h.1]; exact Nat.le_refl _)
  rw [List.take_of_length_le (by rw [h.1]; exact Nat.le_refl _), h.2.2.1] at this
  omega
theorem NormQ.size {q : List Int} {k : Nat} (h : NormQ q k) : 2 ^ k ≤ 4096 := pow12 h.2.2.2.2
theorem NormQ.le {q : List Int} {k : Nat} (h : NormQ q k) (s : Nat) : fq q s ≤ 4096 := by
  by_cases hs : s < 256
  · have h1 := sumTo_at (fq q) 256 s hs
    rw [h.sum] at h1
    have := h.size
    omega
  · unfold fq
    rw [List.getD_eq_getElem?_getD, List.getElem?_eq_none (by rw [h.1]; omega)]
    simp
theorem NormQ.right {q : List Int} {k : Nat} (h : NormQ q k) : isRight q := ⟨h.1, h.2.1, by rw [h.2.2.1]; have := h.size; omega⟩
theorem NormQ.total {q : List Int} {k : Nat} (h : NormQ q k) : totalI q = ((2 ^ k : Nat) : Int) := by
  unfold totalI; rw [if_pos h.right, h.2.2.1]
theorem NormQ.log {q : List Int} {k : Nat} (h : NormQ q k) : logI (totalI q) = k := by rw [h.total]; exact logI_pow h.2.2.2.1 h.2.2.2.2
theorem normQ_of {q : List Int} (h : logI (totalI q) ≠ 0) : NormQ q (logI (totalI q)) := by
  rcases logI_spec (totalI q) with h0 | ⟨h1, h2⟩
  · exact absurd h0 h
  · have hp := Nat.two_pow_pos (logI (totalI q))
    have hr : isRight q := by
      by_cases hr : isRight q
      · exact hr
      · have : totalI q = 0 := by unfold totalI; rw [if_neg hr]
        omega
    have ht : totalI q = tot q := by unfold totalI; rw [if_pos hr]
    exact ⟨hr.1, hr.2.1, by rw [← ht]; exact h2, h1, logI_le _⟩
theorem NormQ.bnd {q : List Int} {k : Nat} (h : NormQ q k) : ∀ z ∈ q, -9223372036854775808 ≤ z ∧ z ≤ 9223372036854775807 := by
  intro z hz
  obtain ⟨i, hi, rfl⟩ := List.mem_iff_getElem.1 hz
  have h1 := h.at i
  have h2 := h.le i
  rw [List.getD_eq_getElem?_getD, List.getElem?_eq_getElem hi] at h1
  simp only [Option.getD_some] at h1
  omega

theorem NormQ.cell {q : List Int} {k : Nat} (hq : NormQ q k) {w : World} {g off n cap : Nat} (h : RdI w (.slice (some ⟨g, off, none⟩) n cap) q) (t : Nat) (ht : t < 256) : w.cell? ⟨g, off + t, none⟩ = some (.int .i64 ((fq q t : Nat) : Int)) := by
  obtain ⟨g', off', he, hc⟩ := h.at t (by rw [hq.1]; exact ht)
  simp only [Option.some.injEq, Addr.mk.injEq] at he
  obtain ⟨rfl, rfl, -⟩ := he
  rw [hq.at t] at hc
  exact hc

set_option maxHeartbeats 2000000 in
theorem r10less_any (v : Value) (q : List Int) (k t s i : Nat) (w : World) (h : RdI w v q) (hq : NormQ q k) (ht : t < 256) (hs : s < 256) (hi : i ≤ 8192) :
    Calls Try.prog 77 #[v, .int .i64 (t : Int), .int .i64 (s : Int), .int .i64 (i : Int)] w fun e w' => e = .returned (.int .i64 ((lessF (fq q) t s i : Nat) : Int)) ∧ ∃ m, w' = w.drewN m := by
  obtain ⟨ao, cap, rfl⟩ := h.form
  obtain ⟨g, off, rfl, hct⟩ := h.at t (by rw [hq.1]; exact ht)
  obtain ⟨g', off', hgg, hcs⟩ := h.at s (by rw [hq.1]; exact hs)
  simp only [Option.some.injEq, Addr.mk.injEq] at hgg
  obtain ⟨rfl, rfl, -⟩ := hgg
  rw [hq.at t] at hct
  rw [hq.at s] at hcs
  have ht4 := hq.le t
  have hs4 := hq.le s
  have hlen : (q.length : Int) = 256 := by rw [hq.1]; rfl
  have htq : (t : Int) < (q.length : Int) := by omega
  have hsq : (s : Int) < (q.length : Int) := by omega
  clear hlen h hq
  obtain ⟨p, hp⟩ : ∃ p : Nat → Bool, p = fun d => decide (kless (fq q) t (fq q t + d) s i) := ⟨_, rfl⟩
  have hlf : lessF (fq q) t s i = countTo p (fq q t) := by rw [hp]; rfl
  have hpd : ∀ d, p d = decide ((fq q t + d) * fq q s < i * fq q t ∨ ((fq q t + d) * fq q s = i * fq q t ∧ t < s)) := fun d => by rw [hp]; rfl
  rw [hlf]
  clear hlf hp
  revert hct hcs ht4 hs4 hpd
  generalize fq q t = F
  generalize fq q s = G
  intro hct hcs ht4 hs4 hpd
  have HP := Lib.hid hpd
  clear hpd
  have hY : i * F ≤ 33554432 := Nat.le_trans (Nat.mul_le_mul hi ht4) (by decide)
  obtain ⟨Y, hYe⟩ : ∃ Y, i * F = Y := ⟨_, rfl⟩
  rw [hYe] at HP hY
  have hYI : (i : Int) * (F : Int) = (Y : Int) := by rw [← hYe]; simp
  clear hYe
  go_enter Try.func77, Try.ntmps77
  go_wp2
  go_loopw [9, 10] (fun o9 o10 wr => ∃ d : Nat, d ≤ F ∧ o10 = .int .i64 ((F + d : Nat) : Int) ∧ o9 = .int .i64 ((countTo p d : Nat) : Int) ∧ ∃ m, wr = w.drewN m) (fun _ o10 _ => 2 * F - (intOf o10).toNat)
  case atStart => exact ⟨0, Nat.zero_le _, rfl, rfl, 0, rfl⟩
  case round =>
    obtain ⟨d, hd, rfl, rfl, m, rfl⟩ := hrel
    obtain ⟨J, hJ⟩ : ∃ J, F + d = J := ⟨_, rfl⟩
    have hpd := HP.out d
    have hcl := countTo_le p d
    have hcs2 : countTo p (d + 1) = countTo p d + if p d then 1 else 0 := rfl
    obtain ⟨c, hc⟩ : ∃ c, countTo p d = c := ⟨_, rfl⟩
    rw [hJ] at hpd ⊢
    rw [hc] at hcl hcs2 ⊢
    have HJ := Lib.hid hJ; have HCC := Lib.hid hc; have HPD := Lib.hid hpd; have HCS := Lib.hid hcs2
    have hJ8 : J ≤ 8192 := by omega
    have hX : J * G ≤ 33554432 := Nat.le_trans (Nat.mul_le_mul hJ8 hs4) (by decide)
    by_cases hlt : d < F
    · have dl : decide ((J : Int) < 2 * (F : Int)) = true := decide_eq_true (by omega)
      clear hJ hc hpd hcs2
      obtain ⟨X, hXe⟩ : ∃ X, J * G = X := ⟨_, rfl⟩
      rw [hXe] at HPD hX
      have hXI : (J : Int) * (G : Int) = (X : Int) := by rw [← hXe]; simp
      clear hXe
      by_cases h1 : X < Y
      · have e1 : decide ((X : Int) < (Y : Int)) = true := decide_eq_true (by omega)
        have hpt : p d = true := by rw [HPD.out]; exact decide_eq_true (Or.inl h1)
        have HPT := Lib.hid hpt
        clear hpt
        go_wp2
        go_quiet (fail)
        go_wp2
        go_roundw
        case rel => exact ⟨d + 1, by omega, by have := HJ.out; go_num, by rw [HCS.out, HPT.out]; go_num, m + nq, rfl⟩
        case measure => have := HJ.out; simp [intOf]; omega
      · by_cases h2 : X = Y
        · subst h2
          by_cases h3 : t < s
          · have e3 : decide ((t : Int) < (s : Int)) = true := decide_eq_true (by omega)
            have hpt : p d = true := by rw [HPD.out]; exact decide_eq_true (Or.inr ⟨rfl, h3⟩)
            have HPT := Lib.hid hpt
            clear hpt
            go_wp2
            go_quiet (fail)
            go_wp2
            go_roundw
            case rel => exact ⟨d + 1, by omega, by have := HJ.out; go_num, by rw [HCS.out, HPT.out]; go_num, m + nq, rfl⟩
            case measure => have := HJ.out; simp [intOf]; omega
          · have hpt : p d = false := by rw [HPD.out]; exact decide_eq_false (by omega)
            have HPT := Lib.hid hpt
            clear hpt
            go_wp2
            go_quiet (fail)
            go_wp2
            go_roundw
            case rel => exact ⟨d + 1, by omega, by have := HJ.out; go_num, by rw [HCS.out, HPT.out]; go_num, m + nq, rfl⟩
            case measure => have := HJ.out; simp [intOf]; omega
        · have hpt : p d = false := by rw [HPD.out]; exact decide_eq_false (by omega)
          have HPT := Lib.hid hpt
          have e2 : ((X : Int) == (Y : Int)) = false := by simp; omega
          clear hpt
          go_wp2
          go_quiet (fail)
          go_wp2
          go_roundw
          case rel => exact ⟨d + 1, by omega, by have := HJ.out; go_num, by rw [HCS.out, HPT.out]; go_num, m + nq, rfl⟩
          case measure => have := HJ.out; simp [intOf]; omega
    · have dl : decide ((J : Int) < 2 * (F : Int)) = false := decide_eq_false (by omega)
      have hdF : d = F := by omega
      clear hJ hc hpd hcs2
      go_wp2
      go_ret
      rw [← hdF, HCC.out]
      exact ⟨rfl, m, rfl⟩

end Go.Proofs.Ytokeoebhmjefoaa

/- Plain: what a model's payload of bytes is, and what is decoded of a payload. -/
namespace Go.Proofs.Ytokeoebhmjefoaa
open Go

/-- a model's counts; its log -/
def fM (m : Md) (c s : Nat) : Nat := fq (m.atL (c : Int)) s
def RM (m : Md) : Nat := m.log.toNat

theorem norm_at {m : Md} (hr : m.right) (c : Int) (h : m.atL c ≠ []) : NormQ (m.atL c) (RM m) := by
  have hl : m.atL c ∈ m.cs := by
    unfold Md.atL at h ⊢
    split at h
    · rename_i hc
      rw [if_pos hc]
      have h2 := hr.2.1
      split
      · rename_i ho
        rw [if_pos ho] at h2
        rw [List.getD_eq_getElem?_getD, List.getElem?_eq_getElem (by omega)]
        exact List.getElem_mem _
      · rename_i ho
        rw [if_neg ho] at h2
        rw [List.getD_eq_getElem?_getD, List.getElem?_eq_getElem (by omega)]
        exact List.getElem_mem _
    · exact absurd rfl h
  rcases hr.2.2 _ hl with ⟨h0, _⟩ | h1
  · exact absurd h0 h
  · have h2 := hr.1
    have h3 : logI (totalI (m.atL c)) = RM m := by unfold RM; omega
    have h4 := normQ_of (q := m.atL c) (by omega)
    rwa [h3] at h4

theorem prs_mem (c : Nat) (xs : List Nat) (p : Nat × Nat) : p ∈ prs c xs ↔ ∃ i, i < xs.length ∧ p = ((c :: xs).getD i 0, xs.getD i 0) := by
  induction xs generalizing c with
  | nil => simp [prs]
  | cons x r ih =>
    simp only [prs, List.mem_cons, ih]
    constructor
    · rintro (rfl | ⟨i, hi, rfl⟩)
      · exact ⟨0, by simp, rfl⟩
      · exact ⟨i + 1, by simpa using hi, rfl⟩
    · rintro ⟨i, hi, rfl⟩
      cases i with
      | zero => exact .inl rfl
      | succ i => exact .inr ⟨i, by simpa using hi, rfl⟩
theorem prs_drop (c : Nat) (xs : List Nat) (k : Nat) (h : k < xs.length) : (prs c xs).drop k = ((c :: xs).getD k 0, xs.getD k 0) :: (prs c xs).drop (k + 1) := by
  induction xs generalizing c k with
  | nil => simp at h
  | cons x r ih =>
    cases k with
    | zero => simp [prs]
    | succ k =>
      simp only [prs, List.drop_succ_cons]
      rw [ih x k (by simpa using h)]
      rfl
theorem prs_length (c : Nat) (xs : List Nat) : (prs c xs).length = xs.length := by
  induction xs generalizing c with
  | nil => rfl
  | cons x r ih => simp [prs, ih]

theorem fits_iff {m : Md} {xs : List Nat} (hr : m.right) : m.fits xs ↔ ∀ p ∈ prs 0 xs, m.atL (p.1 : Int) ≠ [] ∧ 1 ≤ fM m p.1 p.2 := by
  constructor
  · intro h p hp
    obtain ⟨i, hi, rfl⟩ := (prs_mem 0 xs p).1 hp
    obtain ⟨h1, h2⟩ := h.2 i hi
    refine ⟨h1, ?_⟩
    have h3 := (norm_at hr _ h1).at (xs.getD i 0)
    unfold fM
    simp only []
    omega
  · intro h
    refine ⟨hr, fun i hi => ?_⟩
    obtain ⟨h1, h2⟩ := h _ ((prs_mem 0 xs _).2 ⟨i, hi, rfl⟩)
    simp only [] at h1 h2
    refine ⟨h1, ?_⟩
    have h3 := (norm_at hr _ h1).at (xs.getD i 0)
    unfold fM at h2
    omega
theorem fits_fam {m : Md} {xs : List Nat} (h : m.fits xs) (hx : ∀ x ∈ xs, x < 256) : FamOk (RM m) (fM m) (prs 0 xs) := by
  intro p hp
  obtain ⟨h1, h2⟩ := (fits_iff h.1).1 h p hp
  refine ⟨?_, h2, (norm_at h.1 _ h1).sum⟩
  obtain ⟨i, hi, rfl⟩ := (prs_mem 0 xs p).1 hp
  simp only []
  exact getD_lt xs hx i

open Classical in
/-- the cells of counts -/
noncomputable def tabF (f : Nat → Nat) (R : Nat) : List Cl := (List.range (2 ^ R)).map fun a =>
  if h : ∃ p : Nat × Nat, p.1 < 256 ∧ p.2 < f p.1 ∧ placeF f 256 p.1 (f p.1 + p.2) = a then cellOf R h.choose.1 (f h.choose.1 + h.choose.2) else cl0
theorem tabF_is {f : Nat → Nat} {R : Nat} (hs : sumTo f 256 = 2 ^ R) : IsDtab f R (tabF f R) := by
  refine ⟨by simp [tabF], fun s d h1 h2 => ?_⟩
  have hp : placeF f 256 s (f s + d) < 2 ^ R := by rw [← hs]; exact place_room h1 h2
  have hex : ∃ p : Nat × Nat, p.1 < 256 ∧ p.2 < f p.1 ∧ placeF f 256 p.1 (f p.1 + p.2) = placeF f 256 s (f s + d) := ⟨(s, d), h1, h2, rfl⟩
  unfold tabF
  rw [List.getD_eq_getElem?_getD, List.getElem?_map, List.getElem?_range hp]
  simp only [Option.map_some, Option.getD_some]
  rw [dif_pos hex]
  obtain ⟨e1, e2, e3⟩ := hex.choose_spec
  obtain ⟨e4, e5⟩ := place_inj e1 h1 e2 h2 e3
  rw [e4, e5]
/-- the cells of a context's list -/
noncomputable def tabM (m : Md) (c : Nat) : Option (List Cl) := if m.atL (c : Int) = [] then none else some (tabF (fM m c) (RM m))
theorem tabM_is {m : Md} (hr : m.right) (c : Nat) (l : List Cl) (h : tabM m c = some l) : IsDtab (fM m c) (RM m) l ∧ sumTo (fM m c) 256 = 2 ^ RM m := by
  unfold tabM at h
  split at h
  · simp at h
  · rename_i hne
    simp only [Option.some.injEq] at h
    have := (norm_at hr _ hne).sum
    subst h
    exact ⟨tabF_is this, this⟩
theorem tabM_some {m : Md} {c : Nat} (h : m.atL (c : Int) ≠ []) : tabM m c = some (tabF (fM m c) (RM m)) := by unfold tabM; rw [if_neg h]
theorem tabM_none {m : Md} {c : Nat} (h : m.atL (c : Int) = []) : tabM m c = none := by unfold tabM; rw [if_pos h]
/-- any cells that are a list's are those -/
theorem tabM_one {m : Md} (hr : m.right) {c : Nat} {l : List Cl} (h : m.atL (c : Int) ≠ []) (hl : IsDtab (fM m c) (RM m) l) : tabM m c = some l := by
  have hs : sumTo (fM m c) 256 = 2 ^ RM m := (norm_at hr _ h).sum
  rw [tabM_some h, (tabF_is hs).one hs hl]

open Classical in
/-- the payload's bits, without the mark -/
noncomputable def payL (m : Md) (xs : List Nat) : List Bool :=
  if h : ∃ p : List Bool × (Nat × Nat), Enc (RM m) (fM m) 0 (prs 0 xs) p.1 p.2 then payB (RM m) h.choose.1 h.choose.2 else []
theorem payL_of {m : Md} {xs : List Nat} {bs : List Bool} {st : Nat × Nat} (h : Enc (RM m) (fM m) 0 (prs 0 xs) bs st) : payL m xs = payB (RM m) bs st := by
  have hex : ∃ p : List Bool × (Nat × Nat), Enc (RM m) (fM m) 0 (prs 0 xs) p.1 p.2 := ⟨(bs, st), h⟩
  unfold payL
  rw [dif_pos hex]
  obtain ⟨e1, e2⟩ := hex.choose_spec.one h
  rw [e1, e2]
theorem payL_enc {m : Md} {xs : List Nat} (h : m.fits xs) (hx : ∀ x ∈ xs, x < 256) : ∃ bs st, Enc (RM m) (fM m) 0 (prs 0 xs) bs st ∧ payL m xs = payB (RM m) bs st := by
  obtain ⟨bs, st, he⟩ := Enc.some (prs 0 xs) 0 (fits_fam h hx)
  exact ⟨bs, st, he, payL_of he⟩

/-- may bytes be encoded? -/
def lnOk (m : Md) (xs : List Nat) : Prop := m.fits xs ∧ xs.length ≤ 131072
instance lnOk_dec (m : Md) (xs : List Nat) : Decidable (lnOk m xs) := by unfold lnOk; infer_instance
noncomputable def lnEnc (m : Md) (xs : List Nat) : List Nat := if lnOk m xs then pack (payL m xs ++ [true]) else []
def lnErr (m : Md) (xs : List Nat) : Int := if lnOk m xs then 0 else 1
noncomputable def lnBits (m : Md) (xs : List Nat) : Nat := if lnOk m xs then (payL m xs).length else 0
/-- what is decoded, or the error's number -/
noncomputable def lnRes (m : Md) (ps : List Nat) (n : Int) : Except Nat (List Nat) :=
  if m.right ∧ 0 ≤ n ∧ n ≤ 131072 then (if Marked ps then lnDec (RM m) (tabM m) (openB ps) n.toNat else .error 2) else .error 1
def outOf : Except Nat (List Nat) → List Nat
  | .ok xs => xs
  | .error _ => []
def errOf : Except Nat (List Nat) → Nat
  | .ok _ => 0
  | .error e => e

theorem decG_err {T : Nat → Option (List Cl)} : ∀ (k i c : Nat) (bs : List Bool) (st : Nat × Nat) (e : Nat), decG T k i c bs st = .error e → e = 13 ∨ e = 3
  | 0, i, c, bs, st, e, h => by simp [decG] at h
  | k + 1, i, c, bs, st, e, h => by
    simp only [decG] at h
    cases hl : T c with
    | none => rw [hl] at h; simp at h; exact .inl h.symm
    | some l =>
      rw [hl] at h
      simp only [] at h
      split at h
      · simp at h; exact .inr h.symm
      · cases hr : decG T k (i + 1) (l.getD (lane i st) cl0).Sym (takeR bs (l.getD (lane i st) cl0).Bits.toNat) (setLane i st ((l.getD (lane i st) cl0).Base + ((takeV bs (l.getD (lane i st) cl0).Bits.toNat : Nat) : Int)).toNat) with
        | error e2 =>
          rw [hr] at h
          simp only [Except.error.injEq] at h
          subst h
          exact decG_err k _ _ _ _ _ hr
        | ok p => rw [hr] at h; simp at h
theorem lnRes_err {m : Md} {ps : List Nat} {n : Int} {e : Nat} (h : lnRes m ps n = .error e) : 1 ≤ e ∧ e ≤ 14 := by
  unfold lnRes at h
  split at h
  · split at h
    · unfold lnDec at h
      split at h
      · simp at h; omega
      · cases hd : decG (tabM m) n.toNat 0 0 (takeR (takeR (openB ps) (RM m)) (RM m)) (takeV (openB ps) (RM m), takeV (takeR (openB ps) (RM m)) (RM m)) with
        | error e2 =>
          rw [hd] at h
          simp only [Except.error.injEq] at h
          subst h
          have := decG_err _ _ _ _ _ _ hd
          omega
        | ok p =>
          obtain ⟨o, b, st⟩ := p
          rw [hd] at h
          simp only [] at h
          split at h
          · simp at h
          · simp at h; omega
    · simp at h; omega
  · simp at h; omega
theorem errOf_zero {m : Md} {ps : List Nat} {n : Int} (h : errOf (lnRes m ps n) = 0) : ∃ ys, lnRes m ps n = .ok ys := by
  cases hr : lnRes m ps n with
  | ok ys => exact ⟨ys, rfl⟩
  | error e => rw [hr] at h; have := lnRes_err hr; simp [errOf] at h; omega
theorem errOf_ne {m : Md} {ps : List Nat} {n : Int} (h : errOf (lnRes m ps n) ≠ 0) : outOf (lnRes m ps n) = [] := by
  cases hr : lnRes m ps n with
  | ok ys => rw [hr] at h; simp [errOf] at h
  | error e => rfl

/-- what is encoded is decoded -/
theorem ln_back {m : Md} {xs : List Nat} (h : lnOk m xs) (hx : ∀ x ∈ xs, x < 256) : lnRes m (lnEnc m xs) (xs.length : Int) = .ok xs := by
  obtain ⟨bs, st, he, hp⟩ := payL_enc h.1 hx
  have hfam := fits_fam h.1 hx
  have hcl := close_last (payL m xs)
  unfold lnRes lnEnc
  rw [if_pos h, if_pos ⟨h.1.1, by omega, by have := h.2; omega⟩, if_pos ⟨hcl.2.2, hcl.2.1⟩, openB_close, hp, Int.toNat_natCast]
  refine lnDec_pay xs bs st hfam (fun p hp => ?_) he
  obtain ⟨h1, _⟩ := (fits_iff h.1.1).1 h.1 p hp
  exact ⟨_, tabM_some h1, tabF_is (norm_at h.1.1 _ h1).sum⟩
/-- what is decoded is encoded -/
theorem ln_one {m : Md} {ps ys : List Nat} {n : Int} (hps : ∀ x ∈ ps, x < 256) (h : lnRes m ps n = .ok ys) : (ys.length : Int) = n ∧ lnOk m ys ∧ lnEnc m ys = ps ∧ ∀ y ∈ ys, y < 256 := by
  unfold lnRes at h
  split at h
  · rename_i hc
    obtain ⟨hr, h0, h1⟩ := hc
    split at h
    · rename_i hm
      obtain ⟨hlen, hfam, htab, bs, st, he, hl⟩ := lnDec_one (F := fM m) (fun c l hcl => tabM_is hr c l hcl) _ _ _ h
      have hf : m.fits ys := (fits_iff hr).2 fun p hp => by
        obtain ⟨l, hl⟩ := htab p hp
        refine ⟨fun h0 => ?_, (hfam p hp).2.1⟩
        rw [tabM_none h0] at hl
        simp at hl
      have hok : lnOk m ys := ⟨hf, by omega⟩
      have hy : ∀ y ∈ ys, y < 256 := fun y hy => by
        obtain ⟨i, hi, rfl⟩ := List.mem_iff_getElem.1 hy
        have := (hfam _ ((prs_mem 0 ys _).2 ⟨i, hi, rfl⟩)).1
        simp only [] at this
        rwa [List.getD_eq_getElem?_getD, List.getElem?_eq_getElem hi] at this
      refine ⟨by omega, hok, ?_, hy⟩
      unfold lnEnc
      rw [if_pos hok, payL_of he, ← hl]
      exact pack_openB ps hps hm.1 hm.2
    · simp at h
  · simp at h
theorem enc_len {R : Nat} {F : Nat → Nat → Nat} {i : Nat} {P : List (Nat × Nat)} {bs : List Bool} {st : Nat × Nat} (h : Enc R F i P bs st) : FamOk R F P → bs.length ≤ P.length * R := by
  induction h with
  | nil i => intro _; simp
  | cons h hn ih =>
    intro hf
    have hp := hf _ (List.mem_cons_self ..)
    have h1 := ih hf.tail
    have h2 := lefts_le hp.2.1 (f_le hp.2.2 hp.1) (lane_lt (h.lt hf.tail)) hn
    rw [List.length_append, bitsOf_length, List.length_cons, Nat.add_mul]
    omega
theorem payL_bounds {m : Md} {xs : List Nat} (h : m.fits xs) (hx : ∀ x ∈ xs, x < 256) : 2 * RM m ≤ (payL m xs).length ∧ (payL m xs).length ≤ xs.length * RM m + 2 * RM m := by
  obtain ⟨bs, st, he, hp⟩ := payL_enc h hx
  have := enc_len he (fits_fam h hx)
  rw [prs_length] at this
  rw [hp]
  unfold payB
  simp only [List.length_append, bitsOf_length]
  omega
theorem payL_cheap {m : Md} {xs : List Nat} (h : m.fits xs) (hx : ∀ x ∈ xs, x < 256) : 2 ^ ((payL m xs).length - 2 * RM m) * prodQ (fM m) (prs 0 xs) ≤ prodM (RM m) (fM m) (prs 0 xs) := by
  obtain ⟨bs, st, he, hp⟩ := payL_enc h hx
  have := enc_cheaper he (fits_fam h hx)
  rw [hp]
  unfold payB
  simp only [List.length_append, bitsOf_length]
  rwa [show bs.length + RM m + RM m - 2 * RM m = bs.length by omega]
theorem payL_congr {m n : Md} (xs : List Nat) (hl : m.log = n.log) (hf : ∀ c, m.atL c = n.atL c) : payL m xs = payL n xs := by
  have h1 : RM m = RM n := by unfold RM; rw [hl]
  have h2 : fM m = fM n := by funext c s; unfold fM; rw [hf]
  unfold payL
  rw [h1, h2]
theorem RM_le {m : Md} (h : m.right) : 1 ≤ RM m ∧ RM m ≤ 12 ∧ ((RM m : Nat) : Int) = m.log := by
  have := h.1
  unfold RM
  omega

end Go.Proofs.Ytokeoebhmjefoaa

/- Lists of lists of numbers, and models, in memory. -/
namespace Go.Proofs.Ytokeoebhmjefoaa
open Go.RowKit

/-- The value v is a slice of the lists L. -/
def RdLL (w : World) (v : Value) (L : List (List Int)) : Prop :=
  (L = [] ∧ ∃ ao c, v = .slice ao 0 c) ∨ ∃ g off cap, v = .slice (some ⟨g, off, none⟩) L.length cap ∧ ∀ j, j < L.length → ∃ u, w.cell? ⟨g, off + j, none⟩ = some u ∧ RdIr w u (L.getD j [])
theorem RdLL.form {w : World} {v : Value} {L : List (List Int)} (h : RdLL w v L) : ∃ ao cap, v = .slice ao L.length cap := by
  rcases h with ⟨rfl, ao, c, rfl⟩ | ⟨g, off, cap, rfl, _⟩
  · exact ⟨ao, c, rfl⟩
  · exact ⟨_, cap, rfl⟩
theorem RdLL.room {w : World} {ao : Option Addr} {n cap : Nat} {L : List (List Int)} (h : RdLL w (.slice ao n cap) L) (j : Nat) (hj : j < L.length) : ∃ g off u, ao = some ⟨g, off, none⟩ ∧ w.cell? ⟨g, off + j, none⟩ = some u ∧ RdIr w u (L.getD j []) := by
  rcases h with ⟨h0, _⟩ | ⟨g, off, cap', he, hc⟩
  · rw [h0] at hj; simp at hj
  · simp only [Value.slice.injEq] at he
    obtain ⟨u, h1, h2⟩ := hc j hj
    exact ⟨g, off, u, he.1, h1, h2⟩
theorem RdLL.at {w : World} {ao : Option Addr} {n cap : Nat} {L : List (List Int)} (h : RdLL w (.slice ao n cap) L) (j : Nat) (hj : j < L.length) : ∃ g off u, ao = some ⟨g, off, none⟩ ∧ w.cell? ⟨g, off + j, none⟩ = some u ∧ RdI w u (L.getD j []) := by
  obtain ⟨g, off, u, h1, h2, h3⟩ := h.room j hj
  exact ⟨g, off, u, h1, h2, h3.1⟩
theorem RdLL.kept {w w' : World} {v : Value} {L : List (List Int)} (h : RdLL w v L) (hc : Chg (fun _ => False) w w') : RdLL w' v L := by
  rcases h with h | ⟨g, off, cap, rfl, hcell⟩
  · exact .inl h
  · refine .inr ⟨g, off, cap, rfl, fun j hj => ?_⟩
    obtain ⟨u, h1, h2⟩ := hcell j hj
    have hb := hc.block g (block_lt_of_cell h1) (by simp)
    exact ⟨u, by rw [World.cell?_of_block (w := w) (a := ⟨g, off + j, none⟩) hb]; exact h1, h2.kept hc (by simp)⟩
theorem RdLL.nil (w : World) (ao : Option Addr) (c : Nat) : RdLL w (.slice ao 0 c) [] := .inl ⟨rfl, ao, c, rfl⟩

/-- a model as a value -/
def mdv (m : Md) (cv : Value) : Value := .agg #[.int .i64 m.log, .bool m.one, cv]
/-- The value v is the model m. -/
def RdM (w : World) (v : Value) (m : Md) : Prop := ∃ cv, v = mdv m cv ∧ RdLL w cv m.cs
theorem RdM.kept {w w' : World} {v : Value} {m : Md} (h : RdM w v m) (hc : Chg (fun _ => False) w w') : RdM w' v m := by
  obtain ⟨cv, h1, h2⟩ := h
  exact ⟨cv, h1, h2.kept hc⟩
/-- The value v is the model m, whatever turns below block B. -/
def RdMF (B : Nat) (w : World) (v : Value) (m : Md) : Prop := ∀ (S : Nat → Prop) (w' : World), Chg S w w' → (∀ k, B ≤ k → ¬ S k) → RdM w' v m
theorem RdMF.rd {B : Nat} {w : World} {v : Value} {m : Md} (h : RdMF B w v m) : RdM w v m := h (fun _ => False) w (Chg.refl _ _) (by simp)
/-- numbers that an int holds, and lengths that a machine has -/
def Md.fit64 (m : Md) : Prop := (-9223372036854775808 ≤ m.log ∧ m.log ≤ 9223372036854775807) ∧ m.cs.length < 100000000000 ∧ ∀ l ∈ m.cs, l.length < 100000000000 ∧ ∀ z ∈ l, -9223372036854775808 ≤ z ∧ z ≤ 9223372036854775807
theorem Md.fit64.at {m : Md} (h : m.fit64) (j : Nat) (hj : j < m.cs.length) : (m.cs.getD j []).length < 100000000000 ∧ ∀ z ∈ m.cs.getD j [], -9223372036854775808 ≤ z ∧ z ≤ 9223372036854775807 := by
  refine h.2.2 _ ?_
  rw [List.getD_eq_getElem?_getD, List.getElem?_eq_getElem hj]
  exact List.getElem_mem _

/-- the first lists are of the log -/
theorem right_take {m : Md} {k : Nat} (h : ∀ j, j < k → okL m.log m.one (m.cs.getD j [])) (hk : k = m.cs.length) : ∀ l ∈ m.cs, okL m.log m.one l := by
  intro l hl
  obtain ⟨j, hj, rfl⟩ := List.mem_iff_getElem.1 hl
  have := h j (by omega)
  rwa [List.getD_eq_getElem?_getD, List.getElem?_eq_getElem hj] at this
theorem Md.right.at {m : Md} (h : m.right) (j : Nat) (hj : j < m.cs.length) : okL m.log m.one (m.cs.getD j []) := by
  refine h.2.2 _ ?_
  rw [List.getD_eq_getElem?_getD, List.getElem?_eq_getElem hj]
  exact List.getElem_mem _

theorem Md.right.fit64 {m : Md} (h : m.right) : m.fit64 := by
  refine ⟨by have := h.1; omega, by have := h.2.1; split at this <;> omega, fun l hl => ?_⟩
  rcases h.2.2 l hl with ⟨h1, _⟩ | h1
  · subst h1; simp
  · obtain ⟨hr, h256⟩ := log_right (l := l) (by have := h.1; omega)
    refine ⟨by omega, fun z hz => ?_⟩
    obtain ⟨i, hi, rfl⟩ := List.mem_iff_getElem.1 hz
    have := hr.one i hi
    rw [List.getD_eq_getElem?_getD, List.getElem?_eq_getElem hi] at this
    simp only [Option.getD_some] at this
    omega
theorem md0_fit64 : md0.fit64 := ⟨by simp [md0], by simp [md0], fun l hl => by simp [md0] at hl⟩

end Go.Proofs.Ytokeoebhmjefoaa

/- Plain: the places of a symbol in a spread, and the binary search for the bits that are left over. -/
namespace Go.Proofs.Ytokeoebhmjefoaa
open Go

/-- the places below p of the symbol s -/
def posL (l : List Nat) (s : Nat) : Nat → List Int
  | 0 => []
  | p + 1 => if l.getD p 0 = s then posL l s p ++ [(p : Int)] else posL l s p
theorem posL_hit {l : List Nat} {s p : Nat} (h : l.getD p 0 = s) : posL l s (p + 1) = posL l s p ++ [(p : Int)] := if_pos h
theorem posL_miss {l : List Nat} {s p : Nat} (h : l.getD p 0 ≠ s) : posL l s (p + 1) = posL l s p := if_neg h
theorem posL_length (l : List Nat) (s : Nat) : ∀ p, (posL l s p).length = countTo (fun a => decide (l.getD a 0 = s)) p
  | 0 => rfl
  | p + 1 => by
    simp only [countTo]
    by_cases h : l.getD p 0 = s
    · rw [posL_hit h, List.length_append, posL_length l s p, if_pos (decide_eq_true h)]; rfl
    · rw [posL_miss h, posL_length l s p, if_neg (by simpa using h)]; rfl
theorem posL_at (l : List Nat) (s : Nat) {a : Nat} (ha : l.getD a 0 = s) : ∀ p, a < p → (posL l s p)[countTo (fun a => decide (l.getD a 0 = s)) a]? = some (a : Int)
  | 0, h => by omega
  | p + 1, h => by
    by_cases e : a = p
    · subst e
      rw [posL_hit ha, List.getElem?_append_right (by rw [posL_length]; exact Nat.le_refl _), posL_length, Nat.sub_self]; rfl
    · have ih := posL_at l s ha p (by omega)
      have hlt := (List.getElem?_eq_some_iff.1 ih).1
      by_cases hp : l.getD p 0 = s
      · rw [posL_hit hp, List.getElem?_append_left hlt]; exact ih
      · rw [posL_miss hp]; exact ih
/-- a symbol's places are its keys', in their order -/
theorem IsSpread.pos {f : Nat → Nat} {N : Nat} {l : List Nat} (h : IsSpread f N l) {s d : Nat} (hs : s < N) (hd : d < f s) :
    (posL l s l.length)[d]? = some ((placeF f N s (f s + d) : Nat) : Int) := by
  have h1 := posL_at l s (h.at' s d hs hd) l.length (by rw [h.len]; exact place_room hs hd)
  rwa [h.nth hs hd] at h1
theorem IsSpread.pos_length {f : Nat → Nat} {N : Nat} {l : List Nat} (h : IsSpread f N l) {s : Nat} (hs : s < N) : (posL l s l.length).length = f s := by
  rw [posL_length, h.all hs]
theorem posL_none {l : List Nat} {s : Nat} (p : Nat) (hp : p ≤ l.length) (h : ∀ x ∈ l, x ≠ s) : posL l s p = [] := by
  rw [← List.length_eq_zero_iff, posL_length]
  exact countTo_none _ _ fun a ha => decide_eq_false (by
    rw [List.getD_eq_getElem?_getD, List.getElem?_eq_getElem (show a < l.length by omega)]
    exact h _ (List.getElem_mem _))

/-- halves fall -/
theorem div_fall (y : Nat) {a b : Nat} (h : a ≤ b) : y / 2 ^ b ≤ y / 2 ^ a := Nat.div_le_div_left (Nat.pow_le_pow_right (by decide) h) (Nat.two_pow_pos a)
/-- the least number of bits without which y comes below twice q leaves no less than q -/
theorem lefts_least {R q x n : Nat} (h1 : 1 ≤ q) (h2 : q ≤ 2 ^ R) (hx : x < 2 ^ R) (hn : n ≤ R)
    (lo : ∀ m, m < n → ¬ (2 ^ R + x) / 2 ^ m < 2 * q) (hi : ∀ m, n ≤ m → m < R → (2 ^ R + x) / 2 ^ m < 2 * q) : lefts q (2 ^ R + x) n := by
  obtain ⟨m, hm, hl⟩ := lefts_some h1 h2 hx
  have hmn : m = n := by
    by_cases hlt : m < n
    · exact absurd hl.2 (lo m hlt)
    · by_cases hgt : n < m
      · have a1 := hi n (Nat.le_refl _) (by omega)
        have a2 := half_more (y := 2 ^ R + x) hgt
        have a3 := hl.1
        omega
      · omega
  rw [← hmn]; exact hl

end Go.Proofs.Ytokeoebhmjefoaa

/- append(s, x...): numbers x that are read, nil or not, onto a row of numbers of the call's own. -/
namespace Go.Proofs.Ytokeoebhmjefoaa
open Go.RowKit

theorem RdI.news {w : World} {a : Addr} {n cap : Nat} {xs : List Int} (h : RdI w (.slice (some a) n cap) xs) : ∀ j u, (iw xs)[j]? = some u → w.cell? (a.add j) = some u := by
  intro j u hu
  rcases h with ⟨rfl, _⟩ | ⟨g, off, cap', he, hc⟩
  · simp [iw] at hu
  · simp only [Value.slice.injEq, Option.some.injEq] at he
    obtain ⟨rfl, rfl, rfl⟩ := he
    have hj : j < xs.length := by rw [← iw_length]; exact (List.getElem?_eq_some_iff.1 hu).1
    rw [iw_get xs j hj] at hu
    rw [← Option.some.inj hu, add_lit]
    exact hc j hj
theorem iw_one (xs : List Int) : ∀ u ∈ iw xs, u.oneCell' = true := by
  intro u hu
  simp only [iw, List.mem_map] at hu
  obtain ⟨x, _, rfl⟩ := hu
  rfl
theorem run_appendI_nil (w : World) (ty : TypeId) (base n c : Nat) (v : Value) (ys : List Value) (hown : w.ownsRow base 3 1 v n ys) :
    (Builtin.append_ #[41, 41] ty #[v, .slice none 0 c]).run Try.prog w = .ok v w := by
  obtain ⟨i, hi, hz0, hz1, hz2⟩ := info_parts Try.infoInt
  rcases hown.2 with ⟨rfl, _⟩ | ⟨g, cap, cur, rfl, _, hg, hn, _⟩
  · simp [Builtin.append_, run_underlying Try.underlying41, sizeOf, typeInfo, hi, Builtin.lenOf, Builtin.firstCells]
  · simp [Builtin.append_, run_underlying Try.underlying41, sizeOf, typeInfo, hi, Builtin.lenOf, Builtin.firstCells, hn, storeCells]

theorem wp_append_ints {o : Oper} {a : Act} {w : World} {K : Act → World → Prop} {Q : Exit → Act → World → Prop} (s x : Operand)
    (ho : o.op = .call { callee := .builtin .append, args := #[s, x], argTypes := #[41, 41] })
    (base : Nat) (v : Value) (ys : List Int) (hs : a.eval s = v) (hown : w.ownsRow base 3 1 v ys.length (iw ys))
    (u : Value) (xs : List Int) (hx : a.eval x = u) (hr : RdI w u xs) (hb : base ≤ w.heap.size) (hl : ys.length + xs.length < 100000000000)
    (h : ∀ v' w', w'.ownsRow base 3 1 v' (ys ++ xs).length (iw (ys ++ xs)) → Chg (fun k => some k = v.ownBlock) w w' → K (a.put o.dst v') w') : o.wp Try.prog a w K Q := by
  obtain ⟨i, hi, hz0, hz1, hz2⟩ := info_parts Try.infoInt
  obtain ⟨ao, cap, hu⟩ := hr.form
  subst hu
  cases ao with
  | none =>
    have h0 : xs = [] := by
      rcases hr with ⟨h0, _⟩ | ⟨g, off, cap', he, _⟩
      · exact h0
      · simp at he
    subst h0
    have hrun := run_appendI_nil w o.type base ys.length cap v (iw ys) hown
    rw [List.length_nil] at hx
    unfold Oper.wp execOp
    simp only [ho, resolve, invoke, builtin, Sem.run_bind, Sem.run_pure, Result.andThen_ok, List.map_toArray, List.map_cons, List.map_nil, hs, hx, hrun]
    exact h v w (by rw [List.append_nil]; exact hown) (Chg.refl _ _)
  | some ad =>
    refine wp_append_own w s x 41 ho base 3 i (.int .i64 0) 1 8 Try.underlying41 hi hz0 hz1 hz2 rfl (by decide) v ys.length (iw ys) hs hown ad xs.length cap (iw xs) hx (by rw [iw_length, Nat.mul_one]) (RdI.news hr) (iw_one xs) (by unfold maxLen; omega) (by omega) hb fun v' w' h2 h3 _ => ?_
    exact h v' w' (by rw [List.length_append, show iw (ys ++ xs) = iw ys ++ iw xs from by simp [iw]]; exact h2) (Chg.of_grown h3)

theorem wpList_append_ints {ops : Array Oper} {rest : List Oper} {o : Oper} {a : Act} {w : World} {Q : Exit → Act → World → Prop} (hgd : o.guard = none) (s x : Operand)
    (ho : o.op = .call { callee := .builtin .append, args := #[s, x], argTypes := #[41, 41] })
    (base : Nat) (v : Value) (ys : List Int) (hs : a.eval s = v) (hown : w.ownsRow base 3 1 v ys.length (iw ys))
    (u : Value) (xs : List Int) (hx : a.eval x = u) (hr : RdI w u xs) (hb : base ≤ w.heap.size) (hl : ys.length + xs.length < 100000000000)
    (h : ∀ v' w', w'.ownsRow base 3 1 v' (ys ++ xs).length (iw (ys ++ xs)) → Chg (fun k => some k = v.ownBlock) w w' → wpList Try.prog ops Q rest (a.put o.dst v') w') :
    wpList Try.prog ops Q (o :: rest) a w :=
  wpList_plain hgd fun _ hK => wp_append_ints s x ho base v ys hs hown u xs hx hr hb hl fun v' w' h2 h3 => hK _ _ (h v' w' h2 h3)

/-- numbers that the call has laid -/
theorem rdi_new (w : World) (xs : List Int) (cs : Array Value) (n : Nat) (fr : Nat × Nat) (h : cs.toList = iw xs) (hn : n = xs.length) : RdI (w.alloc (.cells cs 3 fr)) (.slice (some ⟨w.heap.size, 0, none⟩) n n) xs := by
  subst hn
  refine .inr ⟨w.heap.size, 0, xs.length, rfl, fun j hj => ?_⟩
  rw [cell_of_row _ _ _ _ _ _ (heap_alloc_new w _), Nat.zero_add, ← Array.getElem?_toList, h, iw_get xs j hj]

theorem RdI.of_own {w : World} {base : Nat} {v : Value} {n : Nat} {xs : List Int} (h : w.ownsRow base 3 1 v n (iw xs)) : RdI w v xs := by
  have hl := h.1
  rw [iw_length] at hl
  rcases h.2 with ⟨rfl, rfl⟩ | ⟨g, cap, cur, rfl, _⟩
  · exact .inl ⟨List.eq_nil_of_length_eq_zero (by omega), none, 0, rfl⟩
  · refine .inr ⟨g, 0, cap, by simp [hl], fun j hj => ?_⟩
    rw [Nat.zero_add, h.cellAt j (by omega), iw_get xs j hj]

/-- nil is a row of no numbers -/
theorem nil_owns (w : World) (base : Nat) : w.ownsRow base 3 1 (.slice none 0 0) ([] : List Int).length (iw []) := ⟨rfl, .inl ⟨rfl, rfl⟩⟩

end Go.Proofs.Ytokeoebhmjefoaa

/- A map of lists of places in memory: one that the call makes, symbol by symbol, and one that is read. -/
namespace Go.Proofs.Ytokeoebhmjefoaa
open Go.RowKit Go.Maps Go.ChangeShapes Go.ChangeMaps Go.MapKept

theorem keyU8 : Keyed Try.prog 5 := int_keyed Try.underlying5
theorem zeroInts (w : World) : (zeroValue 41).run Try.prog w = .ok (.slice none 0 0) w := by kernel_rfl
theorem wf_u8 {s : Nat} (hs : s < 256) : (Lit.int .u8 (s : Int)).wf = true := by
  simp [Lit.wf, IntKind.min, IntKind.max, IntKind.bits, IntKind.signed]; omega
theorem key_u8 {s : Nat} (hs : s < 256) : keyOf Try.prog 5 (.int .u8 (s : Int)) = some (.int .u8 (s : Int)) := keyOf_int_mk Try.underlying5 (wf_u8 hs)

/-- a list as it reads in a map -/
def datL (l : List Int) : DataW Unit := if l = [] then .nil else .slice (lits .i64 l) []
theorem lits_inj {a b : List Int} (h : lits (H := Unit) .i64 a = lits .i64 b) : a = b := (List.map_inj_right (fun x y hxy => by simpa using hxy)).1 h
theorem datL_own {w : World} {base : Nat} {v : Value} {zs l : List Int} (h : w.ownsInts base 3 .i64 v zs) (hd : rowDatum (H := Unit) .i64 v zs = datL l) : zs = l := by
  unfold datL at hd
  rcases h.datum (H := Unit) with ⟨h1, h2⟩ | h1
  · rw [h1] at hd
    by_cases e : l = []
    · rw [h2, e]
    · rw [if_neg e] at hd; cases hd
  · rw [h1] at hd
    by_cases e : l = []
    · rw [if_pos e] at hd; cases hd
    · rw [if_neg e] at hd
      injection hd with hd
      exact lits_inj hd

/-- kept, whatever turns but its own blocks -/
theorem groups_keptS {S : Nat → Prop} {w w' : World} {P : Program} {k : TypeId} {base : Nat} {e : TypeId} {q : IntKind} {b n : Nat} {D : DataW Unit} (h : w.ownsGroups P k base e q b n D) (hc : Chg S w w') (hSb : ¬ S b) (hS : ∀ k, base ≤ k → k < w.heap.size → ¬ S k) : w'.ownsGroups P k base e q b n D := by
  obtain ⟨es, clock, hb, F, hs, rfl, hbb, hlen, hap⟩ := h
  have keep : ∀ {v : Value} {zs : List Int}, w.ownsInts base e q v zs → w'.ownsInts base e q v zs := fun {v zs} ho => ⟨hc.own ho.1 fun k hk => hS k (ho.1.lt k hk).1 (ho.1.lt k hk).2, ho.2⟩
  obtain ⟨F2, hmap, _⟩ := F.stay (R' := rowElem (H := Unit) w' base e q) (fun x _ z hz => by
    obtain ⟨zs, ho, rfl⟩ := rowElem_inv hz
    exact rowElem_mk (keep ho))
  refine ⟨es, clock, (hc.block b (Array.getElem?_eq_some_iff.1 hb).1 hSb).trans hb, F2, hs, by rw [hmap], hbb, fun x hx zs ho => ?_, hap⟩
  obtain ⟨y, hy⟩ := F.reads x hx
  obtain ⟨z, hz, _⟩ := WideElems.rd_val hy
  obtain ⟨ys, ho0, rfl⟩ := rowElem_inv hz
  rw [ho.unique (keep ho0)]
  exact hlen x hx ys ho0
theorem groups_kept {w w' : World} {P : Program} {k : TypeId} {base : Nat} {e : TypeId} {q : IntKind} {b n : Nat} {D : DataW Unit} (h : w.ownsGroups P k base e q b n D) (hc : Chg (fun _ => False) w w') : w'.ownsGroups P k base e q b n D := groups_keptS h hc (fun h => h) fun _ _ _ h => h

/-- block b is a map of at most n lists, each in a row of its own from base on; that of s is g s -/
def Gm (w : World) (base b n : Nat) (g : Nat → List Int) : Prop :=
  ∃ D : DataW Unit, w.ownsGroups Try.prog 5 base 3 .i64 b n D ∧ IsMap D ∧ ∀ s : Nat, s < 256 → D.atKey (.int .u8 (s : Int)) .nil = datL (g s)
theorem Gm.kept {w w' : World} {base b n : Nat} {g : Nat → List Int} (h : Gm w base b n g) (hc : Chg (fun _ => False) w w') : Gm w' base b n g :=
  let ⟨D, h1, h2, h3⟩ := h; ⟨D, groups_kept h1 hc, h2, h3⟩
theorem Gm.keptS {S : Nat → Prop} {w w' : World} {base b n : Nat} {g : Nat → List Int} (h : Gm w base b n g) (hc : Chg S w w') (hSb : ¬ S b) (hS : ∀ k, base ≤ k → k < w.heap.size → ¬ S k) : Gm w' base b n g :=
  let ⟨D, h1, h2, h3⟩ := h; ⟨D, groups_keptS h1 hc hSb hS, h2, h3⟩
theorem Gm.lt {w : World} {base b n : Nat} {g : Nat → List Int} (h : Gm w base b n g) : b < w.heap.size := by
  obtain ⟨D, ⟨es, ck, hb, _⟩, _⟩ := h
  exact (Array.getElem?_eq_some_iff.1 hb).1
theorem Gm.made (w : World) : Gm (w.alloc (.map #[] 0)) (w.heap.size + 1) w.heap.size 0 (fun _ => []) :=
  ⟨.map [], World.ownsGroups_made _ _ _ _ _, isMap_empty, fun _ _ => rfl⟩
theorem Gm.congr {w : World} {base b n : Nat} {g g' : Nat → List Int} (h : Gm w base b n g) (he : ∀ s : Nat, s < 256 → g s = g' s) : Gm w base b n g' :=
  let ⟨D, h1, h2, h3⟩ := h; ⟨D, h1, h2, fun s hs => by rw [h3 s hs, he s hs]⟩
/-- one more in the list of s -/
theorem Gm.put {w : World} {base b n : Nat} {g : Nat → List Int} {D : DataW Unit} {s : Nat} {v : Value} {zs : List Int} (hs : s < 256) (him : IsMap D) (hat : ∀ s : Nat, s < 256 → D.atKey (.int .u8 (s : Int)) .nil = datL (g s))
    (hne : zs ≠ []) {w1 : World} (ho : w1.ownsInts base 3 .i64 v zs) (hown : w.ownsGroups Try.prog 5 base 3 .i64 b n (D.put (.int .u8 (s : Int)) (rowDatum .i64 v zs))) : Gm w base b n (fun t => if t = s then zs else g t) := by
  refine ⟨_, hown, him.put _ _, fun t ht => ?_⟩
  by_cases e : t = s
  · subst e
    rw [atKey_put_same him (by trivial), ho.datum_pos hne]
    simp only [if_true, datL, if_neg hne]
  · rw [atKey_put_other (fun he => e (by injection he with _ h2; omega)), hat t ht]
    show datL (g t) = datL (if t = s then zs else g t)
    rw [if_neg e]
/-- the list of s, read -/
theorem Gm.look {w : World} {base b n : Nat} {g : Nat → List Int} (h : Gm w base b n g) (hn : n ≤ 100000) {s : Nat} (hs : s < 256) :
    ∃ v, (Instr.lookup 117 (.map (some b)) (.int .u8 (s : Int)) false).run Try.prog w = .ok v w ∧ RdI w v (g s) := by
  obtain ⟨D, h1, h2, h3⟩ := h
  have hn' : n < maxLen := by unfold maxLen; omega
  obtain ⟨v, zs, hrun, hat, ho, _, _⟩ := h1.at keyU8 Try.underlying117 (zeroInts w) hn' (key_u8 hs)
  have hz := datL_own ho (by rw [← hat, h3 s hs])
  exact ⟨v, hrun, by rw [← hz]; exact RdI.of_own ho.1⟩

end Go.Proofs.Ytokeoebhmjefoaa

/- What the document's own spread (puncheonref10) tells: Place, Few, Same. -/
namespace Go.Proofs.Ytokeoebhmjefoaa
open Go.RowKit

theorem sumTo_bound {g : Nat → Nat} {B : Nat} (h : ∀ a, g a ≤ B) : ∀ n, sumTo g n ≤ n * B
  | 0 => by simp [sumTo]
  | n + 1 => by
    have := sumTo_bound h n
    have := h n
    simp only [sumTo]
    rw [Nat.succ_mul]; omega

set_option maxHeartbeats 2000000 in
theorem r10place_any (v : Value) (q : List Int) (k s i : Nat) (w : World) (h : RdI w v q) (hq : NormQ q k) (hs : s < 256) (hi : i ≤ 8192) :
    Calls Try.prog 49 #[v, .int .i64 (s : Int), .int .i64 (i : Int)] w fun e w' => e = .returned (.int .i64 ((placeF (fq q) 256 s i : Nat) : Int)) ∧ ∃ m, w' = w.drewN m := by
  obtain ⟨ao, cap, rfl⟩ := h.form
  have hb := fun n => sumTo_bound (g := fun t => lessF (fq q) t s i) (B := 4096) (fun a => Nat.le_trans (lessF_le _ _ _ _) (hq.le a)) n
  have hlen : (q.length : Int) = 256 := by rw [hq.1]; rfl
  have HL := Lib.hid hlen
  have HLE := Lib.hid fun (t : Nat) (w : World) (ht : t < 256) (h : RdI w (.slice ao q.length cap) q) => r10less_any (.slice ao q.length cap) q k t s i w h hq ht hs hi
  have HLS := Lib.hid fun t : Nat => Nat.le_trans (lessF_le (fq q) t s i) (hq.le t)
  have HB := Lib.hid hb; have H := Lib.hid h
  clear hb hlen h hq
  have hpf : placeF (fq q) 256 s i = sumTo (fun t => lessF (fq q) t s i) 256 := rfl
  obtain ⟨f, hf⟩ : ∃ f : Nat → Nat, f = fun t => lessF (fq q) t s i := ⟨_, rfl⟩
  have hfa : ∀ t, lessF (fq q) t s i = f t := fun t => by rw [hf]
  rw [← hf] at hpf HB
  rw [hpf]
  have HFA := Lib.hid hfa
  clear hpf hf hfa
  go_enter Try.func49, Try.ntmps49
  go_wp2
  go_loopw [7, 8] (fun o7 o8 wr => ∃ t : Nat, t ≤ 256 ∧ o8 = .int .i64 (t : Int) ∧ o7 = .int .i64 ((sumTo f t : Nat) : Int) ∧ ∃ m, wr = w.drewN m) (fun _ o8 _ => 256 - (intOf o8).toNat)
  case atStart => exact ⟨0, Nat.zero_le _, rfl, rfl, 0, rfl⟩
  case round =>
    obtain ⟨t, ht, rfl, rfl, m, rfl⟩ := hrel
    have hbt := HB.out t
    have hst : sumTo f (t + 1) = sumTo f t + f t := rfl
    obtain ⟨n, hn⟩ : ∃ n, sumTo f t = n := ⟨_, rfl⟩
    rw [hn] at hbt hst ⊢
    have hn' : n ≤ 1048576 := by omega
    have HST := Lib.hid hst; have HN := Lib.hid hn
    clear hbt hst hn
    by_cases hlt : t < 256
    · have dl : t < q.length := by have := HL.out; omega
      have hlsn := HLS.out t
      rw [HFA.out t] at hlsn
      go_wp2_with fail
      refine (HLE.out t (w.drewN m) hlt H.out).mono ?_
      rintro e w1 ⟨rfl, m1, rfl⟩
      rw [HFA.out t]
      obtain ⟨x, hx⟩ : ∃ x, f t = x := ⟨_, rfl⟩
      rw [hx] at hlsn HST ⊢
      clear hx
      go_wp2
      go_roundw
      case rel => exact ⟨t + 1, by omega, by go_num, by rw [HST.out]; go_num, m + m1, rfl⟩
      case measure => simp [intOf]; omega
    · have dl : ¬ t < q.length := by have := HL.out; omega
      have ht6 : t = 256 := by omega
      have HT6 := Lib.hid ht6
      clear ht6
      go_wp2
      go_ret
      rw [← HT6.out, HN.out]
      exact ⟨rfl, m, rfl⟩

end Go.Proofs.Ytokeoebhmjefoaa

/- Rows of bytes in memory that may be written; make of bytes. -/
namespace Go.Proofs.Ytokeoebhmjefoaa
open Go.RowKit

/-- A block that is a row of bytes, of any kind (a slice's, or an array's). -/
def RowB (w : World) (g : Nat) (t : TypeId) (xs : List Nat) : Prop := w.heap[g]? = some (.cells (bv xs).toArray t (0, 0))
theorem RowB.cell {w : World} {g : Nat} {t : TypeId} {xs : List Nat} (h : RowB w g t xs) (k : Nat) (hk : k < xs.length) : w.cell? ⟨g, k, none⟩ = some (.int .u8 ((xs.getD k 0 : Nat) : Int)) := by
  rw [cell_of_row w g k _ _ _ h, List.getElem?_toArray, bv_get xs k hk]
theorem RowB.free {w : World} {g : Nat} {t : TypeId} {xs : List Nat} (h : RowB w g t xs) (k : Nat) : w.frozen? ⟨g, k, none⟩ = false := frozen_of_row w g k _ _ h
theorem RowB.kept {S : Nat → Prop} {w w' : World} {g : Nat} {t : TypeId} {xs : List Nat} (h : RowB w g t xs) (hc : Chg S w w') (hS : ¬ S g) : RowB w' g t xs := (hc.block g (lt_of_block h) hS).trans h
theorem RowB.lt {w : World} {g : Nat} {t : TypeId} {xs : List Nat} (h : RowB w g t xs) : g < w.heap.size := lt_of_block h
theorem RowB.set {w : World} {g : Nat} {t : TypeId} {xs : List Nat} (h : RowB w g t xs) (i n : Nat) : RowB (w.setCell ⟨g, i, none⟩ (.int .u8 (n : Int))) g t (xs.set i n) := by
  have := heap_setCell_same w g i _ _ (.int .u8 (n : Int)) h
  unfold RowB
  rw [this, List.setIfInBounds_toArray, bv_set]
theorem RowB.rd {w : World} {g : Nat} {t : TypeId} {xs : List Nat} (h : RowB w g t xs) (cap : Nat) : RdB w (.slice (some ⟨g, 0, none⟩) xs.length cap) xs :=
  .inr ⟨g, 0, cap, rfl, fun j hj => by rw [Nat.zero_add]; exact h.cell j hj⟩

/-- The value v is a slice of the bytes xs, in memory from block base on, that may be written. -/
def OwnB (w : World) (base : Nat) (v : Value) (xs : List Nat) : Prop :=
  ∃ g off cap, v = .slice (some ⟨g, off, none⟩) xs.length cap ∧ base ≤ g ∧ g < w.heap.size ∧ (∀ j, j < xs.length → w.cell? ⟨g, off + j, none⟩ = some (.int .u8 ((xs.getD j 0 : Nat) : Int))) ∧ ∀ j, w.frozen? ⟨g, off + j, none⟩ = false
theorem OwnB.rd {w : World} {base : Nat} {v : Value} {xs : List Nat} (h : OwnB w base v xs) : RdB w v xs := by
  obtain ⟨g, off, cap, rfl, _, _, hc, _⟩ := h
  exact .inr ⟨g, off, cap, rfl, hc⟩
theorem OwnB.mono {w : World} {base base' : Nat} {v : Value} {xs : List Nat} (h : OwnB w base v xs) (hb : base' ≤ base) : OwnB w base' v xs := by
  obtain ⟨g, off, cap, rfl, h1, h2⟩ := h
  exact ⟨g, off, cap, rfl, Nat.le_trans hb h1, h2⟩
theorem RowB.own {w : World} {g : Nat} {t : TypeId} {xs : List Nat} (h : RowB w g t xs) (cap base : Nat) (hb : base ≤ g) : OwnB w base (.slice (some ⟨g, 0, none⟩) xs.length cap) xs :=
  ⟨g, 0, cap, rfl, hb, h.lt, fun j hj => by rw [Nat.zero_add]; exact h.cell j hj, fun j => by rw [Nat.zero_add]; exact h.free j⟩

theorem zeros_bvs (n : Nat) : (madeCells (Value.int .u8 0).cells (n * 1)).toList = bv (List.replicate n 0) := by
  rw [Nat.mul_one]
  apply List.ext_getElem (by simp [madeCells, bv])
  intro i h1 h2
  simp [madeCells, Value.cells, Nat.mod_one, bv]
theorem RowB.of_own {w : World} {base g n : Nat} {xs : List Nat} (h : w.ownsRow base 5 1 (.slice (some ⟨g, 0, none⟩) n n) n (bv xs)) : RowB w g 5 xs := by
  rcases h.2 with ⟨h0, _⟩ | ⟨g', cap, cur, he, _, hg, _, _, hs, ht⟩
  · simp at h0
  · simp only [Value.slice.injEq, Option.some.injEq, Addr.mk.injEq, and_true, true_and] at he
    obtain ⟨rfl, rfl⟩ := he
    have : cur = (bv xs).toArray := by
      apply Array.ext'
      rw [← ht, List.take_of_length_le (by rw [Array.length_toList, hs]; exact Nat.le_refl _)]
    rw [this] at hg
    exact hg
theorem wpList_make_bytes {ops : Array Oper} {rest : List Oper} {o : Oper} {a : Act} {w : World} {Q : Exit → Act → World → Prop} (hg : o.guard = none) (l c : Operand) (hop : o.op = Op.makeSlice 25 l c)
    (L C : Int) (n : Nat) (hl : a.eval l = .int .i64 L) (hc : a.eval c = .int .i64 C) (hL : L = (n : Int)) (hC : C = (n : Int)) (hn : n < 100000000000) (Z : List Nat) (hZ : Z = List.replicate n 0)
    (hK : ∀ w', RowB w' w.heap.size 5 Z → Chg (fun _ => False) w w' → wpList Try.prog ops Q rest (a.put o.dst (.slice (some ⟨w.heap.size, 0, none⟩) n n)) w') : wpList Try.prog ops Q (o :: rest) a w := by
  obtain ⟨i, hi, hz0, hz1, hz2⟩ := info_parts Try.infoU8
  refine wpList_make_full w hg l c 25 hop w.heap.size 5 i (.int .u8 0) 1 Try.underlying25 hi hz0 hz1 .i64 .i64 L C n hl hc hL hC (by rw [hz2]; omega) (by unfold maxLen; omega) (Nat.le_refl _) ?_
  intro w1 h1 h2
  rw [zeros_bvs, ← hZ] at h1
  exact hK w1 (RowB.of_own h1) ((Chg.of_grown h2).mono fun k _ hk => by simp at hk)

end Go.Proofs.Ytokeoebhmjefoaa

/- What the document's own spread.Of (puncheonref10.Of) tells. -/
namespace Go.Proofs.Ytokeoebhmjefoaa
open Go.RowKit

/-- what Of tells -/
def SpreadSays (w : World) (q : List Int) (e : Ending) (w' : World) : Prop :=
  ∃ v', e = .returned (.tuple #[v', .int .i64 (if logI (totalI q) = 0 then 1 else 0)]) ∧ (logI (totalI q) ≠ 0 → ∃ l, OwnB w' w.heap.size v' l ∧ IsSpread (fq q) 256 l) ∧ (logI (totalI q) = 0 → RdB w' v' []) ∧ Chg (fun _ => False) w w'

/-- the keys up to that of s and d stand in their places -/
def Done (f : Nat → Nat) (s d : Nat) (out : List Nat) : Prop := ∀ t e, (t < s ∧ e < f t) ∨ (t = s ∧ e < d) → out.getD (placeF f 256 t (f t + e)) 0 = t
theorem done_zero (f : Nat → Nat) (out : List Nat) : Done f 0 0 out := fun t e h => by omega
theorem done_next {f : Nat → Nat} {s : Nat} {out : List Nat} (h : Done f s (f s) out) : Done f (s + 1) 0 out := fun t e ht => by
  refine h t e ?_
  by_cases hts : t = s
  · subst hts; exact .inr ⟨rfl, by omega⟩
  · exact .inl ⟨by omega, by omega⟩
theorem done_step {f : Nat → Nat} {s d : Nat} {out : List Nat} (hl : out.length = sumTo f 256) (hs : s < 256) (hd : d < f s) (h : Done f s d out) : Done f s (d + 1) (out.set (placeF f 256 s (f s + d)) s) := fun t e ht => by
  have hp := place_room (f := f) (N := 256) hs hd
  rw [List.getD_eq_getElem?_getD]
  by_cases hk : t = s ∧ e = d
  · obtain ⟨rfl, rfl⟩ := hk
    rw [List.getElem?_set_self (by omega)]; rfl
  · have hte : t ≤ s ∧ e < f t := by
      rcases ht with ⟨h1, h2⟩ | ⟨rfl, h2⟩
      · exact ⟨by omega, h2⟩
      · exact ⟨Nat.le_refl _, by omega⟩
    rw [List.getElem?_set_ne (fun he => hk (by
      have := place_inj (f := f) (N := 256) hs (by omega) hd hte.2 he
      exact ⟨this.1.symm, this.2.symm⟩)), ← List.getD_eq_getElem?_getD]
    exact h t e (by omega)
theorem done_all {f : Nat → Nat} {out : List Nat} (hl : out.length = sumTo f 256) (h : Done f 256 0 out) : IsSpread f 256 out := ⟨hl, fun s d hs hd => h s d (.inl ⟨hs, hd⟩)⟩

end Go.Proofs.Ytokeoebhmjefoaa

/- Plain: heaps, as container/heap keeps them (a row; who stands at k stands behind who stands at (k - 1) / 2). -/
namespace Go.Proofs.Ytokeoebhmjefoaa
open Go

structure TotalOrd {α : Type} (le : α → α → Prop) : Prop where
  total : ∀ a b, le a b ∨ le b a
  trans : ∀ {a b c}, le a b → le b c → le a c

theorem TotalOrd.refl {α : Type} {le : α → α → Prop} (o : TotalOrd le) (a : α) : le a a := (o.total a a).elim id id

section
variable {α : Type} [Inhabited α]

/-- two have changed places -/
def swp (l : List α) (i j : Nat) : List α := (l.set i (l.getD j default)).set j (l.getD i default)
theorem swp_length (l : List α) (i j : Nat) : (swp l i j).length = l.length := by simp [swp]
theorem aset_getD (l : List α) (i k : Nat) (x : α) (hi : i < l.length) : (l.set i x).getD k default = if i = k then x else l.getD k default := by
  by_cases h : i = k
  · subst h; rw [if_pos rfl, List.getD_eq_getElem?_getD, List.getElem?_set_self hi]; rfl
  · rw [if_neg h, List.getD_eq_getElem?_getD, List.getElem?_set_ne h, ← List.getD_eq_getElem?_getD]
theorem swp_getD (l : List α) (i j k : Nat) (hi : i < l.length) (hj : j < l.length) : (swp l i j).getD k default = if j = k then l.getD i default else if i = k then l.getD j default else l.getD k default := by
  unfold swp
  rw [aset_getD _ _ _ _ (by simpa using hj), aset_getD _ _ _ _ hi]
theorem swp_perm (l : List α) (i j : Nat) (hi : i < l.length) (hj : j < l.length) : (swp l i j).Perm l := by
  classical
  rw [List.perm_iff_count]
  intro a
  have hp : l[i] ∈ l := List.getElem_mem hi
  have hgi : l.getD i default = l[i] := by rw [List.getD_eq_getElem?_getD, List.getElem?_eq_getElem hi]; rfl
  have hgj : l.getD j default = l[j] := by rw [List.getD_eq_getElem?_getD, List.getElem?_eq_getElem hj]; rfl
  have hs : swp l i j = (l.set i l[j]).set j l[i] := by unfold swp; rw [hgi, hgj]
  rw [hs, List.count_set (h := by simpa using hj), List.count_set (h := hi), List.getElem_set]
  by_cases hij : i = j
  · subst hij
    rw [if_pos rfl]
    have hc : (if (l[i] == a) = true then 1 else 0) ≤ l.count a := by
      split
      · next h => rw [List.one_le_count_iff]; have := LawfulBEq.eq_of_beq h; rw [← this]; exact hp
      · omega
    omega
  · rw [if_neg hij]
    have hc : (if (l[i] == a) = true then 1 else 0) ≤ l.count a := by
      split
      · next h => rw [List.one_le_count_iff]; have := LawfulBEq.eq_of_beq h; rw [← this]; exact hp
      · omega
    have hc2 : (if (l[j] == a) = true then 1 else 0) ≤ l.count a := by
      split
      · next h => rw [List.one_le_count_iff]; have := LawfulBEq.eq_of_beq h; rw [← this]; exact List.getElem_mem hj
      · omega
    omega

/-- the first n are a heap -/
def Heap (le : α → α → Prop) (l : List α) (n : Nat) : Prop := ∀ k, 0 < k → k < n → le (l.getD ((k - 1) / 2) default) (l.getD k default)

theorem Heap.least {le : α → α → Prop} (o : TotalOrd le) {l : List α} {n : Nat} (h : Heap le l n) : ∀ k, k < n → le (l.getD 0 default) (l.getD k default) := by
  intro k
  induction k using Nat.strongRecOn with
  | ind k ih =>
    intro hk
    by_cases h0 : k = 0
    · subst h0; exact o.refl _
    · exact o.trans (ih ((k - 1) / 2) (by omega) (by omega)) (h k (by omega) hk)

/-- a heap, but for who stands at j, that may stand too far behind -/
structure UpInv (le : α → α → Prop) (l : List α) (n j : Nat) : Prop where
  lt : j < n
  rest : ∀ k, 0 < k → k < n → k ≠ j → le (l.getD ((k - 1) / 2) default) (l.getD k default)
  over : ∀ k, 0 < k → k < n → (k - 1) / 2 = j → 0 < j → le (l.getD ((j - 1) / 2) default) (l.getD k default)

theorem UpInv.done {le : α → α → Prop} {l : List α} {n j : Nat} (h : UpInv le l n j) (hd : j = 0 ∨ le (l.getD ((j - 1) / 2) default) (l.getD j default)) : Heap le l n := by
  intro k h0 hk
  by_cases hkj : k = j
  · subst hkj
    rcases hd with hd | hd
    · omega
    · exact hd
  · exact h.rest k h0 hk hkj

theorem UpInv.step {le : α → α → Prop} (o : TotalOrd le) {l : List α} {n j : Nat} (hn : n ≤ l.length) (h : UpInv le l n j) (hj : 0 < j) (hl : ¬ le (l.getD ((j - 1) / 2) default) (l.getD j default)) : UpInv le (swp l ((j - 1) / 2) j) n ((j - 1) / 2) := by
  have hlt := h.lt
  obtain ⟨i, hi⟩ : ∃ i, (j - 1) / 2 = i := ⟨_, rfl⟩
  rw [hi] at hl ⊢
  have hij : i < j := by omega
  have hji : le (l.getD j default) (l.getD i default) := (o.total _ _).resolve_left hl
  have g := fun k => swp_getD l i j k (by omega) (by omega)
  refine ⟨by omega, fun k h0 hk hki => ?_, fun k h0 hk hpk hi0 => ?_⟩
  · rw [g, g]
    by_cases hkj : j = k
    · subst hkj
      rw [if_neg (show ¬ j = (j - 1) / 2 by omega), if_pos hi.symm, if_pos rfl]
      exact hji
    · rw [if_neg hkj, if_neg (show ¬ i = k from fun hh => hki hh.symm)]
      by_cases hp1 : j = (k - 1) / 2
      · rw [if_pos hp1]
        have := h.over k h0 hk hp1.symm hj
        rw [hi] at this
        exact this
      · rw [if_neg hp1]
        by_cases hp2 : i = (k - 1) / 2
        · rw [if_pos hp2]
          have := h.rest k h0 hk (fun hh => hkj hh.symm)
          rw [← hp2] at this
          exact o.trans hji this
        · rw [if_neg hp2]
          exact h.rest k h0 hk (fun hh => hkj hh.symm)
  · rw [g, g]
    have hpi : le (l.getD ((i - 1) / 2) default) (l.getD i default) := h.rest i hi0 (by omega) (by omega)
    rw [if_neg (show ¬ j = (i - 1) / 2 by omega), if_neg (show ¬ i = (i - 1) / 2 by omega)]
    by_cases hkj : j = k
    · rw [if_pos hkj]; exact hpi
    · rw [if_neg hkj, if_neg (show ¬ i = k by omega)]
      have := h.rest k h0 hk (fun hh => hkj hh.symm)
      rw [hpk] at this
      exact o.trans hpi this

/-- the first n are a heap, as far as those go whose parents stand at lo or behind -/
def HeapFrom (le : α → α → Prop) (l : List α) (n lo : Nat) : Prop := ∀ k, 0 < k → k < n → lo ≤ (k - 1) / 2 → le (l.getD ((k - 1) / 2) default) (l.getD k default)
theorem HeapFrom.heap {le : α → α → Prop} {l : List α} {n : Nat} (h : HeapFrom le l n 0) : Heap le l n := fun k h0 hk => h k h0 hk (Nat.zero_le _)
theorem Heap.all {le : α → α → Prop} {l : List α} {n : Nat} (h : Heap le l n) : HeapFrom le l n 0 := fun k h0 hk _ => h k h0 hk

/-- a heap (from lo on), but for who stands at i, that may stand too far ahead -/
structure DownInv (le : α → α → Prop) (l : List α) (n lo i : Nat) : Prop where
  ge : lo ≤ i
  rest : ∀ k, 0 < k → k < n → lo ≤ (k - 1) / 2 → (k - 1) / 2 ≠ i → le (l.getD ((k - 1) / 2) default) (l.getD k default)
  over : ∀ k, 0 < k → k < n → (k - 1) / 2 = i → 0 < i → lo ≤ (i - 1) / 2 → le (l.getD ((i - 1) / 2) default) (l.getD k default)

theorem DownInv.done {le : α → α → Prop} {l : List α} {n lo i : Nat} (h : DownInv le l n lo i) (hd : ∀ k, 0 < k → k < n → (k - 1) / 2 = i → le (l.getD i default) (l.getD k default)) : HeapFrom le l n lo := by
  intro k h0 hk hlo
  by_cases hp : (k - 1) / 2 = i
  · rw [hp]; exact hd k h0 hk hp
  · exact h.rest k h0 hk hlo hp

theorem DownInv.step {le : α → α → Prop} (_o : TotalOrd le) {l : List α} {n lo i j : Nat} (hn : n ≤ l.length) (h : DownInv le l n lo i) (hj0 : 0 < j) (hjn : j < n) (hpj : (j - 1) / 2 = i)
    (hmin : ∀ k, 0 < k → k < n → (k - 1) / 2 = i → le (l.getD j default) (l.getD k default)) (hji : le (l.getD j default) (l.getD i default)) : DownInv le (swp l i j) n lo j := by
  have hij : i < j := by omega
  have hge := h.ge
  have g := fun k => swp_getD l i j k (by omega) (by omega)
  refine ⟨by omega, fun k h0 hk hlo hpk => ?_, fun k h0 hk hpk hj hlo => ?_⟩
  · rw [g, g]
    rw [if_neg (show ¬ j = (k - 1) / 2 from fun hh => hpk hh.symm)]
    by_cases hpi : i = (k - 1) / 2
    · rw [if_pos hpi]
      by_cases hkj : j = k
      · rw [if_pos hkj]; exact hji
      · rw [if_neg hkj, if_neg (show ¬ i = k by omega)]
        exact hmin k h0 hk hpi.symm
    · rw [if_neg hpi, if_neg (show ¬ j = k by omega)]
      by_cases hki : i = k
      · subst hki
        rw [if_pos rfl]
        exact h.over j hj0 hjn hpj h0 hlo
      · rw [if_neg hki]
        exact h.rest k h0 hk hlo (fun hh => hpi hh.symm)
  · rw [g, g]
    rw [if_neg (show ¬ j = (j - 1) / 2 by omega), if_pos hpj.symm, if_neg (show ¬ j = k by omega), if_neg (show ¬ i = k by omega)]
    have := h.rest k h0 hk (by omega) (by omega)
    rw [hpk] at this
    exact this

theorem DownInv.start {le : α → α → Prop} {l : List α} {n i : Nat} (h : HeapFrom le l n (i + 1)) : DownInv le l n i i :=
  ⟨Nat.le_refl _, fun k h0 hk hlo hne => h k h0 hk (by omega), fun k h0 hk hp hi hlo => by omega⟩

/-- a heap, one behind it: it may stand too far behind -/
theorem UpInv.pushed {le : α → α → Prop} {l : List α} (h : Heap le l l.length) (x : α) : UpInv le (l ++ [x]) (l.length + 1) l.length := by
  have g : ∀ k, k < l.length → (l ++ [x]).getD k default = l.getD k default := fun k hk => by
    rw [List.getD_eq_getElem?_getD, List.getElem?_append_left hk, ← List.getD_eq_getElem?_getD]
  refine ⟨by omega, fun k h0 hk hkl => ?_, fun k h0 hk hp _ => by omega⟩
  rw [g k (by omega), g ((k - 1) / 2) (by omega)]
  exact h k h0 (by omega)

/-- the last one put first: it may stand too far ahead -/
theorem DownInv.popped {le : α → α → Prop} {l : List α} {n : Nat} (hl : l.length = n + 1) (h : Heap le l (n + 1)) : DownInv le (swp l 0 n) n 0 0 := by
  have g := fun k => swp_getD l 0 n k (by omega) (by omega)
  refine ⟨Nat.le_refl _, fun k h0 hk _ hp => ?_, fun k h0 hk hp hh => by omega⟩
  rw [g, g, if_neg (show ¬ n = (k - 1) / 2 by omega), if_neg (show ¬ 0 = (k - 1) / 2 by omega), if_neg (show ¬ n = k by omega), if_neg (show ¬ 0 = k by omega)]
  exact h k h0 (by omega)

/-- who stands first was changed: it may stand too far ahead -/
theorem DownInv.changed0 {le : α → α → Prop} {l : List α} {n : Nat} (x : α) (hi : 0 < l.length) (h : Heap le l n) : DownInv le (l.set 0 x) n 0 0 := by
  have g := fun k => aset_getD l 0 k x hi
  refine ⟨Nat.le_refl _, fun k h0 hk _ hp => ?_, fun k h0 hk hp h0i _ => by omega⟩
  rw [g, g, if_neg (show ¬ 0 = k by omega), if_neg (fun hh => hp hh.symm)]
  exact h k h0 hk

theorem UpInv.of_heap {le : α → α → Prop} {l : List α} {n : Nat} (h : Heap le l n) (h0 : 0 < n) : UpInv le l n 0 := ⟨h0, fun k h0 hk _ => h k h0 hk, fun k _ _ _ h => by omega⟩

theorem HeapFrom.leaves {le : α → α → Prop} {l : List α} {n lo : Nat} (h : n ≤ 2 * lo + 1) : HeapFrom le l n lo := fun k h0 hk hlo => by omega

/-- the last one apart -/
theorem last_apart (l : List α) (n : Nat) (h : l.length = n + 1) : l = l.take n ++ [l.getD n default] := by
  rw [List.getD_eq_getElem?_getD, List.getElem?_eq_getElem (by omega)]
  have := List.take_append_getElem (l := l) (i := n) (by omega)
  simp only [Option.getD_some]
  rw [this, List.take_of_length_le (by omega)]

theorem Heap.take {le : α → α → Prop} {l : List α} {n : Nat} (h : Heap le l n) (hn : n ≤ l.length) : Heap le (l.take n) (l.take n).length := by
  have g : ∀ k, k < n → (l.take n).getD k default = l.getD k default := fun k hk => by
    rw [List.getD_eq_getElem?_getD, List.getElem?_take_of_lt hk, ← List.getD_eq_getElem?_getD]
  intro k h0 hk
  rw [List.length_take, Nat.min_eq_left hn] at hk
  rw [g k hk, g _ (by omega)]
  exact h k h0 hk

theorem Heap.least_mem {le : α → α → Prop} (o : TotalOrd le) {l : List α} (h : Heap le l l.length) {y : α} (hy : y ∈ l) : le (l.getD 0 default) y := by
  obtain ⟨k, hk, rfl⟩ := List.getElem_of_mem hy
  have := h.least o k hk
  rw [List.getD_eq_getElem?_getD (l := l) (i := k), List.getElem?_eq_getElem hk] at this
  exact this

end

/-- no less: what a heap keeps -/
def noLess {α : Type} (lt : α → α → Bool) (a b : α) : Prop := lt b a = false
theorem noLess_of {α : Type} {lt : α → α → Bool} (o : TotalOrd (noLess lt)) {a b : α} (h : lt a b = true) : noLess lt a b := by
  rcases o.total b a with h1 | h1
  · unfold noLess at h1; rw [h] at h1; cases h1
  · exact h1

end Go.Proofs.Ytokeoebhmjefoaa

/- What container/heap's up, down, Init, Push, Pop and Fix do with one type's heap (hpB), whatever it holds. -/
namespace Go.Proofs.Ytokeoebhmjefoaa
open Go.RowKit

/-- The value p is a heap's receiver: R tells what the heap holds; val, an item as a value; lt, who is less; only blocks of S turn. -/
structure HpB {α : Type} [Inhabited α] (p : Value) (R : World → List α → Prop) (lt : α → α → Bool) (S : Nat → Prop) : Prop where
  len : ∀ w l, R w l → ∃ r, (method 289 134 p "Len").run Try.prog w = .ok (84, r) w ∧
    Calls Try.prog 84 #[r] w fun e w' => e = .returned (.int .i64 ((l.length : Nat) : Int)) ∧ R w' l ∧ Chg S w w'
  less : ∀ w l, R w l → ∃ r, (method 289 134 p "Less").run Try.prog w = .ok (130, r) w ∧ ∀ i j : Nat, i < l.length → j < l.length →
    Calls Try.prog 130 #[r, .int .i64 (i : Int), .int .i64 (j : Int)] w fun e w' => e = .returned (.bool (lt (l.getD i default) (l.getD j default))) ∧ R w' l ∧ Chg S w w'
  swap : ∀ w l, R w l → ∃ r, (method 289 134 p "Swap").run Try.prog w = .ok (133, r) w ∧ ∀ i j : Nat, i < l.length → j < l.length →
    Calls Try.prog 133 #[r, .int .i64 (i : Int), .int .i64 (j : Int)] w fun e w' => e = .returned (.tuple #[]) ∧ R w' (swp l i j) ∧ Chg S w w'
  small : ∀ w l, R w l → l.length < 1000000000

section
variable {α : Type} [Inhabited α] {p : Value} {R : World → List α → Prop} {lt : α → α → Bool} {S : Nat → Prop}

set_option maxHeartbeats 1000000 in
theorem hpB_up (o : TotalOrd (noLess lt)) (h : HpB p R lt S) (w : World) (l : List α) (n j : Nat) (hR : R w l) (hn : n ≤ l.length) (hu : UpInv (noLess lt) l n j) :
    Calls Try.prog 108 #[.iface 134 p, .int .i64 (j : Int)] w fun e w' => e = .returned (.tuple #[]) ∧ ∃ l', R w' l' ∧ l'.Perm l ∧ Heap (noLess lt) l' n ∧ Chg S w w' := by
  have H := Lib.hid h; have HU := Lib.hid hu; have HR := Lib.hid hR; have HN := Lib.hid hn
  clear h hu hR hn
  go_enter Try.func108, Try.ntmps108
  go_wp2
  go_loopw [1] (fun o1 wr => ∃ (j : Nat) (l' : List α), o1 = .int .i64 (j : Int) ∧ R wr l' ∧ l'.Perm l ∧ UpInv (noLess lt) l' n j ∧ Chg S w wr) (fun o1 _ => (intOf o1).toNat)
  case atStart => exact ⟨j, l, rfl, HR.out, List.Perm.refl _, HU.out, Chg.refl _ _⟩
  case round =>
    obtain ⟨j, l', rfl, hR, hp, hu, hc⟩ := hrel
    have hsm := H.out.small _ _ hR
    have hln := hp.length_eq
    have hn := HN.out
    have hjn := hu.lt
    by_cases h0 : j = 0
    · subst h0
      have HH := Lib.hid (hu.done (.inl rfl)); have HR := Lib.hid hR; have HP := Lib.hid hp; have HC := Lib.hid hc
      clear hu hR hp hc hln hn hsm hjn
      go_wp2
      go_returns
      exact ⟨rfl, l', HR.out, HP.out, HH.out, HC.out⟩
    · obtain ⟨i, hi⟩ : ∃ i, (j - 1) / 2 = i := ⟨_, rfl⟩
      have e1 : ((j : Int) - 1).tdiv 2 = (i : Int) := by rw [Int.tdiv_eq_ediv_of_nonneg (by omega)]; omega
      have e2 : wrap64 ((j : Int) - 1) = (j : Int) - 1 := by unfold wrap64; omega
      have e3 : ((i : Int) == (j : Int)) = false := by simp; omega
      obtain ⟨r, hm, hless⟩ := H.out.less _ _ hR
      have hless := hless j i (by omega) (by omega)
      have hb : (j : Int) ≤ 1000000000 ∧ (i : Int) ≤ 1000000000 := by omega
      have HI := Lib.hid hi; have HP := Lib.hid hp; have HC := Lib.hid hc; have HU2 := Lib.hid hu; have HL := Lib.hid hless
      have HLN := Lib.hid hln; have HN0 := Lib.hid h0; have HJN := Lib.hid hjn
      clear hi hR hp hc hu hless hln hn hsm hjn h0
      go_wp2_with fail
      refine (HL.out).mono ?_
      rintro e w2 ⟨rfl, hR2, hc2⟩
      cases hlt : lt (l'.getD j default) (l'.getD i default) with
      | false =>
        have HH := Lib.hid (HU2.out.done (.inr (by rw [HI.out]; exact hlt))); have HR2 := Lib.hid hR2; have HC2 := Lib.hid (HC.out.trans hc2 (fun _ _ h => h))
        clear hR2 hc2 hlt hm
        go_wp2
        go_returns
        exact ⟨rfl, l', HR2.out, HP.out, HH.out, HC2.out⟩
      | true =>
        have hst : UpInv (noLess lt) (swp l' i j) n i := by
          have := HU2.out.step o (by have := HLN.out; have := HN.out; omega) (by have := HN0.out; omega) (by rw [HI.out]; unfold noLess; rw [hlt]; simp)
          rw [HI.out] at this
          exact this
        have hij : i < j := by have := HI.out; have := HN0.out; omega
        obtain ⟨r2, hm2, hsw⟩ := H.out.swap _ _ hR2
        have hln := HLN.out
        have hnn := HN.out
        have hjn := HJN.out
        have hsw := hsw i j (by omega) (by omega)
        have hpm := swp_perm l' i j (by omega) (by omega)
        have HSW := Lib.hid hsw; have HST := Lib.hid hst; have HPM := Lib.hid (hpm.trans HP.out); have HC2 := Lib.hid (HC.out.trans hc2 (fun _ _ h => h)); have HIJ := Lib.hid hij
        clear hsw hst hpm hc2 hR2 hlt hm hln hnn hjn hij
        go_wp2_with fail
        refine (HSW.out).mono ?_
        rintro e w3 ⟨rfl, hR3, hc3⟩
        have HR3 := Lib.hid hR3; have HC3 := Lib.hid (HC2.out.trans hc3 (fun _ _ h => h))
        clear hR3 hc3 hm2
        go_wp2
        go_roundw
        case rel => exact ⟨i, swp l' i j, rfl, HR3.out, HPM.out, HST.out, HC3.out⟩
        case measure => simp [intOf]; exact HIJ.out

set_option maxHeartbeats 2000000 in
theorem hpB_down (o : TotalOrd (noLess lt)) (h : HpB p R lt S) (w : World) (l : List α) (n lo i0 : Nat) (hR : R w l) (hn : n ≤ l.length) (hi0 : i0 < 1000000000) (hd : DownInv (noLess lt) l n lo i0) :
    Calls Try.prog 107 #[.iface 134 p, .int .i64 (i0 : Int), .int .i64 (n : Int)] w fun e w' => ∃ l' b, e = .returned (.bool b) ∧ R w' l' ∧ l'.Perm l ∧ (∀ k, n ≤ k → l'.getD k default = l.getD k default) ∧ HeapFrom (noLess lt) l' n lo ∧ (b = false → l' = l) ∧ Chg S w w' := by
  have hsm := h.small _ _ hR
  have hnb : (n : Int) ≤ 1000000000 := by omega
  have H := Lib.hid h; have HD := Lib.hid hd; have HR := Lib.hid hR; have HN := Lib.hid hn; have HI0 := Lib.hid hi0
  clear h hd hR hn hsm hi0
  go_enter Try.func107, Try.ntmps107
  go_wp2
  go_loopw [7] (fun o7 wr => ∃ (i : Nat) (l' : List α), o7 = .int .i64 (i : Int) ∧ R wr l' ∧ l'.Perm l ∧ (∀ k, n ≤ k → l'.getD k default = l.getD k default) ∧ DownInv (noLess lt) l' n lo i ∧ i0 ≤ i ∧ (i ≤ i0 → l' = l) ∧ i < 1000000000 ∧ Chg S w wr) (fun o7 _ => n - (intOf o7).toNat)
  case atStart => exact ⟨i0, l, rfl, HR.out, List.Perm.refl _, fun _ _ => rfl, HD.out, Nat.le_refl _, fun _ => rfl, HI0.out, Chg.refl _ _⟩
  case round =>
    clear HD HR
    obtain ⟨i, l', rfl, hR, hp, ht, hd, hge, hs0, hib, hc⟩ := hrel
    have hln := hp.length_eq
    have hib2 : (i : Int) < 1000000000 := by omega
    have e1 : wrap64 (2 * (i : Int)) = 2 * (i : Int) := by unfold wrap64; omega
    obtain ⟨j1, hj1⟩ : ∃ j1, 2 * i + 1 = j1 := ⟨_, rfl⟩
    have e2 : 2 * (i : Int) + 1 = (j1 : Int) := by omega
    have e3 : wrap64 (j1 : Int) = (j1 : Int) := by unfold wrap64; omega
    have HRQ := Lib.hid hR; have HP := Lib.hid hp; have HT := Lib.hid ht; have HD := Lib.hid hd; have HGE := Lib.hid hge; have HS0 := Lib.hid hs0; have HCQ := Lib.hid hc; have HLN := Lib.hid hln; have HJ1 := Lib.hid hj1
    clear hR hp ht hd hge hs0 hc hln hib
    by_cases hend : n ≤ j1
    · have d1 : decide ((n : Int) ≤ (j1 : Int)) = true := by simp; omega
      have HH := Lib.hid (HD.out.done (fun k h0 hk hp => by have := HJ1.out; omega))
      clear hj1
      go_wp2
      go_returns
      exact ⟨l', _, rfl, HRQ.out, HP.out, HT.out, HH.out, fun hb => HS0.out (by simpa using hb), HCQ.out⟩
    · have d1 : decide ((n : Int) ≤ (j1 : Int)) = false := by simp; omega
      have d2 : decide ((j1 : Int) < 0) = false := by simp
      obtain ⟨j2, hj2⟩ : ∃ j2, j1 + 1 = j2 := ⟨_, rfl⟩
      have e4 : (j1 : Int) + 1 = (j2 : Int) := by omega
      have e5 : wrap64 (j2 : Int) = (j2 : Int) := by unfold wrap64; omega
      have HJ2 := Lib.hid hj2; have HEND := Lib.hid hend
      by_cases h2 : j2 < n
      · have d3 : decide ((j2 : Int) < (n : Int)) = true := by simp; omega
        obtain ⟨ra, hma, hla⟩ := H.out.less _ _ HRQ.out
        have hla := hla j2 j1 (by have := HLN.out; have := HN.out; omega) (by have := HLN.out; have := HN.out; omega)
        have HLA := Lib.hid hla; have HL2 := Lib.hid h2
        clear hla hj1 hj2
        go_wp2_with fail
        refine (HLA.out).mono ?_
        rintro e w4 ⟨rfl, hR4, hc4⟩
        have HRQ0 := HRQ; have HCQ0 := HCQ
        clear HRQ HCQ
        have HRQ := Lib.hid hR4; have HCQ := Lib.hid (HCQ0.out.trans hc4 (fun _ _ h => h))
        clear hR4 hc4 HRQ0 HCQ0 hma
        cases hlt : lt (l'.getD j2 default) (l'.getD j1 default) with
        | true =>
          have HJ := Lib.hid (show 0 < j2 ∧ j2 < n ∧ (j2 - 1) / 2 = i by have := HJ1.out; have := HJ2.out; have := HL2.out; omega)
          have HMIN := Lib.hid (show ∀ k, 0 < k → k < n → (k - 1) / 2 = i → noLess lt (l'.getD j2 default) (l'.getD k default) from fun k h0 hk hp => by
            have hk2 : k = j1 ∨ k = j2 := by have := HJ1.out; have := HJ2.out; omega
            rcases hk2 with rfl | rfl
            · exact noLess_of o hlt
            · exact o.refl _)
          clear hlt
          obtain ⟨rb, hmb, hlb⟩ := H.out.less _ _ HRQ.out
          have hlb := hlb j2 i (by have := HJ.out; have := HLN.out; have := HN.out; omega) (by have := HJ.out; have := HLN.out; have := HN.out; omega)
          have HLB := Lib.hid hlb
          clear hlb
          go_wp2_with fail
          refine (HLB.out).mono ?_
          rintro e w5 ⟨rfl, hR5, hc5⟩
          cases hlt : lt (l'.getD j2 default) (l'.getD i default) with
          | false =>
            have HH := Lib.hid (HD.out.done (fun k h0 hk hp => o.trans hlt (HMIN.out k h0 hk hp))); have HR5 := Lib.hid hR5; have HC5 := Lib.hid (HCQ.out.trans hc5 (fun _ _ h => h))
            clear hR5 hc5 hlt hmb
            go_wp2
            go_returns
            exact ⟨l', _, rfl, HR5.out, HP.out, HT.out, HH.out, fun hb => HS0.out (by simpa using hb), HC5.out⟩
          | true =>
            have hst := HD.out.step o (by have := HLN.out; have := HN.out; omega) (by have := HJ.out; omega) (HJ.out).2.1 (HJ.out).2.2 HMIN.out (noLess_of o hlt)
            obtain ⟨r2, hm2, hsw⟩ := H.out.swap _ _ hR5
            have hsw := hsw i j2 (by have := HJ.out; have := HLN.out; have := HN.out; omega) (by have := HJ.out; have := HLN.out; have := HN.out; omega)
            have hpm := (swp_perm l' i j2 (by have := HJ.out; have := HLN.out; have := HN.out; omega) (by have := HJ.out; have := HLN.out; have := HN.out; omega)).trans HP.out
            have htl : ∀ k, n ≤ k → (swp l' i j2).getD k default = l.getD k default := fun k hk => by
              rw [swp_getD _ _ _ _ (by have := HJ.out; have := HLN.out; have := HN.out; omega) (by have := HJ.out; have := HLN.out; have := HN.out; omega), if_neg (by have := HJ.out; omega), if_neg (by have := HJ.out; omega)]
              exact HT.out k hk
            have HSW := Lib.hid hsw; have HST := Lib.hid hst; have HPM := Lib.hid hpm; have HTL := Lib.hid htl; have HC5 := Lib.hid (HCQ.out.trans hc5 (fun _ _ h => h))
            clear hsw hst hpm htl hc5 hR5 hlt hmb
            go_wp2_with fail
            refine (HSW.out).mono ?_
            rintro e w6 ⟨rfl, hR6, hc6⟩
            have HR6 := Lib.hid hR6; have HC6 := Lib.hid (HC5.out.trans hc6 (fun _ _ h => h))
            clear hR6 hc6 hm2
            go_wp2
            go_roundw
            case rel => exact ⟨j2, swp l' i j2, rfl, HR6.out, HPM.out, HTL.out, HST.out, by have := HJ.out; have := HGE.out; omega, fun hb => by have := HJ.out; have := HGE.out; omega, by have := HJ.out; omega, HC6.out⟩
            case measure => simp [intOf]; have := HJ.out; omega
        | false =>
          have HJ := Lib.hid (show 0 < j1 ∧ j1 < n ∧ (j1 - 1) / 2 = i by have := HJ1.out; have := HJ2.out; have := HL2.out; omega)
          have HMIN := Lib.hid (show ∀ k, 0 < k → k < n → (k - 1) / 2 = i → noLess lt (l'.getD j1 default) (l'.getD k default) from fun k h0 hk hp => by
            have hk2 : k = j1 ∨ k = j2 := by have := HJ1.out; have := HJ2.out; omega
            rcases hk2 with rfl | rfl
            · exact o.refl _
            · exact hlt)
          clear hlt
          obtain ⟨rb, hmb, hlb⟩ := H.out.less _ _ HRQ.out
          have hlb := hlb j1 i (by have := HJ.out; have := HLN.out; have := HN.out; omega) (by have := HJ.out; have := HLN.out; have := HN.out; omega)
          have HLB := Lib.hid hlb
          clear hlb
          go_wp2_with fail
          refine (HLB.out).mono ?_
          rintro e w5 ⟨rfl, hR5, hc5⟩
          cases hlt : lt (l'.getD j1 default) (l'.getD i default) with
          | false =>
            have HH := Lib.hid (HD.out.done (fun k h0 hk hp => o.trans hlt (HMIN.out k h0 hk hp))); have HR5 := Lib.hid hR5; have HC5 := Lib.hid (HCQ.out.trans hc5 (fun _ _ h => h))
            clear hR5 hc5 hlt hmb
            go_wp2
            go_returns
            exact ⟨l', _, rfl, HR5.out, HP.out, HT.out, HH.out, fun hb => HS0.out (by simpa using hb), HC5.out⟩
          | true =>
            have hst := HD.out.step o (by have := HLN.out; have := HN.out; omega) (by have := HJ.out; omega) (HJ.out).2.1 (HJ.out).2.2 HMIN.out (noLess_of o hlt)
            obtain ⟨r2, hm2, hsw⟩ := H.out.swap _ _ hR5
            have hsw := hsw i j1 (by have := HJ.out; have := HLN.out; have := HN.out; omega) (by have := HJ.out; have := HLN.out; have := HN.out; omega)
            have hpm := (swp_perm l' i j1 (by have := HJ.out; have := HLN.out; have := HN.out; omega) (by have := HJ.out; have := HLN.out; have := HN.out; omega)).trans HP.out
            have htl : ∀ k, n ≤ k → (swp l' i j1).getD k default = l.getD k default := fun k hk => by
              rw [swp_getD _ _ _ _ (by have := HJ.out; have := HLN.out; have := HN.out; omega) (by have := HJ.out; have := HLN.out; have := HN.out; omega), if_neg (by have := HJ.out; omega), if_neg (by have := HJ.out; omega)]
              exact HT.out k hk
            have HSW := Lib.hid hsw; have HST := Lib.hid hst; have HPM := Lib.hid hpm; have HTL := Lib.hid htl; have HC5 := Lib.hid (HCQ.out.trans hc5 (fun _ _ h => h))
            clear hsw hst hpm htl hc5 hR5 hlt hmb
            go_wp2_with fail
            refine (HSW.out).mono ?_
            rintro e w6 ⟨rfl, hR6, hc6⟩
            have HR6 := Lib.hid hR6; have HC6 := Lib.hid (HC5.out.trans hc6 (fun _ _ h => h))
            clear hR6 hc6 hm2
            go_wp2
            go_roundw
            case rel => exact ⟨j1, swp l' i j1, rfl, HR6.out, HPM.out, HTL.out, HST.out, by have := HJ.out; have := HGE.out; omega, fun hb => by have := HJ.out; have := HGE.out; omega, by have := HJ.out; omega, HC6.out⟩
            case measure => simp [intOf]; have := HJ.out; omega
      · have d3 : decide ((j2 : Int) < (n : Int)) = false := by simp; omega
        have HL2 := Lib.hid h2
        have HJ := Lib.hid (show 0 < j1 ∧ j1 < n ∧ (j1 - 1) / 2 = i by have := HJ1.out; have := HEND.out; omega)
        have HMIN := Lib.hid (show ∀ k, 0 < k → k < n → (k - 1) / 2 = i → noLess lt (l'.getD j1 default) (l'.getD k default) from fun k h0 hk hp => by
          have hk2 : k = j1 := by have := HJ1.out; have := HJ2.out; have := HL2.out; omega
          rw [hk2]; exact o.refl _)
        clear hj1 hj2
        obtain ⟨rb, hmb, hlb⟩ := H.out.less _ _ HRQ.out
        have hlb := hlb j1 i (by have := HJ.out; have := HLN.out; have := HN.out; omega) (by have := HJ.out; have := HLN.out; have := HN.out; omega)
        have HLB := Lib.hid hlb
        clear hlb
        go_wp2_with fail
        refine (HLB.out).mono ?_
        rintro e w5 ⟨rfl, hR5, hc5⟩
        cases hlt : lt (l'.getD j1 default) (l'.getD i default) with
        | false =>
          have HH := Lib.hid (HD.out.done (fun k h0 hk hp => o.trans hlt (HMIN.out k h0 hk hp))); have HR5 := Lib.hid hR5; have HC5 := Lib.hid (HCQ.out.trans hc5 (fun _ _ h => h))
          clear hR5 hc5 hlt hmb
          go_wp2
          go_returns
          exact ⟨l', _, rfl, HR5.out, HP.out, HT.out, HH.out, fun hb => HS0.out (by simpa using hb), HC5.out⟩
        | true =>
          have hst := HD.out.step o (by have := HLN.out; have := HN.out; omega) (by have := HJ.out; omega) (HJ.out).2.1 (HJ.out).2.2 HMIN.out (noLess_of o hlt)
          obtain ⟨r2, hm2, hsw⟩ := H.out.swap _ _ hR5
          have hsw := hsw i j1 (by have := HJ.out; have := HLN.out; have := HN.out; omega) (by have := HJ.out; have := HLN.out; have := HN.out; omega)
          have hpm := (swp_perm l' i j1 (by have := HJ.out; have := HLN.out; have := HN.out; omega) (by have := HJ.out; have := HLN.out; have := HN.out; omega)).trans HP.out
          have htl : ∀ k, n ≤ k → (swp l' i j1).getD k default = l.getD k default := fun k hk => by
            rw [swp_getD _ _ _ _ (by have := HJ.out; have := HLN.out; have := HN.out; omega) (by have := HJ.out; have := HLN.out; have := HN.out; omega), if_neg (by have := HJ.out; omega), if_neg (by have := HJ.out; omega)]
            exact HT.out k hk
          have HSW := Lib.hid hsw; have HST := Lib.hid hst; have HPM := Lib.hid hpm; have HTL := Lib.hid htl; have HC5 := Lib.hid (HCQ.out.trans hc5 (fun _ _ h => h))
          clear hsw hst hpm htl hc5 hR5 hlt hmb
          go_wp2_with fail
          refine (HSW.out).mono ?_
          rintro e w6 ⟨rfl, hR6, hc6⟩
          have HR6 := Lib.hid hR6; have HC6 := Lib.hid (HC5.out.trans hc6 (fun _ _ h => h))
          clear hR6 hc6 hm2
          go_wp2
          go_roundw
          case rel => exact ⟨j1, swp l' i j1, rfl, HR6.out, HPM.out, HTL.out, HST.out, by have := HJ.out; have := HGE.out; omega, fun hb => by have := HJ.out; have := HGE.out; omega, by have := HJ.out; omega, HC6.out⟩
          case measure => simp [intOf]; have := HJ.out; omega

end

end Go.Proofs.Ytokeoebhmjefoaa
