/- What hist's Add tells. It speaks of the program's own text. -/
import Derived.Test.YtjddaneafmdeeaaHsHist
namespace Go.Proofs.Ytjddaneafmdeeaa
open Go.RowKit

/-- added up to the k-th -/
def addTo (a b : List Int) (k : Nat) : List Int := (List.range 256).map fun i => if i < k then a.getD i 0 + b.getD i 0 else 0
theorem addTo_length (a b : List Int) (k : Nat) : (addTo a b k).length = 256 := by simp [addTo]
theorem addTo_getD (a b : List Int) (k i : Nat) (h : i < 256) : (addTo a b k).getD i 0 = if i < k then a.getD i 0 + b.getD i 0 else 0 := by simp [addTo, List.getD_eq_getElem?_getD, h]
theorem addTo_zero (a b : List Int) : addTo a b 0 = List.replicate 256 0 := by
  apply ext_getD (by rw [addTo_length, List.length_replicate])
  intro k hk
  rw [addTo_length] at hk
  rw [addTo_getD _ _ _ _ hk, if_neg (by omega), List.getD_eq_getElem?_getD, List.getElem?_replicate, if_pos hk]; rfl
theorem addTo_set (a b : List Int) (k : Nat) (hk : k < 256) : (addTo a b k).set k (a.getD k 0 + b.getD k 0) = addTo a b (k + 1) := by
  apply ext_getD (by rw [List.length_set, addTo_length, addTo_length])
  intro u hu
  rw [List.length_set, addTo_length] at hu
  rw [addTo_getD _ _ _ _ hu]
  by_cases huk : k = u
  · subst huk
    rw [List.getD_eq_getElem?_getD, List.getElem?_set_self (by rw [addTo_length]; exact hk), if_pos (by omega)]; rfl
  · rw [List.getD_eq_getElem?_getD, List.getElem?_set_ne huk, ← List.getD_eq_getElem?_getD, addTo_getD _ _ _ _ hu]
    by_cases h : u < k
    · rw [if_pos h, if_pos (by omega)]
    · rw [if_neg h, if_neg (by omega)]
theorem addTo_all (a b : List Int) (ha : a.length = 256) (hb : b.length = 256) : addTo a b 256 = addL a b := by
  apply ext_getD (by rw [addTo_length, addL_length _ _ (by omega), ha])
  intro u hu
  rw [addTo_length] at hu
  rw [addTo_getD _ _ _ _ hu, if_pos hu, addL_getD _ _ _ (by omega) (by omega)]

theorem addL_bounds {a b : List Int} (ha : isRight a) (hb : isRight b) : ∀ z ∈ addL a b, -9223372036854775808 ≤ z ∧ z ≤ 9223372036854775807 := by
  intro z hz
  obtain ⟨i, hi, rfl⟩ := List.mem_iff_getElem.1 hz
  have hl : a.length = b.length := ha.1.trans hb.1.symm
  rw [addL_length _ _ hl] at hi
  have h1 := ha.one i hi
  have h2 := hb.one i (by omega)
  have h3 := addL_getD a b i hi (by omega)
  rw [List.getD_eq_getElem?_getD, List.getElem?_eq_getElem (by rw [addL_length _ _ hl]; exact hi)] at h3
  simp only [Option.getD_some] at h3
  rw [h3]; omega

/-- what Add tells -/
def AddSays (w : World) (a b : List Int) (e : Ending) (w' : World) : Prop :=
  ∃ v', e = .returned (.tuple #[v', .bool (decide (addOk a b))]) ∧ (addOk a b → OwnI w' w.heap.size v' (addL a b)) ∧ (¬ addOk a b → RdI w' v' []) ∧ Chg (fun _ => False) w w'

set_option maxHeartbeats 2000000 in
set_option maxRecDepth 100000 in
theorem hadd_any (v u : Value) (ps bs : List Int) (w : World) (h : RdI w v ps) (hb : ∀ z ∈ ps, -9223372036854775808 ≤ z ∧ z ≤ 9223372036854775807) (hl : ps.length < 100000000000)
    (h2 : RdI w u bs) (hb2 : ∀ z ∈ bs, -9223372036854775808 ≤ z ∧ z ≤ 9223372036854775807) (hl2 : bs.length < 100000000000) :
    Calls Try.prog 18 #[v, u] w fun e w' => AddSays w ps bs e w' := by
  have HR := Lib.hid (hright_any v ps w h hb hl)
  obtain ⟨ao, cap, rfl⟩ := h.form
  obtain ⟨au, capu, rfl⟩ := h2.form
  have H := Lib.hid h; have HB := Lib.hid hb
  have H2 := Lib.hid h2; have HB2 := Lib.hid hb2
  clear h hb h2 hb2
  by_cases hra : isRight ps
  · by_cases hrb : isRight bs
    · have HRA := Lib.hid hra; have HRB := Lib.hid hrb
      obtain ⟨Z, hZ, hzero⟩ := zeroCounts
      have ea : ps.length = 256 := hra.1
      have eb : bs.length = 256 := hrb.1
      have HA := Lib.hid ea; have HBL := Lib.hid eb
      clear ea eb
      go_enter Try.func18, Try.ntmps18
      go_wp2_with fail
      refine HR.out.mono ?_
      rintro e w1 ⟨rfl, m1, rfl⟩
      rw [decide_eq_true hra]
      clear HR hra
      go_wp2_with fail
      refine (hright_any _ bs (w.drewN m1) (H2.out.kept ((Chg.refl (fun _ => False) w).drewN m1) (by simp)) HB2.out hl2).mono ?_
      rintro e w2 ⟨rfl, m2, rfl⟩
      rw [decide_eq_true hrb, World.drewN_drewN]
      clear hrb
      obtain ⟨w2, hw2⟩ : ∃ w2, w2 = w.drewN (m1 + m2) := ⟨_, rfl⟩
      have hcw : Chg (fun _ => False) w w2 := by rw [hw2]; exact (Chg.refl _ w).drewN _
      have hsz : w2.heap.size = w.heap.size := by rw [hw2]; rfl
      have HSZ := Lib.hid hsz
      rw [← hw2]
      clear hw2 hsz
      have h0 : RowI (w2.alloc (.cells Z.toArray 42)) w2.heap.size 42 (addTo ps bs 0) := by
        rw [addTo_zero]; unfold RowI; rw [← hZ]; exact heap_alloc_new w2 _
      have H0 := Lib.hid h0
      have HC0 := Lib.hid (hcw.trans (Chg.alloc (fun _ => False) w2 (.cells Z.toArray 42)) (fun _ _ h => h))
      have HCW := Lib.hid hcw
      clear hZ h0 hcw
      go_wp2
      go_loopw [16] (fun o16 wr => ∃ k : Nat, k ≤ 256 ∧ o16 = .int .i64 (k : Int) ∧ RowI wr w2.heap.size 42 (addTo ps bs k) ∧ Chg (fun _ => False) w wr) (fun o16 _ => 256 - (intOf o16).toNat)
      case atStart => exact ⟨0, Nat.zero_le _, rfl, H0.out, HC0.out⟩
      case round =>
        obtain ⟨k, hk, rfl, hrow, hc⟩ := hrel
        clear H0 HC0
        by_cases hlt : k < 256
        · have hka : k < ps.length := by rw [HA.out]; exact hlt
          have hkb : k < bs.length := by rw [HBL.out]; exact hlt
          obtain ⟨g, off, rfl, c1⟩ := (H.out.kept hc (by simp)).at k hka
          obtain ⟨g2, off2, rfl, c2⟩ := (H2.out.kept hc (by simp)).at k hkb
          have b1 := HRA.out.one k hka
          have b2 := HRB.out.one k hkb
          have hcu := hrow.cell k (by rw [addTo_length]; exact hlt)
          have hfu := hrow.free k
          have hr2 := hrow.set k (ps.getD k 0 + bs.getD k 0)
          rw [addTo_set ps bs k hlt] at hr2
          have hc2 : Chg (fun _ => False) w (wr.setCell ⟨w2.heap.size, k, none⟩ (.int .i64 (ps.getD k 0 + bs.getD k 0))) := hc.trans (Chg.setCell wr ⟨w2.heap.size, k, none⟩ _) (fun q hq h => by have := HSZ.out; simp at h; omega)
          obtain ⟨x, hx⟩ : ∃ x, ps.getD k 0 = x := ⟨_, rfl⟩
          obtain ⟨y, hy⟩ : ∃ y, bs.getD k 0 = y := ⟨_, rfl⟩
          rw [hx] at c1 b1 hr2 hc2
          rw [hy] at c2 b2 hr2 hc2
          have hwrap : IntKind.i64.wrap (x + y) = x + y := by rw [IntKind.wrap_i64]; omega
          have HR2 := Lib.hid hr2; have HC2 := Lib.hid hc2
          generalize (addTo ps bs k).getD k 0 = old at hcu
          clear hr2 hc2 hrow hc hx hy
          go_wp2
          go_still_tail 11, (by kernel_rfl)
          change wpList _ _ _ _ _ wr.drew
          go_wp2
          go_roundw
          case rel => exact ⟨k + 1, by omega, by go_num, HR2.out, HC2.out.drew⟩
          case measure => simp [intOf]; omega
        · obtain rfl : k = 256 := by omega
          rw [addTo_all ps bs HA.out HBL.out] at hrow
          have hlen : (addL ps bs).length = 256 := by rw [addL_length _ _ (by rw [HA.out, HBL.out]), HA.out]
          have hrd := hrow.own 256 w.heap.size (by rw [HSZ.out]; exact Nat.le_refl _)
          rw [hlen] at hrd
          have HRD := Lib.hid hrd; have HC := Lib.hid hc
          have HLN := Lib.hid (show (addL ps bs).length < 100000000000 by rw [hlen]; omega)
          have HBD := Lib.hid (addL_bounds HRA.out HRB.out)
          clear hlen hrd hrow hc
          go_wp2_with fail
          refine (hright_any _ (addL ps bs) wr HRD.out.rd HBD.out HLN.out).mono ?_
          rintro e w5 ⟨rfl, m5, rfl⟩
          by_cases hs : isRight (addL ps bs)
          · rw [decide_eq_true hs]
            go_wp2
            go_ret2
            have hok : addOk ps bs := ⟨HRA.out, HRB.out, hs⟩
            exact ⟨_, by rw [decide_eq_true hok]; rfl, fun _ => HRD.out.kept ((Chg.refl (fun _ => False) wr).drewN m5) (by simp), fun hn => absurd hok hn, HC.out.drewN m5⟩
          · rw [decide_eq_false hs]
            go_wp2
            go_ret2
            have hok : ¬ addOk ps bs := fun h => hs h.2.2
            exact ⟨_, by rw [decide_eq_false hok]; rfl, fun h => absurd h hok, fun _ => .inl ⟨rfl, _, _, rfl⟩, HC.out.drewN m5⟩
    · have hok : ¬ addOk ps bs := fun h => hrb h.2.1
      have HOK := Lib.hid hok
      go_enter Try.func18, Try.ntmps18
      go_wp2_with fail
      refine HR.out.mono ?_
      rintro e w1 ⟨rfl, m1, rfl⟩
      rw [decide_eq_true hra]
      clear HR hra hok
      go_wp2_with fail
      refine (hright_any _ bs (w.drewN m1) (H2.out.kept ((Chg.refl (fun _ => False) w).drewN m1) (by simp)) HB2.out hl2).mono ?_
      rintro e w2 ⟨rfl, m2, rfl⟩
      rw [decide_eq_false hrb]
      clear hrb
      go_wp2
      go_ret2
      exact ⟨_, by rw [decide_eq_false HOK.out]; rfl, fun h => absurd h HOK.out, fun _ => .inl ⟨rfl, _, _, rfl⟩, (Chg.refl (fun _ => False) w).drewN _⟩
  · have hok : ¬ addOk ps bs := fun h => hra h.1
    have HOK := Lib.hid hok
    go_enter Try.func18, Try.ntmps18
    go_wp2_with fail
    refine HR.out.mono ?_
    rintro e w1 ⟨rfl, m1, rfl⟩
    rw [decide_eq_false hra]
    clear HR hra hok
    go_wp2
    go_ret2
    exact ⟨_, by rw [decide_eq_false HOK.out]; rfl, fun h => absurd h HOK.out, fun _ => .inl ⟨rfl, _, _, rfl⟩, (Chg.refl (fun _ => False) w).drewN m1⟩

end Go.Proofs.Ytjddaneafmdeeaa
