/- Texts that other texts of this claim rest on, one behind the other (LnOfC LnNew BrRef LnDec LnPs MdProgA MdProgB LnWr LnProgA LnFoA SpEx DtAwake LnFo LnTk LnProg LnEx LnAwake LnEnc NmRefC CxRefW MdRefD CxMathB). -/
import Derived.Test.YtokeoebhmjefoaaGreatBase4
import Derived.Deep.RegionHeld3
import Derived.Laws.Tables
import Derived.Deep.WholeRow
import Derived.Deep.CutRange
import Derived.BigQuiet
import Derived.Handy
/- What the structure's of tells, whose lists' cells are built: a context's cells (none where its list is empty), built when they are first asked for. THIS SPEAKS OF THE PROGRAM'S OWN TEXT. -/
namespace Go.Proofs.YtokeoebhmjefoaaGreat
open Go.RowKit

theorem Tryz.entersDt (args : Array Value) (w : World) : (callFunc 23 args).run Tryz.prog w = .ok (.enter 23 args) w := by kernel_rfl
theorem cels_iff {m : Md} (hr : m.right) {c : Nat} (hc : c < 256) (l : List Cl) : CelsOf m (lsAt m c) l ↔ CelsOf m c l := by
  unfold CelsOf
  rw [(lsAt_list hr hc).2.2.2, fM_lsAt hr hc]
theorem dtab_new {m : Md} (hr : m.right) (c : Nat) {W V : World} {e : Ending} (h : DtabNew W (m.atL (c : Int)) e V) : ∃ v l x, e = .returned (.tuple #[v, .int .i64 x]) ∧ CelsOf m c l ∧ RdC V v l ∧ (l = [] ∨ ∀ k, v.ownBlock = some k → W.heap.size ≤ k ∧ k < V.heap.size) ∧ Chg (fun _ => False) W V := by
  obtain ⟨v, h1, h2, h3, h4⟩ := h
  by_cases hne : m.atL (c : Int) = []
  · exact ⟨v, [], _, h1, ⟨fun _ => rfl, fun hh => absurd hne hh⟩, h3 (by rw [hne]; decide), .inl rfl, h4⟩
  · have hnq := norm_at hr _ hne
    obtain ⟨l, h5, h6⟩ := h2 (by rw [hnq.log]; have := hnq.2.2.2.1; omega)
    refine ⟨v, l, _, h1, ⟨fun hh => absurd hh hne, fun _ => ?_⟩, h5.rd, .inr fun k hk => ?_, h4⟩
    · rw [hnq.log] at h6; exact h6
    · obtain ⟨g, off, cap, rfl, b1, b2, _⟩ := h5
      simp only [Value.ownBlock, Option.some.injEq] at hk
      omega
theorem rdc_kept {S : Nat → Prop} {w w' : World} {v : Value} {l : List Cl} (h : RdC w v l) (hc : Chg S w w') (hS : l = [] ∨ ∀ k, v.ownBlock = some k → ¬ S k) : RdC w' v l := by
  rcases hS with rfl | hS
  · obtain ⟨ao, cap, rfl⟩ := h.form
    exact .inl ⟨rfl, ao, cap, rfl⟩
  · exact h.kept hc hS
abbrev LsC (w : World) (G : Nat) (m : Md) (cv : Value) (W : World) (X : Nat → Prop) : Prop := LsJ 59 23 (AtC m) w G m cv W X

set_option maxRecDepth 100000 in
set_option maxHeartbeats 4000000 in
theorem lofC_each (w : World) (G : Nat) (m : Md) (cv : Value) (W : World) (X : Nat → Prop) (c : Nat) (h : LsC w G m cv W X) (hl : RdLL w cv m.cs) (hr : m.right) (hone : m.one = false) (hc : c < 256) :
    Calls Tryz.prog 25 #[.pointer (some ⟨G, 0, none⟩), .int .i64 (c : Int)] W fun e W' => ∃ v, e = .returned v ∧ ∃ l, RdC W' v l ∧ CelsOf m c l ∧ LsC w G m cv W' X ∧ Chg (fun k => k = G) W W' := by
  obtain ⟨vs, qs, hb, hall⟩ := h.row
  obtain ⟨hj1, hj2, hj3, hj4⟩ := lsAt_list hr hc
  have hjc : lsAt m c = c := by unfold lsAt; rw [hone]; rfl
  rw [hjc] at hj1 hj2 hj3 hj4
  obtain ⟨b1, b2, b3⟩ := hb.head
  obtain ⟨v1, v2⟩ := hb.v c hj1
  obtain ⟨q1, q2⟩ := hb.q c hj1
  have hent := Tryz.entersDt
  have hcI : (c : Int) < 256 := by omega
  have hc0 : (0 : Int) ≤ (c : Int) := by omega
  rw [hone] at b1
  have H := Lib.hid h; have HB := Lib.hid hb; have HALL := Lib.hid hall; have HJ4 := Lib.hid hj4; have HR := Lib.hid hr
  have hce := cels_iff hr hc
  rw [hjc] at hce
  have HCE := Lib.hid hce
  clear hce
  rcases hall c hj1 with hq | ⟨hq, S, ⟨l, hcel, hrd, hS⟩, hX⟩
  · have HDN := Lib.hid (fun (W V : World) (e : Ending) => dtab_new hr c (W := W) (V := V) (e := e))
    rw [hq] at q1
    obtain ⟨ao, cap, rfl⟩ := hl.form
    obtain ⟨g, off, u, rfl, hcell, hu⟩ := hl.room c hj2
    rw [hj3] at hu
    obtain ⟨W1, hW1⟩ : ∃ V, W.setCell ⟨G, 260 + c, none⟩ (.bool true) = V := ⟨_, rfl⟩
    have hb1 := hb.set_q c (.bool true)
    have hch1 := Chg.setCell W ⟨G, 260 + c, none⟩ (.bool true)
    rw [hW1] at hb1 hch1
    have hlow := h.low
    have hc1 : Chg (fun _ => False) w W1 := h.chg.trans hch1 fun k hk he => by simp only [] at he; omega
    obtain ⟨c1, c2, c3⟩ := hb1.head
    have hgl := block_lt_of_cell hcell
    have hcell1 : W1.cell? ⟨g, off + c, none⟩ = some u := by
      rw [World.cell?_of_block (w := w) (a := ⟨g, off + c, none⟩) (hc1.block g hgl (by simp))]; exact hcell
    obtain ⟨n, hn⟩ : ∃ n, m.cs.length = n := ⟨_, rfl⟩
    have hfit := hr.fit64.at c (by omega)
    rw [hj3] at hfit
    have HE := Lib.hid (dof_new u (m.atL (c : Int)) W1.drew (hu.1.kept hc1.drew (by simp)) hfit.2 hfit.1)
    have HU := Lib.hid hu; have HB1 := Lib.hid hb1; have HCH1 := Lib.hid hch1; have HC1 := Lib.hid hc1; have HGL := Lib.hid hgl; have HLOW := Lib.hid hlow; have HW1 := Lib.hid hW1; have HJ1 := Lib.hid hj1; have HN := Lib.hid hn
    have hun : u.oneCell' = true := by obtain ⟨au, cu, rfl⟩ := hu.1.form; rfl
    obtain ⟨au, cu, hue⟩ := hu.1.form
    have hncI : (c : Int) < (n : Int) := by omega
    have hn0 : 0 < n := by omega
    rw [hn] at b2 c2 ⊢
    clear h hb hall hl hr hj2 hj3 hj4 hjc hq hu hb1 hch1 hc1 hcell hgl hlow hn hfit hone v1 v2 hW1
    skip
    rw [hue] at hcell1
    go_enter Tryz.func25, Tryz.ntmps25
    go_wp2
    rw [HW1.out]
    go_region_held3 (fun V => V.cell? ⟨G, 3, none⟩ = some (.func (.func 23) #[] #[]) ∧ V.cell? ⟨G, 2, none⟩ = some (.slice (some ⟨g, off, none⟩) n cap) ∧ V.cell? ⟨g, off + c, none⟩ = some (.slice au (m.atL (c : Int)).length cu)) (first | exact ⟨c3, c2, hcell1⟩ | exact ⟨d3, d2, dc⟩ | exact ⟨f3, f2, fc⟩) (first
      | (go_at_call 23; rw [← hue]; refine HE.out.mono ?_; rintro e V2 hdt; obtain ⟨v, l, x, rfl, hcel, hrd, hown, hcv⟩ := HDN.out _ _ _ hdt; obtain ⟨av, cw, rfl⟩ := hrd.form; have hin : CelsOf m c l ∧ RdC V2 (.slice av l.length cw) l ∧ (l = [] ∨ ∀ k, (Value.slice av l.length cw).ownBlock = some k → W1.heap.size ≤ k ∧ k < V2.heap.size) := ⟨hcel, hrd, hown⟩; clear hcel hrd hown hdt; have hb2 := HB1.out.kept ((Chg.refl (fun _ => False) W1).drew.trans hcv fun _ _ h => h) (by simp); obtain ⟨-, d2, d3⟩ := hb2.head; rw [HN.out] at d2; have dc : V2.cell? ⟨g, off + c, none⟩ = some (.slice au (m.atL (c : Int)).length cu) := (World.cell?_of_block (w := W1) (a := ⟨g, off + c, none⟩) (((Chg.refl (fun _ => False) W1).drew.trans hcv fun _ _ h => h).block g (block_lt_of_cell hcell1) (by simp))).trans hcell1; obtain ⟨d4, d5⟩ := hb2.v c HJ1.out; have hb3 := hb2.set_v c HJ1.out (.slice av l.length cw); obtain ⟨-, f2, f3⟩ := hb3.head; rw [HN.out] at f2; obtain ⟨f4, -⟩ := hb3.v c HJ1.out; rw [lsv_self _ _ (by rw [hb2.2.1]; exact HJ1.out)] at f4; skip; have fc : (V2.setCell ⟨G, 4 + c, none⟩ (.slice av l.length cw)).cell? ⟨g, off + c, none⟩ = some (.slice au (m.atL (c : Int)).length cu) := (World.cell?_of_block (w := V2) (a := ⟨g, off + c, none⟩) ((Chg.setCell V2 ⟨G, 4 + c, none⟩ (.slice av l.length cw)).block g (block_lt_of_cell dc) (by simp only []; have := HGL.out; have := HLOW.out; omega))).trans dc; have HIN := Lib.hid hin; have HB3 := Lib.hid hb3; have HCV := Lib.hid hcv; clear hin hb3 hcv hb2))
    go_wp2
    go_ret
    have hcv3 : Chg (fun k => k = G) W1 _ := ((Chg.refl (fun k => k = G) W1).drew.trans HCV.out fun _ _ h => h.elim).trans (Chg.setCell V2 ⟨G, 4 + c, none⟩ (.slice av l.length cw)) fun _ _ h => h
    have hw3 := HCH1.out.trans hcv3 fun _ _ h => h
    rw [← HN.out]
    have hrd3 : RdC (V2.setCell ⟨G, 4 + c, none⟩ (.slice av l.length cw)) (.slice av l.length cw) l := rdc_kept HIN.out.2.1 (Chg.setCell V2 ⟨G, 4 + c, none⟩ (.slice av l.length cw)) (HIN.out.2.2.imp id fun hh k hk he => by
        simp only [] at he
        have := lt_of_block HB1.out.1
        have := (hh k hk).1
        omega)
    exact ⟨_, rfl, l, hrd3, HIN.out.1, H.out.fill (AtC.kept m) HALL.out HB.out.2.1 HB.out.2.2 hw3 c HJ1.out HB3.out (S := fun k => W1.heap.size ≤ k ∧ k < V2.heap.size) ⟨l, HIN.out.1, hrd3, HIN.out.2.2⟩ fun k hk => ⟨Nat.le_trans HCH1.out.size hk.1, Nat.lt_of_lt_of_le hk.2 (Chg.setCell V2 ⟨G, 4 + c, none⟩ (.slice av l.length cw)).size⟩, hw3⟩
  ·
    rw [hq] at q1
    obtain ⟨av, cw, hv⟩ := hrd.form
    rw [hv] at v1 hrd
    have HRD := Lib.hid hrd; have HCEL := Lib.hid ((HCE.out l).1 hcel)
    clear h hb hall hl hr hj2 hj3 hj4 hjc hq hone
    skip
    clear hrd hcel hS hX hv HCE
    go_enter Tryz.func25, Tryz.ntmps25
    go_wp2
    go_ret
    exact ⟨_, rfl, l, HRD.out, HCEL.out, H.out, Chg.refl _ _⟩

set_option maxRecDepth 100000 in
set_option maxHeartbeats 4000000 in
theorem lofC_one (w : World) (G : Nat) (m : Md) (cv : Value) (W : World) (X : Nat → Prop) (c : Nat) (h : LsC w G m cv W X) (hl : RdLL w cv m.cs) (hr : m.right) (hone : m.one = true) (hc : c < 256) :
    Calls Tryz.prog 25 #[.pointer (some ⟨G, 0, none⟩), .int .i64 (c : Int)] W fun e W' => ∃ v, e = .returned v ∧ ∃ l, RdC W' v l ∧ CelsOf m c l ∧ LsC w G m cv W' X ∧ Chg (fun k => k = G) W W' := by
  obtain ⟨vs, qs, hb, hall⟩ := h.row
  obtain ⟨hj1, hj2, hj3, hj4⟩ := lsAt_list hr hc
  have hjc : lsAt m c = 0 := by unfold lsAt; rw [hone]; rfl
  rw [hjc] at hj1 hj2 hj3 hj4
  obtain ⟨b1, b2, b3⟩ := hb.head
  obtain ⟨v1, v2⟩ := hb.v 0 hj1
  obtain ⟨q1, q2⟩ := hb.q 0 hj1
  have hent := Tryz.entersDt
  have hcI : (c : Int) < 256 := by omega
  have hc0 : (0 : Int) ≤ (c : Int) := by omega
  rw [hone] at b1
  have H := Lib.hid h; have HB := Lib.hid hb; have HALL := Lib.hid hall; have HJ4 := Lib.hid hj4; have HR := Lib.hid hr
  have hce := cels_iff hr hc
  rw [hjc] at hce
  have HCE := Lib.hid hce
  clear hce
  rcases hall 0 hj1 with hq | ⟨hq, S, ⟨l, hcel, hrd, hS⟩, hX⟩
  · have HDN := Lib.hid (fun (W V : World) (e : Ending) => dtab_new hr c (W := W) (V := V) (e := e))
    rw [hq] at q1
    obtain ⟨ao, cap, rfl⟩ := hl.form
    obtain ⟨g, off, u, rfl, hcell, hu⟩ := hl.room 0 hj2
    rw [hj3] at hu
    obtain ⟨W1, hW1⟩ : ∃ V, W.setCell ⟨G, 260 + 0, none⟩ (.bool true) = V := ⟨_, rfl⟩
    have hb1 := hb.set_q 0 (.bool true)
    have hch1 := Chg.setCell W ⟨G, 260 + 0, none⟩ (.bool true)
    rw [hW1] at hb1 hch1
    have hlow := h.low
    have hc1 : Chg (fun _ => False) w W1 := h.chg.trans hch1 fun k hk he => by simp only [] at he; omega
    obtain ⟨c1, c2, c3⟩ := hb1.head
    have hgl := block_lt_of_cell hcell
    have hcell1 : W1.cell? ⟨g, off + 0, none⟩ = some u := by
      rw [World.cell?_of_block (w := w) (a := ⟨g, off + 0, none⟩) (hc1.block g hgl (by simp))]; exact hcell
    obtain ⟨n, hn⟩ : ∃ n, m.cs.length = n := ⟨_, rfl⟩
    have hfit := hr.fit64.at 0 (by omega)
    rw [hj3] at hfit
    have HE := Lib.hid (dof_new u (m.atL (c : Int)) W1.drew (hu.1.kept hc1.drew (by simp)) hfit.2 hfit.1)
    have HU := Lib.hid hu; have HB1 := Lib.hid hb1; have HCH1 := Lib.hid hch1; have HC1 := Lib.hid hc1; have HGL := Lib.hid hgl; have HLOW := Lib.hid hlow; have HW1 := Lib.hid hW1; have HJ1 := Lib.hid hj1; have HN := Lib.hid hn
    have hun : u.oneCell' = true := by obtain ⟨au, cu, rfl⟩ := hu.1.form; rfl
    obtain ⟨au, cu, hue⟩ := hu.1.form
    have hncI : (0 : Int) < (n : Int) := by omega
    have hn0 : 0 < n := by omega
    rw [hn] at b2 c2 ⊢
    clear h hb hall hl hr hj2 hj3 hj4 hjc hq hu hb1 hch1 hc1 hcell hgl hlow hn hfit hone v1 v2 hW1
    simp only [Nat.add_zero] at q1 q2 hcell1
    rw [hue] at hcell1
    go_enter Tryz.func25, Tryz.ntmps25
    go_wp2
    rw [show W.setCell ⟨G, 260, none⟩ (.bool true) = W1 from HW1.out]
    go_region_held3 (fun V => V.cell? ⟨G, 3, none⟩ = some (.func (.func 23) #[] #[]) ∧ V.cell? ⟨G, 2, none⟩ = some (.slice (some ⟨g, off, none⟩) n cap) ∧ V.cell? ⟨g, off, none⟩ = some (.slice au (m.atL (c : Int)).length cu)) (first | exact ⟨c3, c2, hcell1⟩ | exact ⟨d3, d2, dc⟩ | exact ⟨f3, f2, fc⟩) (first
      | (go_at_call 23; rw [← hue]; refine HE.out.mono ?_; rintro e V2 hdt; obtain ⟨v, l, x, rfl, hcel, hrd, hown, hcv⟩ := HDN.out _ _ _ hdt; obtain ⟨av, cw, rfl⟩ := hrd.form; have hin : CelsOf m c l ∧ RdC V2 (.slice av l.length cw) l ∧ (l = [] ∨ ∀ k, (Value.slice av l.length cw).ownBlock = some k → W1.heap.size ≤ k ∧ k < V2.heap.size) := ⟨hcel, hrd, hown⟩; clear hcel hrd hown hdt; have hb2 := HB1.out.kept ((Chg.refl (fun _ => False) W1).drew.trans hcv fun _ _ h => h) (by simp); obtain ⟨-, d2, d3⟩ := hb2.head; rw [HN.out] at d2; have dc : V2.cell? ⟨g, off, none⟩ = some (.slice au (m.atL (c : Int)).length cu) := (World.cell?_of_block (w := W1) (a := ⟨g, off, none⟩) (((Chg.refl (fun _ => False) W1).drew.trans hcv fun _ _ h => h).block g (block_lt_of_cell hcell1) (by simp))).trans hcell1; obtain ⟨d4, d5⟩ := hb2.v 0 HJ1.out; have hb3 := hb2.set_v 0 HJ1.out (.slice av l.length cw); obtain ⟨-, f2, f3⟩ := hb3.head; rw [HN.out] at f2; obtain ⟨f4, -⟩ := hb3.v 0 HJ1.out; rw [lsv_self _ _ (by rw [hb2.2.1]; exact HJ1.out)] at f4; simp only [Nat.add_zero] at d4 d5 f2 f3 f4; have fc : (V2.setCell ⟨G, 4, none⟩ (.slice av l.length cw)).cell? ⟨g, off, none⟩ = some (.slice au (m.atL (c : Int)).length cu) := (World.cell?_of_block (w := V2) (a := ⟨g, off, none⟩) ((Chg.setCell V2 ⟨G, 4, none⟩ (.slice av l.length cw)).block g (block_lt_of_cell dc) (by simp only []; have := HGL.out; have := HLOW.out; omega))).trans dc; have HIN := Lib.hid hin; have HB3 := Lib.hid hb3; have HCV := Lib.hid hcv; clear hin hb3 hcv hb2))
    go_wp2
    go_ret
    have hcv3 : Chg (fun k => k = G) W1 _ := ((Chg.refl (fun k => k = G) W1).drew.trans HCV.out fun _ _ h => h.elim).trans (Chg.setCell V2 ⟨G, 4 + 0, none⟩ (.slice av l.length cw)) fun _ _ h => h
    have hw3 := HCH1.out.trans hcv3 fun _ _ h => h
    rw [← HN.out]
    have hrd3 : RdC (V2.setCell ⟨G, 4 + 0, none⟩ (.slice av l.length cw)) (.slice av l.length cw) l := rdc_kept HIN.out.2.1 (Chg.setCell V2 ⟨G, 4 + 0, none⟩ (.slice av l.length cw)) (HIN.out.2.2.imp id fun hh k hk he => by
        simp only [] at he
        have := lt_of_block HB1.out.1
        have := (hh k hk).1
        omega)
    exact ⟨_, rfl, l, hrd3, HIN.out.1, H.out.fill (AtC.kept m) HALL.out HB.out.2.1 HB.out.2.2 hw3 0 HJ1.out HB3.out (S := fun k => W1.heap.size ≤ k ∧ k < V2.heap.size) ⟨l, (HCE.out l).2 HIN.out.1, hrd3, HIN.out.2.2⟩ fun k hk => ⟨Nat.le_trans HCH1.out.size hk.1, Nat.lt_of_lt_of_le hk.2 (Chg.setCell V2 ⟨G, 4 + 0, none⟩ (.slice av l.length cw)).size⟩, hw3⟩
  ·
    rw [hq] at q1
    obtain ⟨av, cw, hv⟩ := hrd.form
    rw [hv] at v1 hrd
    have HRD := Lib.hid hrd; have HCEL := Lib.hid ((HCE.out l).1 hcel)
    clear h hb hall hl hr hj2 hj3 hj4 hjc hq hone
    simp only [Nat.add_zero] at q1 q2 v1 v2
    clear hrd hcel hS hX hv HCE
    go_enter Tryz.func25, Tryz.ntmps25
    go_wp2
    go_ret
    exact ⟨_, rfl, l, HRD.out, HCEL.out, H.out, Chg.refl _ _⟩

end Go.Proofs.YtokeoebhmjefoaaGreat

/- The structure of what is built, when it is made: its zero value; a model and a function in it. THIS SPEAKS OF THE PROGRAM'S OWN TEXT (its types and two functions). -/
namespace Go.Proofs.YtokeoebhmjefoaaGreat
open Go.RowKit

/-- the structure as it is made: nothing is built, nothing asked for -/
def lsZ (fn : Nat) (x y z u : Value) : Array Value := (x :: y :: z :: .func (.func fn) #[] #[] :: (List.replicate 256 u ++ List.replicate 256 (.bool false))).toArray
theorem lsZ_size (fn : Nat) (x y z u : Value) : (lsZ fn x y z u).size = 516 := by
  unfold lsZ
  rw [List.size_toArray, List.length_cons, List.length_cons, List.length_cons, List.length_cons, List.length_append, List.length_replicate, List.length_replicate]
theorem lsZ_one (fn : Nat) {x y z u : Value} (hx : x.oneCell' = true) (hy : y.oneCell' = true) (hz : z.oneCell' = true) (hu : u.oneCell' = true) : (lsZ fn x y z u).all (·.oneCell') = true := by
  rw [Array.all_eq_true_iff_forall_mem]
  intro v hv
  unfold lsZ at hv
  rw [List.mem_toArray] at hv
  simp only [List.mem_cons, List.mem_append, List.mem_replicate] at hv
  rcases hv with rfl | rfl | rfl | rfl | ⟨_, rfl⟩ | ⟨_, rfl⟩ <;> first | assumption | rfl

set_option maxRecDepth 100000 in
theorem builtT (x y z : Value) : Tryz.prog.built 74 [(0, .agg #[x, y, z]), (1, .func (.func 35) #[] #[])] = some (lsZ 35 x y z (.pointer none)) := by kernel_rfl
set_option maxRecDepth 100000 in
theorem builtC (x y z : Value) : Tryz.prog.built 59 [(0, .agg #[x, y, z]), (1, .func (.func 23) #[] #[])] = some (lsZ 23 x y z (.slice none 0 0)) := by kernel_rfl
set_option maxRecDepth 100000 in
theorem zeroLsT : ∃ Z : Array Value, Z.size = 516 ∧ ∀ W : World, (zeroValue 74).run Tryz.prog W = .ok (.agg Z) W :=
  ⟨(.int .i64 0 :: .bool false :: .slice none 0 0 :: .nilFunc :: (List.replicate 256 (.pointer none) ++ List.replicate 256 (.bool false))).toArray, by rw [List.size_toArray, List.length_cons, List.length_cons, List.length_cons, List.length_cons, List.length_append, List.length_replicate, List.length_replicate], fun W => by kernel_rfl⟩
set_option maxRecDepth 100000 in
theorem zeroLsC : ∃ Z : Array Value, Z.size = 516 ∧ ∀ W : World, (zeroValue 59).run Tryz.prog W = .ok (.agg Z) W :=
  ⟨(.int .i64 0 :: .bool false :: .slice none 0 0 :: .nilFunc :: (List.replicate 256 (.slice none 0 0) ++ List.replicate 256 (.bool false))).toArray, by rw [List.size_toArray, List.length_cons, List.length_cons, List.length_cons, List.length_cons, List.length_append, List.length_replicate, List.length_replicate], fun W => by kernel_rfl⟩
theorem infoLsT : (Tryz.prog.info? 74).map (·.size) = some 516 := by kernel_rfl
theorem infoLsC : (Tryz.prog.info? 59).map (·.size) = some 516 := by kernel_rfl

set_option maxRecDepth 100000 in
theorem wpList_listsT {ops : Array Oper} {rest : List Oper} {o : Oper} {a : Act} {w : World} {Q : Exit → Act → World → Prop} (hg : o.guard = none) (X : Operand) (ho : o.op = .build 74 #[(0, X), (1, .func 35)]) (x y z : Value) (hx : a.eval X = .agg #[x, y, z])
    (h : wpList Tryz.prog ops Q rest (a.put o.dst (.agg (lsZ 35 x y z (.pointer none)))) w) : wpList Tryz.prog ops Q (o :: rest) a w := by
  have hb : Tryz.prog.built 74 ((#[(0, X), (1, Operand.func 35)]).map fun (i, x) => (i, a.eval x)).toList = some (lsZ 35 x y z (.pointer none)) := by
    have hm : ((#[(0, X), (1, Operand.func 35)]).map fun (i, x) => (i, a.eval x)).toList = [(0, .agg #[x, y, z]), (1, .func (.func 35) #[] #[])] := by
      simp only [List.map_toArray, List.map_cons, List.map_nil, hx]
      rfl
    rw [hm]
    exact builtT x y z
  refine wpList_build hg _ _ ho (by rw [hb]; rfl) ?_
  rw [hb]
  exact h
set_option maxRecDepth 100000 in
theorem wpList_listsC {ops : Array Oper} {rest : List Oper} {o : Oper} {a : Act} {w : World} {Q : Exit → Act → World → Prop} (hg : o.guard = none) (X : Operand) (ho : o.op = .build 59 #[(0, X), (1, .func 23)]) (x y z : Value) (hx : a.eval X = .agg #[x, y, z])
    (h : wpList Tryz.prog ops Q rest (a.put o.dst (.agg (lsZ 23 x y z (.slice none 0 0)))) w) : wpList Tryz.prog ops Q (o :: rest) a w := by
  have hb : Tryz.prog.built 59 ((#[(0, X), (1, Operand.func 23)]).map fun (i, x) => (i, a.eval x)).toList = some (lsZ 23 x y z (.slice none 0 0)) := by
    have hm : ((#[(0, X), (1, Operand.func 23)]).map fun (i, x) => (i, a.eval x)).toList = [(0, .agg #[x, y, z]), (1, .func (.func 23) #[] #[])] := by
      simp only [List.map_toArray, List.map_cons, List.map_nil, hx]
      rfl
    rw [hm]
    exact builtC x y z
  refine wpList_build hg _ _ ho (by rw [hb]; rfl) ?_
  rw [hb]
  exact h

/-- the structure that was made last -/
theorem LsJ.new {t : TypeId} {fn : Nat} {At : (Nat → Prop) → World → Value → Nat → Prop} {w W V : World} {m : Md} {cv u : Value} {X : Nat → Prop} (hc : Chg (fun _ => False) w W) (hV : V = W.alloc (.cells (lsZ fn (.int .i64 m.log) (.bool m.one) cv u) t)) (hX : ∀ k, X k → w.heap.size ≤ k ∧ k < W.heap.size) : LsJ t fn At w W.heap.size m cv V X := by
  subst hV
  have ca := Chg.alloc (fun _ => False) W (.cells (lsZ fn (.int .i64 m.log) (.bool m.one) cv u) t)
  refine ⟨hc.size, hc.trans ca fun _ _ h => h, fun k hk => ⟨(hX k hk).1, Nat.lt_of_lt_of_le (hX k hk).2 ca.size, by have := (hX k hk).2; omega⟩, List.replicate 256 u, List.replicate 256 (.bool false), ⟨heap_alloc_new W _, List.length_replicate, List.length_replicate⟩, fun c hc' => .inl ?_⟩
  rw [List.getD_eq_getElem?_getD, List.getElem?_replicate, if_pos hc']; rfl

end Go.Proofs.YtokeoebhmjefoaaGreat

/- What the document's own Bits, Number, Open and Take (puncheonref01, puncheonref02) tell. -/
namespace Go.Proofs.YtokeoebhmjefoaaGreat
open Go.RowKit


/-- The value v is a slice of the bits bs; it is not nil. -/
def RdL (w : World) (v : Value) (g off : Nat) (bs : List Bool) : Prop :=
  ∃ cap, v = .slice (some ⟨g, off, none⟩) bs.length cap ∧ bs.length ≤ cap ∧ cap ≤ maxLen ∧ ∀ j (h : j < bs.length), w.cell? ⟨g, off + j, none⟩ = some (.bool bs[j])

theorem val_drop_succ (bs : List Bool) (j : Nat) (h : j < bs.length) : val (bs.drop j) = (bs[j]).toNat + 2 * val (bs.drop (j + 1)) := by
  rw [List.drop_eq_getElem_cons h]; rfl

theorem bitsB_take_succ (xs : List Nat) (k : Nat) (h : k < xs.length) : bitsB (xs.take (k + 1)) = bitsB (xs.take k) ++ bitsOf (xs.getD k 0) 8 := by
  rw [List.take_succ_eq_append_getElem h, bitsB_append, List.getD_eq_getElem?_getD, List.getElem?_eq_getElem h]
  simp [bitsB]

theorem and_one_u8 : ∀ x : Nat, x < 256 → ∀ k : Nat, k < 8 → (bits BinOp.and IntKind.u8 ((x : Int) / 2 ^ k) 1 == 1) = decide (x / 2 ^ k % 2 = 1) := by decide +kernel

theorem RdL.kept {S : Nat → Prop} {w w' : World} {v : Value} {g off : Nat} {bs : List Bool} (h : RdL w v g off bs) (hc : Chg S w w') (hS : ¬ S g) : RdL w' v g off bs := by
  obtain ⟨cap, hv, h1, h2, hcell⟩ := h
  refine ⟨cap, hv, h1, h2, fun j hj => ?_⟩
  have := hcell j hj
  have hlt : g < w.heap.size := block_lt_of_cell this
  rw [World.cell?_of_block (w := w) (a := ⟨g, off + j, none⟩) (hc.block g hlt hS)]; exact this

theorem takeR_get (bs : List Bool) (n j : Nat) (h : j < (takeR bs n).length) : (takeR bs n)[j] = bs[j]'(by rw [takeR_length] at h; omega) := by
  unfold takeR at h ⊢
  exact List.getElem_take

end Go.Proofs.YtokeoebhmjefoaaGreat

/- What the document's own lanes (puncheonref17) tell: Decode. -/
namespace Go.Proofs.YtokeoebhmjefoaaGreat
open Go.RowKit

/-- the symbols that are told already, ahead of what is decoded of the rest -/
def preO (o : List Nat) : Except Nat (List Nat × List Bool × (Nat × Nat)) → Except Nat (List Nat × List Bool × (Nat × Nat))
  | .error e => .error e
  | .ok (p, b, s) => .ok (o ++ p, b, s)
theorem preO_nil (r : Except Nat (List Nat × List Bool × (Nat × Nat))) : preO [] r = r := by
  cases r with
  | error e => rfl
  | ok p => rfl
theorem decG_none {T : Nat → Option (List Cl)} {k i c : Nat} {bs : List Bool} {st : Nat × Nat} (h : T c = none) : decG T (k + 1) i c bs st = .error 13 := by
  simp only [decG, h]
theorem decG_short {T : Nat → Option (List Cl)} {k i c : Nat} {bs : List Bool} {st : Nat × Nat} {l : List Cl} {z : Cl} (h : T c = some l) (hz : l.getD (lane i st) cl0 = z) (hb : bs.length < z.Bits.toNat) : decG T (k + 1) i c bs st = .error 3 := by
  simp only [decG, h, hz]
  rw [if_pos hb]
theorem decG_step {T : Nat → Option (List Cl)} {k i c : Nat} {bs : List Bool} {st : Nat × Nat} {l : List Cl} {z : Cl} (o : List Nat) (h : T c = some l) (hz : l.getD (lane i st) cl0 = z) (hb : ¬ bs.length < z.Bits.toNat) :
    preO o (decG T (k + 1) i c bs st) = preO (o ++ [z.Sym]) (decG T k (i + 1) z.Sym (takeR bs z.Bits.toNat) (setLane i st (z.Base + ((takeV bs z.Bits.toNat : Nat) : Int)).toNat)) := by
  simp only [decG, h, hz]
  rw [if_neg hb]
  cases decG T k (i + 1) z.Sym (takeR bs z.Bits.toNat) (setLane i st (z.Base + ((takeV bs z.Bits.toNat : Nat) : Int)).toNat) with
  | error e => rfl
  | ok p =>
    obtain ⟨p, b, s⟩ := p
    simp [preO]

/-- the end: states that aren't 0, bits that are left -/
def finD : Except Nat (List Nat × List Bool × (Nat × Nat)) → Except Nat (List Nat)
  | .error e => .error e
  | .ok (o, b, st) => if st = (0, 0) ∧ b = [] then .ok o else .error 14
theorem lnDec_fin {R : Nat} {T : Nat → Option (List Cl)} {l : List Bool} {n : Nat} (h : ¬ l.length < 2 * R) : lnDec R T l n = finD (decG T n 0 0 (takeR (takeR l R) R) (takeV l R, takeV (takeR l R) R)) := by
  unfold lnDec
  rw [if_neg h]
  cases decG T n 0 0 (takeR (takeR l R) R) (takeV l R, takeV (takeR l R) R) with
  | error e => rfl
  | ok p => rfl

/-- the cells of each context whose list was asked; blocks from B on -/
def CellsAt (wr : World) (G B : Nat) (m : Md) (vs : List Value) : Prop :=
  wr.heap[G]? = some (.cells vs.toArray 55 (0, 0)) ∧ vs.length = 256 ∧ ∀ c, c < 256 → vs.getD c undef = .slice none 0 0 ∨ ∃ (l : List Cl) (g n : Nat), vs.getD c undef = .slice (some ⟨g, 0, none⟩) l.length n ∧ RowC wr g 94 l ∧ IsDtab (fM m c) (RM m) l ∧ m.atL (c : Int) ≠ [] ∧ B ≤ g
theorem CellsAt.kept {S : Nat → Prop} {w w' : World} {G B : Nat} {m : Md} {vs : List Value} (h : CellsAt w G B m vs) (hc : Chg S w w') (hG : ¬ S G) (hS : ∀ g l, B ≤ g → RowC w g 94 l → ¬ S g) : CellsAt w' G B m vs := by
  obtain ⟨h1, h2, h3⟩ := h
  refine ⟨(hc.block G (lt_of_block h1) hG).trans h1, h2, fun c hcl => ?_⟩
  rcases h3 c hcl with h0 | ⟨l, g, n, e1, e2, e3, e4, e5⟩
  · exact .inl h0
  · exact .inr ⟨l, g, n, e1, e2.kept hc (hS g l e5 e2), e3, e4, e5⟩
theorem CellsAt.set {w : World} {G B : Nat} {m : Md} {vs : List Value} (h : CellsAt w G B m vs) (hG : G < B) (c g n : Nat) (l : List Cl) (hc : c < 256) (h1 : RowC w g 94 l) (h2 : IsDtab (fM m c) (RM m) l) (h3 : m.atL (c : Int) ≠ []) (h4 : B ≤ g) :
    CellsAt (w.setCell ⟨G, c, none⟩ (.slice (some ⟨g, 0, none⟩) l.length n)) G B m (vs.set c (.slice (some ⟨g, 0, none⟩) l.length n)) := by
  obtain ⟨e1, e2, e3⟩ := h
  have hch := Chg.setCell w ⟨G, c, none⟩ (.slice (some ⟨g, 0, none⟩) l.length n)
  refine ⟨by rw [heap_setCell_same w G c _ _ _ e1, List.setIfInBounds_toArray], by rw [List.length_set]; exact e2, fun d hd => ?_⟩
  by_cases hdc : d = c
  · subst hdc
    refine .inr ⟨l, g, n, ?_, h1.kept hch (by simp; omega), h2, h3, h4⟩
    rw [List.getD_eq_getElem?_getD, List.getElem?_set_self (by omega)]; rfl
  · have hsame : (vs.set c (.slice (some ⟨g, 0, none⟩) l.length n)).getD d undef = vs.getD d undef := by
      rw [List.getD_eq_getElem?_getD, List.getElem?_set_ne (by omega), ← List.getD_eq_getElem?_getD]
    rw [hsame]
    rcases e3 d hd with h0 | ⟨l', g', n', f1, f2, f3, f4, f5⟩
    · exact .inl h0
    · exact .inr ⟨l', g', n', f1, f2.kept hch (by simp; omega), f3, f4, f5⟩
theorem CellsAt.cell {w : World} {G B : Nat} {m : Md} {vs : List Value} (h : CellsAt w G B m vs) (j : Nat) (hj : j < 256) : w.cell? ⟨G, j, none⟩ = some (vs.getD j undef) := by
  have hl : j < vs.length := by rw [h.2.1]; exact hj
  rw [cell_of_row w G j _ _ _ h.1, List.getElem?_toArray, List.getElem?_eq_getElem hl, List.getD_eq_getElem?_getD, List.getElem?_eq_getElem hl]; rfl
/-- two states in a row -/
def RowX (w : World) (g a b : Nat) : Prop := w.heap[g]? = some (.cells #[.int .i64 (a : Int), .int .i64 (b : Int)] 3 (0, 0))
theorem RowX.kept {S : Nat → Prop} {w w' : World} {g a b : Nat} (h : RowX w g a b) (hc : Chg S w w') (hS : ¬ S g) : RowX w' g a b := (hc.block g (lt_of_block h) hS).trans h
theorem RowX.cells {w : World} {g a b : Nat} (h : RowX w g a b) : w.cell? ⟨g, 0, none⟩ = some (.int .i64 (a : Int)) ∧ w.cell? ⟨g, 1, none⟩ = some (.int .i64 (b : Int)) :=
  ⟨by rw [cell_of_row w g 0 _ _ _ h]; rfl, by rw [cell_of_row w g 1 _ _ _ h]; rfl⟩
/-- the memory while it is decoded: bits, symbols, states, cells, the model -/
structure DecS (w wr : World) (gl X G B : Nat) (m : Md) (cv : Value) (bs : List Bool) (c9 : Nat) (out : Value) (o : List Nat) (x0 x1 : Nat) (vs : List Value) : Prop where
  bits : RdL wr (.slice (some ⟨gl, 0, none⟩) bs.length c9) gl 0 bs
  own : wr.ownsRow B 5 1 out o.length (bv o)
  row : RowX wr X x0 x1
  cells : CellsAt wr G B m vs
  mb : Mb wr w.heap.size m.log m.one cv
  chg : Chg (fun _ => False) w wr
  up : B ≤ wr.heap.size
theorem own_ge {w : World} {base : Nat} {e : TypeId} {v : Value} {n k : Nat} {xs : List Value} (h : w.ownsRow base e 1 v n xs) (hk : v.ownBlock = some k) : base ≤ k ∧ ∃ cur, w.heap[k]? = some (.cells cur e (0, 0)) := by
  rcases h.2 with ⟨rfl, _⟩ | ⟨g, cap, cur, rfl, h1, h2, _⟩
  · simp [Value.ownBlock] at hk
  · simp only [Value.ownBlock, Option.some.injEq] at hk
    subst hk
    exact ⟨h1, cur, h2⟩
theorem DecS.still {w wr wq : World} {gl X G B : Nat} {m : Md} {cv : Value} {bs : List Bool} {c9 : Nat} {out : Value} {o : List Nat} {x0 x1 : Nat} {vs : List Value} (h : DecS w wr gl X G B m cv bs c9 out o x0 x1 vs) (hc : Chg (fun _ => False) wr wq) : DecS w wq gl X G B m cv bs c9 out o x0 x1 vs :=
  ⟨h.bits.kept hc (by simp), hc.own h.own (by simp), h.row.kept hc (by simp), h.cells.kept hc (by simp) (by simp), h.mb.kept hc (by simp), h.chg.trans hc fun _ _ h => h, Nat.le_trans h.up hc.size⟩
theorem DecS.put {w wr : World} {gl X : Nat} {m : Md} {cv : Value} {bs : List Bool} {c9 : Nat} {out : Value} {o : List Nat} {x0 x1 : Nat} {vs : List Value} (h : DecS w wr gl X (X + 1) (X + 2) m cv bs c9 out o x0 x1 vs) (hw : w.heap.size < X) (hg : gl < X)
    (c g n : Nat) (l : List Cl) (hc : c < 256) (h1 : RowC wr g 94 l) (h2 : IsDtab (fM m c) (RM m) l) (h3 : m.atL (c : Int) ≠ []) (h4 : X + 2 ≤ g) :
    DecS w (wr.setCell ⟨X + 1, c, none⟩ (.slice (some ⟨g, 0, none⟩) l.length n)) gl X (X + 1) (X + 2) m cv bs c9 out o x0 x1 (vs.set c (.slice (some ⟨g, 0, none⟩) l.length n)) := by
  have hch := Chg.setCell wr ⟨X + 1, c, none⟩ (.slice (some ⟨g, 0, none⟩) l.length n)
  refine ⟨h.bits.kept hch (by simp; omega), hch.own h.own (fun k hk he => ?_), h.row.kept hch (by simp), h.cells.set (by omega) c g n l hc h1 h2 h3 h4, h.mb.kept hch (by simp; omega), h.chg.trans hch fun q hq he => by simp at he; omega, Nat.le_trans h.up hch.size⟩
  have := (own_ge h.own hk).1
  simp at he
  omega
theorem RowX.set {w : World} {g a b : Nat} (h : RowX w g a b) (k y : Nat) : RowX (w.setCell ⟨g, k % 2, none⟩ (.int .i64 (y : Int))) g (setLane k (a, b) y).1 (setLane k (a, b) y).2 := by
  unfold RowX setLane
  rcases (show k % 2 = 1 ∨ k % 2 = 0 by omega) with hp | hp
  · rw [if_pos hp, hp, heap_setCell_same w g 1 _ _ _ h]; rfl
  · rw [if_neg (by omega), hp, heap_setCell_same w g 0 _ _ _ h]; rfl
theorem DecS.step {w wc w9 wz : World} {gl X : Nat} {m : Md} {cv : Value} {bs bs' : List Bool} {c9 c' : Nat} {out out' : Value} {o : List Nat} {x0 x1 : Nat} {vs : List Value} {ob : Obj} (h : DecS w wc gl X (X + 1) (X + 2) m cv bs c9 out o x0 x1 vs) (hw : w.heap.size < X) (hg : gl < X)
    (hc : Chg (fun _ => False) wc w9) (hb : RdL w9 (.slice (some ⟨gl, 0, none⟩) bs'.length c') gl 0 bs') (k y s : Nat) (hown : wz.ownsRow (X + 2) 5 1 out' (o ++ [s]).length (bv (o ++ [s])))
    (happ : Chg (fun k => some k = out.ownBlock) ((w9.setCell ⟨X, k % 2, none⟩ (.int .i64 (y : Int))).alloc ob) wz) :
    DecS w wz gl X (X + 1) (X + 2) m cv bs' c' out' (o ++ [s]) (setLane k (x0, x1) y).1 (setLane k (x0, x1) y).2 vs := by
  have h9 := h.still hc
  have h1 := Chg.setCell w9 ⟨X, k % 2, none⟩ (.int .i64 (y : Int))
  have h2 := Chg.alloc (fun _ => False) (w9.setCell ⟨X, k % 2, none⟩ (.int .i64 (y : Int))) ob
  have h12 := h1.trans h2 fun _ _ h => h.elim
  have hout : ∀ k, some k = out.ownBlock → X + 2 ≤ k ∧ ∃ cur, w9.heap[k]? = some (.cells cur 5 (0, 0)) := fun k hk => own_ge h9.own hk.symm
  have hch := (h12.mono (T := fun k => k = X ∨ some k = out.ownBlock) fun k _ hk => .inl hk).trans happ fun k _ hk => .inr hk
  refine ⟨hb.kept hch fun hh => ?_, hown, ?_, h9.cells.kept hch (fun hh => ?_) (fun g l hgB hr hh => ?_), h9.mb.kept hch fun hh => ?_, h9.chg.trans hch fun q hq hh => ?_, Nat.le_trans h9.up hch.size⟩
  · rcases hh with hh | hh
    · omega
    · have := (hout _ hh).1; omega
  · refine ((h9.row.set k y).kept h2 (by simp)).kept happ fun hh => ?_
    have := (hout _ hh).1; omega
  · rcases hh with hh | hh
    · omega
    · have := (hout _ hh).1; omega
  · rcases hh with hh | hh
    · omega
    · obtain ⟨_, cur, hcur⟩ := hout _ hh
      unfold RowC at hr
      rw [hr] at hcur
      simp at hcur
  · rcases hh with hh | hh
    · omega
    · have := (hout _ hh).1; omega
  · rcases hh with hh | hh
    · omega
    · have := (hout _ hh).1; omega
/-- what is decoded so far -/
structure DecP (m : Md) (K : Nat) (bs0 : List Bool) (st0 : Nat × Nat) (k last : Nat) (bs : List Bool) (o : List Nat) (x0 x1 : Nat) : Prop where
  lastLt : last < 256
  lt0 : x0 < 2 ^ RM m
  lt1 : x1 < 2 ^ RM m
  len : o.length = k
  sym : ∀ y ∈ o, y < 256
  rest : decG (tabM m) K 0 0 bs0 st0 = preO o (decG (tabM m) (K - k) k last bs (x0, x1))
theorem DecP.step {m : Md} {K : Nat} {bs0 : List Bool} {st0 : Nat × Nat} {k last : Nat} {bs : List Bool} {o : List Nat} {x0 x1 : Nat} (h : DecP m K bs0 st0 k last bs o x0 x1) (hk : k < K) {l : List Cl} {s b : Nat} {Ba : Int} (ht : tabM m last = some l) (hz : l.getD (lane k (x0, x1)) cl0 = ⟨s, (b : Int), Ba⟩) (hs : s < 256) (hb : ¬ bs.length < b) {y : Nat} (hy : Ba + ((takeV bs b : Nat) : Int) = (y : Int)) (hy2 : y < 2 ^ RM m) :
    DecP m K bs0 st0 (k + 1) s (takeR bs b) (o ++ [s]) (setLane k (x0, x1) y).1 (setLane k (x0, x1) y).2 := by
  have hst := set_lt (i := k) (st := (x0, x1)) (N := 2 ^ RM m) ⟨h.lt0, h.lt1⟩ hy2
  refine ⟨hs, hst.1, hst.2, by rw [List.length_append, h.len]; rfl, fun z hz => ?_, ?_⟩
  · rcases List.mem_append.1 hz with h1 | h1
    · exact h.sym z h1
    · rw [List.mem_singleton] at h1; omega
  · rw [h.rest, show K - k = (K - (k + 1)) + 1 by omega, decG_step o ht hz (by simpa using hb)]
    simp only [Int.toNat_natCast, hy]
theorem DecP.short {m : Md} {K : Nat} {bs0 : List Bool} {st0 : Nat × Nat} {k last : Nat} {bs : List Bool} {o : List Nat} {x0 x1 : Nat} (h : DecP m K bs0 st0 k last bs o x0 x1) (hk : k < K) {l : List Cl} {s b : Nat} {Ba : Int} (ht : tabM m last = some l) (hz : l.getD (lane k (x0, x1)) cl0 = ⟨s, (b : Int), Ba⟩) (hb : bs.length < b) :
    finD (decG (tabM m) K 0 0 bs0 st0) = .error 3 := by
  rw [h.rest, show K - k = (K - (k + 1)) + 1 by omega, decG_short ht hz (by simpa using hb)]
  rfl
theorem DecP.fin {m : Md} {K : Nat} {bs0 : List Bool} {st0 : Nat × Nat} {last : Nat} {bs : List Bool} {o : List Nat} {x0 x1 : Nat} (h : DecP m K bs0 st0 K last bs o x0 x1) : finD (decG (tabM m) K 0 0 bs0 st0) = if x0 = 0 ∧ x1 = 0 ∧ bs = [] then .ok o else .error 14 := by
  rw [h.rest, Nat.sub_self]
  simp only [decG, preO, finD, List.append_nil, Prod.mk.injEq, and_assoc]

end Go.Proofs.YtokeoebhmjefoaaGreat

/- What putStates and takeStates tell: both states as bits. THIS SPEAKS OF THE PROGRAM'S OWN TEXT. -/
namespace Go.Proofs.YtokeoebhmjefoaaGreat
open Go.RowKit

set_option maxRecDepth 100000 in
set_option maxHeartbeats 1000000 in
theorem lputst_any (b : Nat) (o : Option Nat) (bs : List Bool) (R x0 x1 : Nat) (w : World) (h : Wr w b o bs) (hlen : bs.length < 800000000) (hR : R ≤ 12) (h0 : x0 < 2 ^ R) (h1 : x1 < 2 ^ R) :
    Calls Tryz.prog 36 #[.pointer (some ⟨b, 0, none⟩), .int .i64 (R : Int), .agg #[.int .i64 (x0 : Int), .int .i64 (x1 : Int)]] w fun e w' => (∃ v, e = .returned v) ∧ ∃ o', Wr w' b o' (payB R bs (x0, x1)) ∧ Chg (fun k => k = b ∨ some k = o) w w' := by
  have h2 := pow12 (k := R) hR
  have hx0 : (x0 : Int) < 4096 := by omega
  have hx1 : (x1 : Int) < 4096 := by omega
  have ca := Chg.alloc (fun _ => False) w (.cells #[.int .i64 (x0 : Int), .int .i64 (x1 : Int)] 51)
  have hst : Stt (w.alloc (.cells #[.int .i64 (x0 : Int), .int .i64 (x1 : Int)] 51)) w.heap.size x0 x1 := heap_alloc_new w _
  have hwa := h.kept ca (by simp) (by simp)
  have hbl := h.lt
  obtain ⟨W, hW⟩ : ∃ W, w.alloc (.cells #[.int .i64 (x0 : Int), .int .i64 (x1 : Int)] 51) = W := ⟨_, rfl⟩
  rw [hW] at ca hst hwa
  have HPUT := Lib.hid (put_in b o bs (x1 : Int) (R : Int) W hwa (by omega) (by omega) (by omega) (by omega) (by omega))
  have HW := Lib.hid hW; have HST := Lib.hid hst; have CA := Lib.hid ca; have HBL := Lib.hid hbl; have HLEN := Lib.hid hlen
  clear h hwa hbl h0 h1 h2 hst ca hW hlen
  go_enter Tryz.func36, Tryz.ntmps36
  go_upto_region 1 with fail
  rw [HW.out]
  obtain ⟨q0, q1⟩ := HST.out.cells
  go_wp2_with fail
  refine HPUT.out.mono ?_
  rintro e W2 ⟨rfl, o2, hw2, c2, ho2⟩
  rw [Int.toNat_natCast, Int.toNat_natCast] at hw2
  have hg : ¬ (w.heap.size = b ∨ some w.heap.size = o) := fun hh => by
    rcases hh with hh | hh
    · have := HBL.out.1; omega
    · have := (HBL.out.2 _ hh.symm).2; omega
  have hst2 := HST.out.kept c2 hg
  obtain ⟨r0, r1⟩ := hst2.cells
  have HPUT2 := Lib.hid (put_in b o2 (bs ++ bitsOf x1 R) (x0 : Int) (R : Int) W2 hw2 (by have := HLEN.out; rw [List.length_append, bitsOf_length]; omega) (by omega) (by omega) (by omega) (by omega))
  have C2 := Lib.hid c2; have HO2 := Lib.hid ho2
  clear hw2 c2 ho2 hst2 hg q0 q1 HPUT
  go_wp2_with fail
  refine HPUT2.out.mono ?_
  rintro e W3 ⟨rfl, o3, hw3, c3, ho3⟩
  rw [Int.toNat_natCast, Int.toNat_natCast] at hw3
  have HW3 := Lib.hid hw3
  have c23 : Chg (fun k => k = b ∨ some k = o) w W3 := (CA.out.mono fun _ _ h => h.elim).trans (C2.out.trans c3 fun k hk hh => by
    rcases hh with hh | hh
    · exact .inl hh
    · rcases HO2.out with e1 | ⟨q, e1, e2⟩
      · rw [e1] at hh; exact .inr hh
      · rw [e1] at hh; injection hh with hh; omega) fun _ _ h => h
  have C23 := Lib.hid c23
  clear hw3 c3 ho3 c23 HPUT2 r0 r1
  go_wp2
  go_end0
  exact ⟨⟨_, rfl⟩, o3, HW3.out, C23.out⟩

end Go.Proofs.YtokeoebhmjefoaaGreat

/- What model's Right tells: every list is asked by a method value. THIS SPEAKS OF THE PROGRAM'S OWN TEXT (and of slices.IndexFunc and slices.ContainsFunc over lists). -/
namespace Go.Proofs.YtokeoebhmjefoaaGreat
open Go.RowKit

theorem totalI_nil : totalI [] = 0 := by unfold totalI; rw [if_neg (fun h => by have := h.1; simp at this)]
theorem logI_zero : logI 0 = 0 := logI_none fun r _ _ he => by have := Nat.two_pow_pos r; omega

/-- a block of two fields: a number, and whether -/
def Kd (w : World) (g : Nat) (log : Int) (one : Bool) : Prop := w.heap[g]? = some (.cells #[.int .i64 log, .bool one] 83 (0, 0))
theorem Kd.made (w : World) (log : Int) (one : Bool) : Kd (w.alloc (.cells #[.int .i64 log, .bool one] 83)) w.heap.size log one := heap_alloc_new w _
theorem Kd.kept {S : Nat → Prop} {w w' : World} {g : Nat} {log : Int} {one : Bool} (h : Kd w g log one) (hc : Chg S w w') (hS : ¬ S g) : Kd w' g log one := (hc.block g (lt_of_block h) hS).trans h
theorem Kd.cells {w : World} {g : Nat} {log : Int} {one : Bool} (h : Kd w g log one) : w.cell? ⟨g, 0, none⟩ = some (.int .i64 log) ∧ w.cell? ⟨g, 1, none⟩ = some (.bool one) :=
  ⟨by rw [cell_of_row _ _ 0 _ _ _ h]; rfl, by rw [cell_of_row _ _ 1 _ _ _ h]; rfl⟩

set_option maxRecDepth 100000 in
theorem mbroken_any (log : Int) (one : Bool) (u : Value) (l : List Int) (w : World) (h : RdI w u l) (hb : ∀ z ∈ l, -9223372036854775808 ≤ z ∧ z ≤ 9223372036854775807) (hl : l.length < 100000000000) (h1 : 1 ≤ log) (h2 : log ≤ 12) :
    Calls Tryz.prog 43 #[.agg #[.int .i64 log, .bool (!one)], u] w fun e w' => e = .returned (.bool (decide (¬ okL log one l))) ∧ Chg (fun _ => False) w w' := by
  obtain ⟨ao, cap, rfl⟩ := h.form
  have hk := Kd.made w log (!one)
  have hc := Chg.alloc (fun _ => False) w (.cells #[.int .i64 log, .bool (!one)] 83)
  have hR := nright_any (.slice ao l.length cap) l log _ (h.kept hc (by simp)) hb hl (by omega)
  obtain ⟨may, hmay⟩ : ∃ may, (!one) = may := ⟨_, rfl⟩
  rw [hmay] at hk hc hR ⊢
  obtain ⟨W, hW⟩ : ∃ W, w.alloc (.cells #[.int .i64 log, .bool may] 83) = W := ⟨_, rfl⟩
  rw [hW] at hk hc hR
  obtain ⟨c0, c1⟩ := hk.cells
  have HC := Lib.hid hc; have HR := Lib.hid hR
  by_cases h0 : l = []
  · have hlg : logI (totalI l) = 0 := by rw [h0, totalI_nil, logI_zero]
    have hv : decide (¬ okL log one l) = !may := by
      have hi : okL log one l ↔ one = false := by
        unfold okL
        constructor
        · rintro (h3 | h3)
          · exact h3.2
          · omega
        · exact fun h3 => .inl ⟨h0, h3⟩
      rw [← hmay, Bool.not_not]
      cases one with
      | true => exact decide_eq_true (fun h3 => by simpa using hi.1 h3)
      | false => exact decide_eq_false (fun h3 => h3 (hi.2 rfl))
    rw [hv]
    have hlen : l.length = 0 := by rw [h0]; rfl
    rw [hlen]
    clear hk hc hR h hb hl hv hlg hlen h0 hmay
    go_enter Tryz.func43, Tryz.ntmps43
    go_wp2
    go_ret
    exact ⟨rfl, HC.out⟩
  · have hv : decide (¬ okL log one l) = !(decide (0 < logI (totalI l) ∧ ((logI (totalI l) : Nat) : Int) = log)) := by
      rw [← decide_not]
      refine decide_eq_decide.2 (not_congr ?_)
      unfold okL
      constructor
      · rintro (⟨h3, _⟩ | h3)
        · exact absurd h3 h0
        · exact ⟨by omega, h3⟩
      · exact fun h3 => .inr h3.2
    rw [hv]
    have hpos : 0 < l.length := List.length_pos_iff.2 h0
    obtain ⟨n, hn⟩ : ∃ n, l.length = n := ⟨_, rfl⟩
    rw [hn] at hpos HR ⊢
    obtain ⟨D, hD⟩ : ∃ D, decide (0 < logI (totalI l) ∧ ((logI (totalI l) : Nat) : Int) = log) = D := ⟨_, rfl⟩
    rw [hD] at HR ⊢
    have hne : ((n : Int) == 0) = false := by simp; omega
    have hn0 : ¬ n = 0 := by omega
    clear hk hc hR h hb hl hv h0 hn hD hmay
    go_enter Tryz.func43, Tryz.ntmps43
    go_wp2_with fail
    refine HR.out.mono ?_
    rintro e w1 ⟨rfl, hc1⟩
    have C1 := Lib.hid (HC.out.trans hc1 fun _ _ h => h)
    clear hc1
    go_wp2
    go_ret
    exact ⟨rfl, C1.out⟩

theorem mlistsN_any (one : Bool) (w : World) : Calls Tryz.prog 41 #[.bool one] w fun e w' => e = .returned (.int .i64 (if one then 1 else 256)) ∧ w' = w := by
  cases one with
  | true =>
    go_enter Tryz.func41, Tryz.ntmps41
    go_wp2
    go_ret
    exact ⟨rfl, rfl⟩
  | false =>
    go_enter Tryz.func41, Tryz.ntmps41
    go_wp2
    go_ret
    exact ⟨rfl, rfl⟩
theorem Tryz.entersBr (args : Array Value) (w : World) : (callFunc 43 args).run Tryz.prog w = .ok (.enter 43 args) w := by kernel_rfl

/-- the first list of which it is so, asked of each by a function that is handed in -/
def FirstOf (L : List (List Int)) (P : List Int → Prop) (r : Int) : Prop := (r = -1 ∧ ∀ j, j < L.length → ¬ P (L.getD j [])) ∨ ∃ k : Nat, r = (k : Int) ∧ k < L.length ∧ P (L.getD k [])

set_option maxRecDepth 20000 in
set_option maxHeartbeats 1000000 in
theorem mindex_any (m1 : Nat) (first : Value) (P : List Int → Prop) [DecidablePred P] (v : Value) (L : List (List Int)) (w : World) (h : RdLL w v L) (hl : L.length < 100000000000)
    (hm1 : ∀ args W, (callFunc m1 args).run Tryz.prog W = .ok (.enter m1 args) W)
    (hc : ∀ W u j, Chg (fun _ => False) w W → j < L.length → RdI W u (L.getD j []) → Calls Tryz.prog m1 #[first, u] W fun e W' => e = .returned (.bool (decide (P (L.getD j [])))) ∧ Chg (fun _ => False) W W') :
    Calls Tryz.prog 65 #[v, .func (.func m1) #[first] #[]] w fun e w' => ∃ r, e = .returned (.int .i64 r) ∧ FirstOf L P r ∧ Chg (fun _ => False) w w' := by
  obtain ⟨ao, cap, rfl⟩ := h.form
  have H := Lib.hid h; have HC := Lib.hid hc
  obtain ⟨n, hn⟩ : ∃ n, L.length = n := ⟨_, rfl⟩
  have HN := Lib.hid hn
  rw [hn] at hl ⊢
  have hlI : (n : Int) < 100000000000 := by omega
  clear h hc hn
  go_enter Tryz.func65, Tryz.ntmps65
  go_wp2
  go_loopw [4, 5, 8] (fun _ _ o8 wr => ∃ k : Nat, k ≤ n ∧ o8 = .int .i64 (k : Int) ∧ (∀ j, j < k → ¬ P (L.getD j [])) ∧ Chg (fun _ => False) w wr) (fun _ _ o8 _ => n - (intOf o8).toNat)
  case atStart => exact ⟨0, Nat.zero_le _, rfl, fun j hj => by omega, Chg.refl _ _⟩
  case round =>
    obtain ⟨k, hk, rfl, hno, hcg⟩ := hrel
    have NO := Lib.hid hno; have CG := Lib.hid hcg
    clear hno
    by_cases hkn : k < n
    · obtain ⟨g, off, u, rfl, hu1, hu2⟩ := (H.out.kept hcg).at k (by rw [HN.out]; exact hkn)
      have CL := Lib.hid (HC.out wr u k hcg (by rw [HN.out]; exact hkn) hu2)
      have hki : (k : Int) < (n : Int) := by omega
      clear hcg hu2
      go_wp2_with fail
      refine (CL.out).mono ?_
      rintro e w1 ⟨rfl, hc1⟩
      have C1 := Lib.hid (CG.out.trans hc1 fun _ _ h => h)
      clear hc1
      by_cases hp : P (L.getD k [])
      · rw [decide_eq_true hp]
        have HP := Lib.hid hp
        clear hp
        go_wp2
        go_ret
        exact ⟨_, rfl, .inr ⟨k, rfl, by rw [HN.out]; exact hkn, HP.out⟩, C1.out⟩
      · rw [decide_eq_false hp]
        have HP := Lib.hid hp
        clear hp
        go_wp2
        go_roundw
        case rel => exact ⟨k + 1, by omega, by go_num, fun j hj => by
          by_cases hjk : j = k
          · rw [hjk]; exact HP.out
          · exact NO.out j (by omega), C1.out⟩
        case measure => simp [intOf]; omega
    · obtain rfl : k = n := by omega
      clear hcg
      go_wp2
      go_ret
      exact ⟨_, rfl, .inl ⟨rfl, fun j hj => NO.out j (by rw [HN.out] at hj; exact hj)⟩, CG.out⟩

theorem mcontains_any (m1 : Nat) (first : Value) (P : List Int → Prop) [DecidablePred P] (v : Value) (L : List (List Int)) (w : World) (h : RdLL w v L) (hl : L.length < 100000000000)
    (hm1 : ∀ args W, (callFunc m1 args).run Tryz.prog W = .ok (.enter m1 args) W)
    (hc : ∀ W u j, Chg (fun _ => False) w W → j < L.length → RdI W u (L.getD j []) → Calls Tryz.prog m1 #[first, u] W fun e W' => e = .returned (.bool (decide (P (L.getD j [])))) ∧ Chg (fun _ => False) W W') :
    Calls Tryz.prog 42 #[v, .func (.func m1) #[first] #[]] w fun e w' => e = .returned (.bool (decide (∃ j, j < L.length ∧ P (L.getD j [])))) ∧ Chg (fun _ => False) w w' := by
  have IX := Lib.hid (mindex_any m1 first P v L w h hl hm1 hc)
  clear h hl hm1 hc
  go_enter Tryz.func42, Tryz.ntmps42
  go_wp2_with fail
  refine (IX.out).mono ?_
  rintro e w1 ⟨r, rfl, hr, hc1⟩
  have hv : decide (0 ≤ r) = decide (∃ j, j < L.length ∧ P (L.getD j [])) := by
    refine decide_eq_decide.2 ⟨fun h => ?_, fun ⟨j, h1, h2⟩ => ?_⟩
    · rcases hr with ⟨rfl, _⟩ | ⟨k, _, h1, h2⟩
      · omega
      · exact ⟨k, h1, h2⟩
    · rcases hr with ⟨_, h3⟩ | ⟨k, rfl, _⟩
      · exact absurd h2 (h3 j h1)
      · omega
  have C1 := Lib.hid hc1; have HV := Lib.hid hv
  clear hc1 hv hr
  go_wp2
  go_ret
  exact ⟨by rw [← HV.out]; rfl, C1.out⟩

set_option maxRecDepth 100000 in
set_option maxHeartbeats 2000000 in
theorem mright_any (v : Value) (m : Md) (w : World) (h : RdM w v m) (hf : m.fit64) : Calls Tryz.prog 20 #[v] w fun e w' => e = .returned (.bool (decide m.right)) ∧ Chg (fun _ => False) w w' := by
  obtain ⟨cv, rfl, hl⟩ := h
  obtain ⟨ao, cap, rfl⟩ := hl.form
  unfold mdv
  have hca := Chg.alloc (fun _ => False) w (.cells #[.int .i64 m.log, .bool m.one, .slice ao m.cs.length cap] 26)
  have hmb : Mb _ _ m.log m.one (.slice ao m.cs.length cap) := heap_alloc_new w (.cells #[.int .i64 m.log, .bool m.one, .slice ao m.cs.length cap] 26)
  have hl1 := hl.kept hca
  have HFA := Lib.hid hf.at
  obtain ⟨⟨hlo, hhi⟩, hlen, -⟩ := hf
  obtain ⟨D, hD⟩ : ∃ D, decide m.right = D := ⟨_, rfl⟩
  rw [hD]
  have HD := Lib.hid hD
  have HLS := Lib.hid (mlistsN_any m.one)
  obtain ⟨log, one, cs⟩ := m
  simp only [] at *
  obtain ⟨n, hn⟩ : ∃ n, cs.length = n := ⟨_, rfl⟩
  have HN := Lib.hid hn
  rw [hn] at hca hmb hl1 hlen ⊢
  obtain ⟨W1, hW1⟩ : ∃ W, w.alloc (.cells #[.int .i64 log, .bool one, .slice ao n cap] 26) = W := ⟨_, rfl⟩
  rw [hW1] at hca hmb hl1
  obtain ⟨b0, b1, b2⟩ := hmb.cells
  have HCA := Lib.hid hca
  by_cases g1 : log < 1
  · have hv : D = false := by rw [← HD.out]; exact decide_eq_false fun hh => by have := hh.1; simp only [] at this; omega
    subst hv
    have d1 : decide (log < 1) = true := decide_eq_true g1
    clear hl hmb hl1 hD hn hca
    go_enter Tryz.func20, Tryz.ntmps20
    go_wp2
    go_quiet (fail)
    go_wp2
    go_ret
    exact ⟨rfl, HCA.out.drewN _⟩
  have d1 : decide (log < 1) = false := decide_eq_false g1
  by_cases g2 : 12 < log
  · have hv : D = false := by rw [← HD.out]; exact decide_eq_false fun hh => by have := hh.1; simp only [] at this; omega
    subst hv
    have d2 : decide (12 < log) = true := decide_eq_true g2
    clear hl hmb hl1 hD hn hca
    go_enter Tryz.func20, Tryz.ntmps20
    go_wp2
    go_quiet (fail)
    go_wp2
    go_ret
    exact ⟨rfl, HCA.out.drewN _⟩
  have d2 : decide (12 < log) = false := decide_eq_false g2
  obtain ⟨NL, hNL⟩ : ∃ NL : Nat, NL = (if one then 1 else 256) := ⟨_, rfl⟩
  have hli : (if one = true then (1 : Int) else 256) = (NL : Int) := by rw [hNL]; split <;> rfl
  rw [hli] at HLS
  have hnl : NL ≤ 256 := by rw [hNL]; split <;> omega
  have HNL := Lib.hid hNL
  clear hNL hli
  by_cases g3 : n = NL
  · subst g3
    have e1 : ((n : Int) == (n : Int)) = true := by simp
    have HBI := Lib.hid (fun W2 (hW2 : Chg (fun _ => False) W1 W2) => mcontains_any 43 (.agg #[.int .i64 log, .bool (!one)]) (fun l => ¬ okL log one l) (.slice ao cs.length cap) cs W2 (by rw [HN.out]; exact hl1.kept hW2) (by rw [HN.out]; omega) Tryz.entersBr
      fun W u j _ hj hu => mbroken_any log one u _ W hu (HFA.out j hj).2 (HFA.out j hj).1 (by omega) (by omega))
    have hv : D = !(decide (∃ j, j < cs.length ∧ ¬ okL log one (cs.getD j []))) := by
      rw [← HD.out, ← decide_not]
      refine decide_eq_decide.2 ⟨fun hh => ?_, fun hh => ?_⟩
      · rintro ⟨j, hj, hk⟩
        exact hk (hh.at j hj)
      · refine ⟨by simp only []; omega, by simp only []; rw [HN.out, HNL.out], right_take (k := cs.length) (fun j hj => ?_) rfl⟩
        exact Decidable.byContradiction fun hk => hh ⟨j, hj, hk⟩
    obtain ⟨X, hX⟩ : ∃ X, decide (∃ j, j < cs.length ∧ ¬ okL log one (cs.getD j [])) = X := ⟨_, rfl⟩
    rw [hX] at hv HBI
    rw [HN.out] at HBI
    subst hv
    have HMB := Lib.hid hmb
    clear hl hmb hl1 hD hn hca hX
    go_enter Tryz.func20, Tryz.ntmps20
    go_wp2
    go_quiet (first | (go_at_call 41; with_reducible exact Calls.quiet_of_same (HLS.out _)))
    obtain ⟨W2, hW2⟩ : ∃ W2, W1.drewN nq = W2 := ⟨_, rfl⟩
    have hc2 : Chg (fun _ => False) W1 W2 := by rw [← hW2]; exact (Chg.refl _ _).drewN _
    rw [hW2]
    have hmb2 := HMB.out.kept hc2 (by simp)
    obtain ⟨x0, x1, x2⟩ := hmb2.cells
    have hk := Kd.made W2 log (!one)
    have hc3 := Chg.alloc (fun _ => False) W2 (.cells #[.int .i64 log, .bool (!one)] 83)
    have hmb3 := hmb2.kept hc3 (by simp)
    obtain ⟨W3, hW3⟩ : ∃ W3, W2.alloc (.cells #[.int .i64 log, .bool (!one)] 83) = W3 := ⟨_, rfl⟩
    rw [hW3] at hk hc3 hmb3
    obtain ⟨k0, k1⟩ := hk.cells
    obtain ⟨y0, y1, y2⟩ := hmb3.cells
    have HBW := Lib.hid (HBI.out W3 (hc2.trans hc3 fun _ _ h => h))
    have HC3 := Lib.hid ((HCA.out.trans hc2 fun _ _ h => h).trans hc3 fun _ _ h => h)
    clear hk hc3 hmb3 hmb2 hc2 hW2 b0 b1 b2 hW1
    go_wp2_with fail
    with_reducible refine Calls.mono HBW.out ?_
    rintro e w5 ⟨rfl, hc5⟩
    have C5 := Lib.hid (HC3.out.trans hc5 fun _ _ h => h)
    clear hc5
    go_wp2
    go_ret
    exact ⟨rfl, C5.out⟩
  · have hv : D = false := by
      rw [← HD.out]
      refine decide_eq_false fun hh => g3 ?_
      have := hh.2.1
      simp only [] at this
      rw [← HN.out, this, HNL.out]
    subst hv
    have e1 : ((n : Int) == (NL : Int)) = false := by simp; omega
    have g4 : ¬ (n : Int) = (NL : Int) := by omega
    clear hl hmb hl1 hD hn hca
    go_enter Tryz.func20, Tryz.ntmps20
    go_wp2
    go_quiet (first | (go_at_call 41; with_reducible exact Calls.quiet_of_same (HLS.out _)))
    go_wp2
    go_ret
    exact ⟨rfl, HCA.out.drewN _⟩

end Go.Proofs.YtokeoebhmjefoaaGreat

/- What model's At and Fits tell. THIS SPEAKS OF THE PROGRAM'S OWN TEXT (and of slices.Clone of ints). -/
namespace Go.Proofs.YtokeoebhmjefoaaGreat
open Go.RowKit

theorem eqlNilI (w : World) (a : Addr) (n cap : Nat) : (binOp .eql 34 (.slice (some a) n cap) (.slice none 0 0)).run Tryz.prog w = .ok (.bool false) w := by kernel_rfl
theorem eqlNilI0 (w : World) (n cap : Nat) : (binOp .eql 34 (.slice none n cap) (.slice none 0 0)).run Tryz.prog w = .ok (.bool true) w := by kernel_rfl

set_option maxHeartbeats 1000000 in
theorem mlist_any (log : Int) (one : Bool) (ao : Option Addr) (n cap : Nat) (cs : List (List Int)) (c : Nat) (w : World) (h : RdLL w (.slice ao n cap) cs) (hn : n = (if one then 1 else 256)) (hcn : cs.length = n) (hc : c < 256) :
    Calls Tryz.prog 60 #[.agg #[.int .i64 log, .bool one, .slice ao n cap], .int .i64 (c : Int)] w fun e w' => ∃ u, e = .returned u ∧ RdI w' u (cs.getD (if one then 0 else c) []) ∧ Chg (fun _ => False) w w' := by
  have hca := Chg.alloc (fun _ => False) w (.cells #[.int .i64 log, .bool one, .slice ao n cap] 26)
  have hmb : Mb _ _ log one (.slice ao n cap) := heap_alloc_new w (.cells #[.int .i64 log, .bool one, .slice ao n cap] 26)
  have hl1 := h.kept hca
  obtain ⟨W1, hW1⟩ : ∃ W, w.alloc (.cells #[.int .i64 log, .bool one, .slice ao n cap] 26) = W := ⟨_, rfl⟩
  rw [hW1] at hca hmb hl1
  obtain ⟨b0, b1, b2⟩ := hmb.cells
  have HCA := Lib.hid hca
  have hcI : (c : Int) < 256 := by omega
  clear h hca hmb
  cases one with
  | true =>
    simp only [if_true] at hn ⊢
    subst hn
    obtain ⟨g, off, u, rfl, hu1, hu2⟩ := hl1.at 0 (by omega)
    obtain ⟨Q, hQ⟩ : ∃ Q, cs.getD 0 [] = Q := ⟨_, rfl⟩
    rw [hQ] at hu2 ⊢
    obtain ⟨nq, hnq⟩ : ∃ nq, Q.length = nq := ⟨_, rfl⟩
    obtain ⟨a, q, e⟩ := hu2.form
    have HU := Lib.hid hu2
    rw [Nat.add_zero] at hu1
    rw [e, hnq] at hu1 HU
    clear hl1 hu2 hQ hnq
    go_enter Tryz.func60, Tryz.ntmps60
    go_wp2
    go_ret
    exact ⟨_, rfl, HU.out, HCA.out⟩
  | false =>
    simp only [Bool.false_eq_true, if_false] at hn ⊢
    subst hn
    obtain ⟨g, off, u, rfl, hu1, hu2⟩ := hl1.at c (by omega)
    obtain ⟨Q, hQ⟩ : ∃ Q, cs.getD c [] = Q := ⟨_, rfl⟩
    rw [hQ] at hu2 ⊢
    obtain ⟨nq, hnq⟩ : ∃ nq, Q.length = nq := ⟨_, rfl⟩
    obtain ⟨a, q, e⟩ := hu2.form
    have HU := Lib.hid hu2
    rw [e, hnq] at hu1 HU
    clear hl1 hu2 hQ hnq
    go_enter Tryz.func60, Tryz.ntmps60
    go_wp2
    go_ret
    exact ⟨_, rfl, HU.out, HCA.out⟩

theorem atL_is {m : Md} (c : Nat) (hr : m.right) (hc : c < 256) : m.atL (c : Int) = m.cs.getD (if m.one then 0 else c) [] := by
  unfold Md.atL
  rw [if_pos ⟨hr, by omega, by omega⟩, Int.toNat_natCast]
  by_cases h : m.one = true
  · rw [if_pos h, if_pos h]
  · rw [if_neg h, if_neg h]

theorem own_roomI {w : World} {base : Nat} {v : Value} {n : Nat} {xs : List Value} (h : w.ownsRow base 3 1 v n xs) : RoomOk v := by
  rcases h.2 with ⟨rfl, _⟩ | ⟨g, cap, cur, rfl, _, _, hc, _⟩
  · exact RoomOk.of (Nat.le_refl _)
  · exact RoomOk.of hc

set_option maxRecDepth 100000 in
set_option maxHeartbeats 4000000 in
theorem mfits_any (v u : Value) (m : Md) (xs : List Nat) (w : World) (h : RdM w v m) (hf : m.fit64) (hb : RdB w u xs) (hx : ∀ x ∈ xs, x < 256) (hl : xs.length < 1000000) :
    Calls Tryz.prog 33 #[v, u] w fun e w' => e = .returned (.bool (decide (m.fits xs))) ∧ Chg (fun _ => False) w w' := by
  obtain ⟨cv, rfl, h1⟩ := h
  obtain ⟨ao, cap, rfl⟩ := h1.form
  obtain ⟨ab, capb, rfl⟩ := hb.form
  unfold mdv
  have hca := Chg.alloc (fun _ => False) w (.cells #[.int .i64 m.log, .bool m.one, .slice ao m.cs.length cap] 26)
  have hmb : Mb _ _ m.log m.one (.slice ao m.cs.length cap) := heap_alloc_new w (.cells #[.int .i64 m.log, .bool m.one, .slice ao m.cs.length cap] 26)
  have hll := h1.kept hca
  have hbl := hb.kept hca (by simp)
  have HR := Lib.hid fun W (hW : RdLL W (.slice ao m.cs.length cap) m.cs) => mright_any (mdv m (.slice ao m.cs.length cap)) m W ⟨_, rfl, hW⟩ hf
  unfold mdv at HR
  obtain ⟨D, hD⟩ : ∃ D, decide (m.fits xs) = D := ⟨_, rfl⟩
  rw [hD]
  have HD := Lib.hid hD
  have HX := Lib.hid hx
  obtain ⟨W1, hW1⟩ : ∃ W, w.alloc (.cells #[.int .i64 m.log, .bool m.one, .slice ao m.cs.length cap] 26) = W := ⟨_, rfl⟩
  rw [hW1] at hca hmb hll hbl
  have HST := Lib.hid (show ∀ W, Chg (fun _ => False) W1 W → (Mb W w.heap.size m.log m.one (.slice ao m.cs.length cap) ∧ RdLL W (.slice ao m.cs.length cap) m.cs ∧ RdB W (.slice ab xs.length capb) xs ∧ Chg (fun _ => False) w W) from fun W hW => ⟨hmb.kept hW (by simp), hll.kept hW, hbl.kept hW (by simp), hca.trans hW fun _ _ h => h⟩)
  obtain ⟨b0, b1, b2⟩ := hmb.cells
  by_cases hr : m.right
  · have hlen := hr.2.1
    have HFIT := Lib.hid hr
    rw [decide_eq_true hr] at HR
    have HLI := Lib.hid fun W (k : Nat) (hk : k < 256) (hW : RdLL W (.slice ao m.cs.length cap) m.cs) => mlist_any m.log m.one ao m.cs.length cap m.cs k W hW hlen rfl hk
    have HAT := Lib.hid fun W (i : Nat) (hi : i < xs.length) (hW : RdB W (.slice ab xs.length capb) xs) => xat_any (.slice ab xs.length capb) xs (i : Int) W hW hx (by omega) (by omega)
    have HLQ := Lib.hid (show ∀ k, k < 256 → (m.cs.getD (if m.one then 0 else k) []).length = 0 ∨ (m.cs.getD (if m.one then 0 else k) []).length = 256 from fun k hk => by
      have := atL_len m (k : Int)
      rw [atL_is k hr hk] at this
      by_cases he : m.cs.getD (if m.one then 0 else k) [] = []
      · left; rw [he]; rfl
      · exact .inr (this he))
    have HFA := Lib.hid (show ∀ i, i < xs.length → (m.fitAt xs i ↔ m.cs.getD (if m.one then 0 else (0 :: xs).getD i 0) [] ≠ [] ∧ (m.cs.getD (if m.one then 0 else (0 :: xs).getD i 0) []).getD (xs.getD i 0) 0 ≠ 0) from fun i hi => by
      unfold Md.fitAt
      rw [atL_is _ hr (ahead_lt hx i)])
    obtain ⟨nb, hnb⟩ : ∃ nb, xs.length = nb := ⟨_, rfl⟩
    have HNB := Lib.hid hnb
    rw [hnb] at hl HST HAT HFA ⊢
    have hnI : (nb : Int) < 1000000 := by omega
    have HFF := Lib.hid hf.at
    obtain ⟨log, one, cs⟩ := m
    simp only [] at *
    obtain ⟨n, hn⟩ : ∃ n, cs.length = n := ⟨_, rfl⟩
    rw [hn] at hW1 b2 HST HR HLI ⊢
    clear hf hmb hca hn hr hlen hll hbl hb h1 hx hD hnb
    go_enter Tryz.func33, Tryz.ntmps33
    go_wp2_with fail
    with_reducible refine Calls.mono (HR.out _ (HST.out _ (Chg.refl _ _)).2.1) ?_
    rintro e w2 ⟨rfl, hc2⟩
    have C2 := Lib.hid hc2
    clear hc2 b0 b1 b2 hW1
    go_wp2
    go_loopw [5, 6, 7, 13] (fun _ _ _ o13 wr => ∃ k : Nat, k ≤ nb ∧ o13 = .int .i64 (k : Int) ∧ (∀ i, i < k → Md.fitAt ⟨log, one, cs⟩ xs i) ∧ Chg (fun _ => False) W1 wr) (fun _ _ _ o13 _ => nb - (intOf o13).toNat)
    case atStart => exact ⟨0, Nat.zero_le _, rfl, fun j hj => by omega, C2.out⟩
    case round =>
      clear C2
      obtain ⟨k, hk, rfl, hfi, hcg⟩ := hrel
      have HFI := Lib.hid hfi; have HCG := Lib.hid hcg
      clear hfi
      by_cases hlt : k < nb
      · have hkI : (k : Int) < (nb : Int) := by omega
        have st := HST.out _ hcg
        obtain ⟨gb, ob, rfl, hbc⟩ := st.2.2.1.at k (by rw [HNB.out]; exact hlt)
        have hxk := getD_lt xs HX.out k
        obtain ⟨x, hxe⟩ : ∃ x, xs.getD k 0 = x := ⟨_, rfl⟩
        have HXE := Lib.hid hxe
        rw [hxe] at hbc hxk
        have hp := ahead_lt HX.out k
        obtain ⟨p, hpe⟩ : ∃ p, (0 :: xs).getD k 0 = p := ⟨_, rfl⟩
        have HPE := Lib.hid hpe
        rw [hpe] at hp
        have HA := Lib.hid (show ∀ W, Chg (fun _ => False) W1 W → Calls Tryz.prog 49 #[.slice (some ⟨gb, ob, none⟩) nb capb, .int .i64 (k : Int)] W fun e w' => e = .returned (.int .i64 (p : Int)) ∧ Chg (fun _ => False) W w' from fun W hW => by
          have := HAT.out W k hlt (HST.out W hW).2.2.1
          rw [atI_nat xs k (by rw [HNB.out]; exact hlt), HPE.out] at this
          exact this.mono fun e w' ⟨h1, m, h2⟩ => ⟨h1, by rw [h2]; exact (Chg.refl _ _).drewN m⟩)
        have hlq := HLQ.out p hp
        obtain ⟨Q, hQ⟩ : ∃ Q, cs.getD (if one = true then 0 else p) [] = Q := ⟨_, rfl⟩
        have HQ := Lib.hid hQ
        have HL := Lib.hid (fun W hW => HLI.out W p hp (HST.out W hW).2.1)
        rw [hQ] at HL hlq
        have hfa := HFA.out k hlt
        rw [HPE.out, HXE.out, HQ.out] at hfa
        have HFK := Lib.hid hfa
        obtain ⟨y0, y1, y2⟩ := st.1.cells
        clear hcg st hfa hxe hpe hQ
        go_wp2
        go_region_held3 (fun W => W.cell? ⟨w.heap.size, 0, none⟩ = some (.int .i64 log) ∧ W.cell? ⟨w.heap.size, 1, none⟩ = some (.bool one) ∧ W.cell? ⟨w.heap.size, 2, none⟩ = some (.slice ao n cap)) (first | exact ⟨y0, y1, y2⟩ | exact k0 | exact q0) (first
          | (go_at_call 49; refine (HA.out _ (HCG.out.drew)).mono ?_; rintro e w3 ⟨rfl, hc3⟩; have C3 := Lib.hid (HCG.out.drew.trans hc3 fun _ _ h => h); have k0 := (HST.out _ C3.out).1.cells; clear hc3)
          | (go_at_call 60; refine (HL.out _ C3.out).mono ?_; rintro e w4 ⟨u, rfl, hu, hc4⟩; have C4 := Lib.hid (C3.out.trans hc4 fun _ _ h => h); have q0 := (HST.out _ C4.out).1.cells; have HU := Lib.hid hu; clear hc4 hu))
        obtain ⟨aq, lq, hue⟩ := HU.out.form
        subst hue
        obtain ⟨nq, hnq⟩ : ∃ nq, Q.length = nq := ⟨_, rfl⟩
        have HNQ := Lib.hid hnq
        rw [hnq] at hlq HU ⊢
        clear hnq
        rcases hlq with rfl | rfl
        · have hv : D = false := by
            rw [← HD.out]
            refine decide_eq_false fun hh => ?_
            have := (HFK.out.1 (hh.2 k (by rw [HNB.out]; exact hlt))).1
            exact this (List.length_eq_zero_iff.1 HNQ.out)
          subst hv
          go_wp2
          go_ret
          exact ⟨rfl, (HST.out _ C4.out).2.2.2⟩
        · obtain ⟨gq, oq, rfl, hqc⟩ := HU.out.at x (by rw [HNQ.out]; exact hxk)
          obtain ⟨z, hz⟩ : ∃ z, Q.getD x 0 = z := ⟨_, rfl⟩
          have HZ := Lib.hid hz
          rw [hz] at hqc
          by_cases hz0 : z = 0
          · have hv : D = false := by
              rw [← HD.out]
              refine decide_eq_false fun hh => ?_
              exact (HFK.out.1 (hh.2 k (by rw [HNB.out]; exact hlt))).2 (by rw [HZ.out]; exact hz0)
            subst hv
            subst hz0
            clear hz
            go_wp2
            go_ret
            exact ⟨rfl, (HST.out _ C4.out).2.2.2⟩
          · have hzb : (z == 0) = false := by simpa using hz0
            clear hz
            go_wp2
            go_roundw
            case rel => exact ⟨k + 1, by omega, by go_num, fun i hi => by
              by_cases hik : i = k
              · subst hik
                exact HFK.out.2 ⟨fun he => by have := HNQ.out; rw [he] at this; simp at this, by rw [HZ.out]; exact hz0⟩
              · exact HFI.out i (by omega), C4.out⟩
            case measure => simp [intOf]; omega
      · obtain rfl : k = nb := by omega
        have hv : D = true := by
          rw [← HD.out]
          exact decide_eq_true ⟨HFIT.out, fun i hi => HFI.out i (by rw [← HNB.out]; exact hi)⟩
        subst hv
        clear hcg
        go_wp2
        go_ret
        exact ⟨rfl, (HST.out _ HCG.out).2.2.2⟩
  · have hv : D = false := by rw [← HD.out]; exact decide_eq_false fun hh => hr hh.1
    subst hv
    rw [decide_eq_false hr] at HR
    obtain ⟨n, hn⟩ : ∃ n, m.cs.length = n := ⟨_, rfl⟩
    rw [hn] at hW1 b2 HST HR ⊢
    clear hf hmb hca hn hr hll hbl hb h1 hx hD
    go_enter Tryz.func33, Tryz.ntmps33
    go_wp2_with fail
    with_reducible refine Calls.mono (HR.out _ (HST.out _ (Chg.refl _ _)).2.1) ?_
    rintro e w2 ⟨rfl, hc2⟩
    have C2 := Lib.hid (HST.out _ hc2).2.2.2
    clear hc2
    go_wp2
    go_ret
    exact ⟨rfl, C2.out⟩

end Go.Proofs.YtokeoebhmjefoaaGreat

/- What written, Encode and Bits tell. THIS SPEAKS OF THE PROGRAM'S OWN TEXT. -/
namespace Go.Proofs.YtokeoebhmjefoaaGreat
open Go.RowKit

theorem encS_pay {m : Md} {xs : List Nat} {bs : List Bool} {a b : Nat} (h : EncS m xs xs.length (RM m) 0 bs a b) : payL m xs = payB (RM m) bs (a, b) := by
  have := h.1
  rw [List.drop_zero] at this
  exact payL_of this

set_option maxRecDepth 100000 in
set_option maxHeartbeats 4000000 in
theorem lwritten_any (v u : Value) (m : Md) (xs : List Nat) (w : World) (h : RdM w v m) (hf : m.fit64) (hb : RdB w u xs) (hx : ∀ x ∈ xs, x < 256) (hl : xs.length < 1000000) :
    Calls Tryz.prog 12 #[v, u] w fun e w' => (¬ lnOk m xs → e = .returned (.tuple #[.pointer none, .int .i64 1])) ∧ (lnOk m xs → ∃ b o, e = .returned (.tuple #[.pointer (some ⟨b, 0, none⟩), .int .i64 0]) ∧ Wr w' b o (payL m xs)) ∧ Chg (fun _ => False) w w' := by
  have HFITS := Lib.hid fun W (hW : RdM W v m) (hB : RdB W u xs) => mfits_any v u m xs W hW hf hB hx hl
  obtain ⟨cv, rfl, h1⟩ := h
  obtain ⟨ao, cap, rfl⟩ := h1.form
  obtain ⟨ab, capb, rfl⟩ := hb.form
  have hca := Chg.alloc (fun _ => False) w (.cells #[.int .i64 m.log, .bool m.one, .slice ao m.cs.length cap] 26)
  have hmb : Mb _ _ m.log m.one (.slice ao m.cs.length cap) := heap_alloc_new w (.cells #[.int .i64 m.log, .bool m.one, .slice ao m.cs.length cap] 26)
  have hll := h1.kept hca
  have hbl := hb.kept hca (by simp)
  obtain ⟨W1, hW1⟩ : ∃ W, w.alloc (.cells #[.int .i64 m.log, .bool m.one, .slice ao m.cs.length cap] 26) = W := ⟨_, rfl⟩
  rw [hW1] at hca hmb hll hbl
  obtain ⟨b0, b1, b2⟩ := hmb.cells
  obtain ⟨N, hN⟩ : ∃ N, xs.length = N := ⟨_, rfl⟩
  have HW1 := Lib.hid hW1; have HCA := Lib.hid hca; have HMB := Lib.hid hmb; have HLL := Lib.hid hll; have HBL := Lib.hid hbl; have H1 := Lib.hid h1; have HB := Lib.hid hb; have HX := Lib.hid hx; have HF := Lib.hid hf; have HN := Lib.hid hN
  have hNI : (N : Int) < 1000000 := by omega
  have hN0 : (0 : Int) ≤ (N : Int) := by omega
  unfold mdv
  by_cases hlen : 131072 < N
  · have hno : ¬ lnOk m xs := fun hh => by have := hh.2; omega
    have HNO := Lib.hid hno
    rw [hN]
    clear hno hca hmb hll hbl h1 hb hx hf hN hW1
    have hlI : (131072 : Int) < (N : Int) := by omega
    go_enter Tryz.func12, Tryz.ntmps12
    go_upto_region 1 with fail
    rw [HW1.out]
    go_wp2
    go_ret2
    exact ⟨fun _ => rfl, fun hh => absurd hh HNO.out, HCA.out⟩
  · have hlI : (N : Int) ≤ 131072 := by omega
    have hdec : decide ((131072 : Int) < (N : Int)) = false := decide_eq_false (by omega)
    have hfe := HFITS.out W1 ⟨_, rfl, hll⟩ hbl
    rw [hN] at hfe ⊢
    unfold mdv at hfe
    have HFE := Lib.hid hfe
    by_cases hfit : m.fits xs
    · have hok : lnOk m xs := ⟨hfit, by omega⟩
      have HOK := Lib.hid hok
      rw [decide_eq_true hfit] at HFE
      have hmf : ∀ (fn : Fn) (first cap : Array Value) (w : World), (Instr.makeFunc fn first cap).run Tryz.prog w = .ok (.func fn first cap) w := fun _ _ _ _ => rfl
      obtain ⟨-, hR2, hR3⟩ := RM_le hfit.1
      have HR2 := Lib.hid hR2; have HR3 := Lib.hid hR3
      clear hok hca hmb hll hbl h1 hb hx hf hN hW1 hfe hfit hR2 hR3
      go_enter Tryz.func12, Tryz.ntmps12
      go_upto_region 1 with fail
      rw [HW1.out]
      go_wp2_with fail
      refine HFE.out.mono ?_
      rintro e W2 ⟨rfl, hc2⟩
      have mb2 := HMB.out.kept hc2 (by simp)
      have C2 := Lib.hid hc2; have MB2 := Lib.hid mb2
      clear hc2 HFE b0 b1 b2 mb2
      go_upto_region 4 with (go_at_call 34; refine (new_wr W2).mono ?_; rintro e W3 ⟨rfl, hw3, hc3⟩)
      obtain ⟨b0, b1, b2⟩ := (MB2.out.kept hc3 (by simp)).cells
      have HW3 := Lib.hid hw3; have C3 := Lib.hid (C2.out.trans hc3 fun _ _ h => h)
      obtain ⟨b, hb⟩ : ∃ b, W2.heap.size = b := ⟨_, rfl⟩
      have HBE := Lib.hid hb
      rw [hb] at hw3 ⊢
      clear hw3 hc3 hb
      obtain ⟨Z, hZ, hzero⟩ := zeroLsT
      have HZ := Lib.hid hZ
      clear hZ
      go_upto_region 5 with (first
        | (refine wpList_listsT rfl _ rfl _ _ _ rfl ?_)
        | (refine wpList_store_row rfl 74 _ _ rfl W3.heap.size _ rfl rfl _ _ (heap_alloc_new W3 (.cells Z 74)) (by rw [lsZ_size]; exact infoLsT) (by rw [lsZ_size]; exact HZ.out) (lsZ_one _ rfl rfl rfl rfl) ?_))
      simp only [Act.put]
      rw [World.setRow_alloc_new]
      obtain ⟨W4, hW4⟩ : ∃ V, W3.alloc (.cells (lsZ 35 (.int .i64 m.log) (.bool m.one) (.slice ao m.cs.length cap) (.pointer none)) 74) = V := ⟨_, rfl⟩
      rw [hW4]
      have hc4 : Chg (fun _ => False) W3 W4 := hW4 ▸ Chg.alloc _ W3 _
      have hwl := HW3.out.lt
      have hls : LsT W1 W3.heap.size m (.slice ao m.cs.length cap) W4 (fun k => k = b) := LsJ.new C3.out hW4.symm (fun k hk => by
        subst hk
        have := C2.out.size
        rw [HBE.out] at hwl
        exact ⟨by rw [← HBE.out]; exact this, hwl.1⟩)
      have hw4 : Wr W4 b none [] := by
        have := HW3.out
        rw [HBE.out] at this
        exact this.kept hc4 (by simp) (by simp)
      have hbw : W1.heap.size ≤ b := by have := C2.out.size; have := HBE.out; omega
      have hbk := lback_any W1 W3.heap.size b m (.slice ao m.cs.length cap) ab N capb xs W4.drew (hls.still (AtT.kept m) ((Chg.refl (fun _ => False) W4).drew)) HLL.out (hw4.kept ((Chg.refl (fun _ => False) W4).drew) (by simp) (by simp)) (by have := HBL.out; rw [HN.out] at this; exact this) HX.out (by rw [HN.out]; omega) HOK.out.1
      have HBK := Lib.hid hbk; have HBW := Lib.hid hbw
      obtain ⟨d0, -, -⟩ := (HMB.out.kept (C3.out.trans hc4 fun _ _ h => h) (by simp)).cells
      clear hc4 hwl hls hw4 hbk hbw hW4 hzero b0 b1 b2
      go_region_held3 (fun V => V.cell? ⟨w.heap.size, 0, none⟩ = some (.int .i64 m.log)) (first | exact d0 | exact q0 | exact r0) (first
        | (go_at_call 37; refine HBK.out.mono ?_; rintro e W5 ⟨x0, x1, rfl, bs, o, hw5, henc, hc5⟩; obtain ⟨q0, -, -⟩ := (HMB.out.kept hc5 (by simp)).cells; have hps := lputst_any b o bs (RM m) x0 x1 W5 hw5 (Nat.lt_of_le_of_lt henc.2.1 (Nat.lt_of_le_of_lt (Nat.mul_le_mul (show xs.length ≤ 131072 from HOK.out.2) HR2.out) (by decide))) HR2.out henc.2.2.1 henc.2.2.2; rw [HR3.out] at hps; have HPS := Lib.hid hps; have HENC := Lib.hid henc; have C5 := Lib.hid hc5; have HO5 := Lib.hid hw5.lt.2; clear hps henc hc5 hw5)
        | (go_at_call 36; refine HPS.out.mono ?_; rintro e W6 ⟨⟨v6, rfl⟩, o6, hw6, hc6⟩; have hc16 : Chg (fun _ => False) W1 W6 := C5.out.trans hc6 (fun q hq hh => by (rcases hh with hh | hh); (have := HBW.out; omega); (have := HBW.out; have := (HO5.out q hh.symm).1; omega)); obtain ⟨r0, -, -⟩ := (HMB.out.kept hc16 (by simp)).cells; have HW6 := Lib.hid hw6; have C16 := Lib.hid hc16; clear hw6 hc6 hc16))
      go_wp2
      go_ret2
      exact ⟨fun hh => absurd HOK.out hh, fun _ => ⟨b, o6, rfl, by rw [encS_pay HENC.out]; exact HW6.out⟩, HCA.out.trans C16.out fun _ _ h => h⟩
    · have hno : ¬ lnOk m xs := fun hh => hfit hh.1
      rw [decide_eq_false hfit] at HFE
      have HNO := Lib.hid hno
      clear hno hca hmb hll hbl h1 hb hx hf hN hW1 hfe hfit
      go_enter Tryz.func12, Tryz.ntmps12
      go_upto_region 1 with fail
      rw [HW1.out]
      go_wp2_with fail
      refine HFE.out.mono ?_
      rintro e W2 ⟨rfl, hc2⟩
      have C2 := Lib.hid hc2
      clear hc2 HFE
      go_wp2
      go_ret2
      exact ⟨fun _ => rfl, fun hh => absurd hh HNO.out, HCA.out.trans C2.out fun _ _ h => h⟩

end Go.Proofs.YtokeoebhmjefoaaGreat

/- What lanes' Encode and Bits tell. THIS SPEAKS OF THE PROGRAM'S OWN TEXT. -/
namespace Go.Proofs.YtokeoebhmjefoaaGreat
open Go.RowKit

theorem lnown_room {w : World} {base : Nat} {v : Value} {n : Nat} {xs : List Value} (h : w.ownsRow base 5 1 v n xs) : RoomOk v := by
  rcases h.2 with ⟨rfl, _⟩ | ⟨g, cap, cur, rfl, _, _, hc, _⟩
  · exact RoomOk.of (Nat.le_refl _)
  · exact RoomOk.of hc
theorem lnpay_len {m : Md} {xs : List Nat} (h : lnOk m xs) (hx : ∀ x ∈ xs, x < 256) : (payL m xs).length < 900000000 := by
  have h1 := (payL_bounds h.1 hx).2
  have h2 := (RM_le h.1.1).2.1
  have h3 : xs.length * RM m ≤ 131072 * 12 := Nat.mul_le_mul h.2 h2
  omega

set_option maxRecDepth 100000 in
set_option maxHeartbeats 1000000 in
theorem lencode_any (v u : Value) (m : Md) (xs : List Nat) (w : World) (h : RdM w v m) (hf : m.fit64) (hb : RdB w u xs) (hx : ∀ x ∈ xs, x < 256) (hl : xs.length < 1000000) :
    Calls Tryz.prog 7 #[v, u] w fun e w' => ∃ p, e = .returned (.tuple #[p, .int .i64 (lnErr m xs)]) ∧ RdB w' p (lnEnc m xs) ∧ RoomOk p ∧ Chg (fun _ => False) w w' := by
  have HWR := Lib.hid fun W (hW : RdM W v m) (hB : RdB W u xs) => lwritten_any v u m xs W hW hf hB hx hl
  have HX := Lib.hid hx
  obtain ⟨cv, rfl, h1⟩ := h
  obtain ⟨ao, cap, rfl⟩ := h1.form
  obtain ⟨ab, capb, rfl⟩ := hb.form
  have hca := Chg.alloc (fun _ => False) w (.cells #[.int .i64 m.log, .bool m.one, .slice ao m.cs.length cap] 26)
  have hmb : Mb _ _ m.log m.one (.slice ao m.cs.length cap) := heap_alloc_new w (.cells #[.int .i64 m.log, .bool m.one, .slice ao m.cs.length cap] 26)
  have hwe := HWR.out _ ⟨_, rfl, h1.kept hca⟩ (hb.kept hca (by simp))
  obtain ⟨W1, hW1⟩ : ∃ W, w.alloc (.cells #[.int .i64 m.log, .bool m.one, .slice ao m.cs.length cap] 26) = W := ⟨_, rfl⟩
  rw [hW1] at hca hmb hwe
  obtain ⟨b0, b1, b2⟩ := hmb.cells
  unfold mdv at hwe ⊢
  have HW1 := Lib.hid hW1; have HWE := Lib.hid hwe; have HCA := Lib.hid hca
  clear hW1 hwe hca hmb h1 hb hf hl HWR hx
  by_cases hok : lnOk m xs
  · have HOK := Lib.hid hok
    rw [show lnErr m xs = 0 by unfold lnErr; rw [if_pos hok], show lnEnc m xs = pack (payL m xs ++ [true]) by unfold lnEnc; rw [if_pos hok]]
    clear hok
    go_enter Tryz.func7, Tryz.ntmps7
    go_upto_region 1 with fail
    rw [HW1.out]
    go_wp2_with fail
    refine HWE.out.mono ?_
    rintro e W2 ⟨-, h2, c2⟩
    obtain ⟨b, o, rfl, hw2⟩ := h2 HOK.out
    have HCL := Lib.hid (close_any b o (payL m xs) W2 hw2 (Nat.lt_trans (lnpay_len HOK.out HX.out) (by decide)))
    have C2 := Lib.hid (HCA.out.trans c2 fun _ _ h => h)
    clear h2 c2 hw2 HWE b0 b1 b2
    go_wp2_with fail
    refine HCL.out.mono ?_
    rintro e W3 ⟨g, cap3, rfl, hown, c3⟩
    have HOWN := Lib.hid hown; have C3 := Lib.hid (C2.out.trans c3 fun _ _ h => h)
    clear hown c3 HCL
    go_wp2
    go_ret2
    exact ⟨_, rfl, RdB.of_own HOWN.out, lnown_room HOWN.out, C3.out⟩
  · have HOK := Lib.hid hok
    rw [show lnErr m xs = 1 by unfold lnErr; rw [if_neg hok], show lnEnc m xs = [] by unfold lnEnc; rw [if_neg hok]]
    clear hok
    go_enter Tryz.func7, Tryz.ntmps7
    go_upto_region 1 with fail
    rw [HW1.out]
    go_wp2_with fail
    refine HWE.out.mono ?_
    rintro e W2 ⟨h2, -, c2⟩
    obtain rfl := h2 HOK.out
    have C2 := Lib.hid (HCA.out.trans c2 fun _ _ h => h)
    clear h2 c2 HWE b0 b1 b2
    go_wp2
    go_ret2
    exact ⟨_, rfl, .inl ⟨rfl, none, 0, rfl⟩, .of (Nat.le_refl _), C2.out⟩

set_option maxRecDepth 100000 in
set_option maxHeartbeats 1000000 in
theorem lbits_any (v u : Value) (m : Md) (xs : List Nat) (w : World) (h : RdM w v m) (hf : m.fit64) (hb : RdB w u xs) (hx : ∀ x ∈ xs, x < 256) (hl : xs.length < 1000000) :
    Calls Tryz.prog 6 #[v, u] w fun e w' => e = .returned (.int .i64 ((lnBits m xs : Nat) : Int)) ∧ Chg (fun _ => False) w w' := by
  have HWR := Lib.hid fun W (hW : RdM W v m) (hB : RdB W u xs) => lwritten_any v u m xs W hW hf hB hx hl
  obtain ⟨cv, rfl, h1⟩ := h
  obtain ⟨ao, cap, rfl⟩ := h1.form
  obtain ⟨ab, capb, rfl⟩ := hb.form
  have hca := Chg.alloc (fun _ => False) w (.cells #[.int .i64 m.log, .bool m.one, .slice ao m.cs.length cap] 26)
  have hmb : Mb _ _ m.log m.one (.slice ao m.cs.length cap) := heap_alloc_new w (.cells #[.int .i64 m.log, .bool m.one, .slice ao m.cs.length cap] 26)
  have hwe := HWR.out _ ⟨_, rfl, h1.kept hca⟩ (hb.kept hca (by simp))
  obtain ⟨W1, hW1⟩ : ∃ W, w.alloc (.cells #[.int .i64 m.log, .bool m.one, .slice ao m.cs.length cap] 26) = W := ⟨_, rfl⟩
  rw [hW1] at hca hmb hwe
  obtain ⟨b0, b1, b2⟩ := hmb.cells
  unfold mdv at hwe ⊢
  have HW1 := Lib.hid hW1; have HWE := Lib.hid hwe; have HCA := Lib.hid hca
  clear hW1 hwe hca hmb h1 hb hf hl HWR hx
  by_cases hok : lnOk m xs
  · have HOK := Lib.hid hok
    rw [show lnBits m xs = (payL m xs).length by unfold lnBits; rw [if_pos hok]]
    clear hok
    go_enter Tryz.func6, Tryz.ntmps6
    go_upto_region 1 with fail
    rw [HW1.out]
    go_wp2_with fail
    refine HWE.out.mono ?_
    rintro e W2 ⟨-, h2, c2⟩
    obtain ⟨b, o, rfl, hw2⟩ := h2 HOK.out
    have HBI := Lib.hid (bits_any b o (payL m xs) W2 hw2)
    have C2 := Lib.hid (HCA.out.trans c2 fun _ _ h => h)
    clear h2 c2 hw2 HWE b0 b1 b2
    go_wp2_with fail
    refine HBI.out.mono ?_
    rintro e W3 ⟨rfl, rfl⟩
    clear HBI
    go_wp2
    go_ret
    exact ⟨rfl, C2.out⟩
  · have HOK := Lib.hid hok
    rw [show lnBits m xs = 0 by unfold lnBits; rw [if_neg hok]]
    clear hok
    go_enter Tryz.func6, Tryz.ntmps6
    go_upto_region 1 with fail
    rw [HW1.out]
    go_wp2_with fail
    refine HWE.out.mono ?_
    rintro e W2 ⟨h2, -, c2⟩
    obtain rfl := h2 HOK.out
    have C2 := Lib.hid (HCA.out.trans c2 fun _ _ h => h)
    clear h2 c2 HWE b0 b1 b2
    go_wp2
    go_ret
    exact ⟨rfl, C2.out⟩

end Go.Proofs.YtokeoebhmjefoaaGreat

/- The memory of forth's loop: the states, the bytes told, the Reader, what is built. THIS SPEAKS OF THE PROGRAM'S OWN TEXT. -/
namespace Go.Proofs.YtokeoebhmjefoaaGreat
open Go.RowKit

theorem Tryz.entersOfC (args : Array Value) (w : World) : (callFunc 25 args).run Tryz.prog w = .ok (.enter 25 args) w := by kernel_rfl
theorem lofC_any (w : World) (G : Nat) (m : Md) (cv : Value) (W : World) (X : Nat → Prop) (c : Nat) (h : LsC w G m cv W X) (hl : RdLL w cv m.cs) (hr : m.right) (hc : c < 256) :
    Calls Tryz.prog 25 #[.pointer (some ⟨G, 0, none⟩), .int .i64 (c : Int)] W fun e W' => ∃ v, e = .returned v ∧ ∃ l, RdC W' v l ∧ CelsOf m c l ∧ LsC w G m cv W' X ∧ Chg (fun k => k = G) W W' := by
  rcases Bool.eq_false_or_eq_true m.one with ho | ho
  · exact lofC_one w G m cv W X c h hl hr ho hc
  · exact lofC_each w G m cv W X c h hl hr ho hc

/-- which blocks turn in the loop -/
def FoX (A rb : Nat) (q : Nat) : Prop := q = rb ∨ (A ≤ q ∧ q < A + 2)
structure FoS (w : World) (G A rb rg : Nat) (m : Md) (cv : Value) (V : World) (L : List Nat) (x0 x1 : Nat) (bs : List Bool) : Prop where
  st : Stt V A x0 x1
  out : RowB V (A + 1) 5 L
  rd : Rr V rb rg bs
  ls : LsC w G m cv V (FoX A rb)
  gA : G < A
  rA : rb < A
  sA : rg < A
  sG : rg ≠ G
theorem FoS.size {w : World} {G A rb rg : Nat} {m : Md} {cv : Value} {V : World} {L : List Nat} {x0 x1 : Nat} {bs : List Bool} (h : FoS w G A rb rg m cv V L x0 x1 bs) : A + 1 < V.heap.size := h.out.lt
theorem FoS.rG {w : World} {G A rb rg : Nat} {m : Md} {cv : Value} {V : World} {L : List Nat} {x0 x1 : Nat} {bs : List Bool} (h : FoS w G A rb rg m cv V L x0 x1 bs) : rb ≠ G := (h.ls.lt rb (.inl rfl)).2.2
theorem FoS.turn {w : World} {G A rb rg : Nat} {m : Md} {cv : Value} {V V' : World} {L : List Nat} {x0 x1 : Nat} {bs : List Bool} (h : FoS w G A rb rg m cv V L x0 x1 bs) (hls : LsC w G m cv V' (FoX A rb)) (hc : Chg (fun q => q = G) V V') : FoS w G A rb rg m cv V' L x0 x1 bs :=
  ⟨h.st.kept hc (by have := h.gA; omega), h.out.kept hc (by have := h.gA; omega), h.rd.kept hc h.rG h.sG, hls, h.gA, h.rA, h.sA, h.sG⟩
theorem FoS.still {w : World} {G A rb rg : Nat} {m : Md} {cv : Value} {V V' : World} {L : List Nat} {x0 x1 : Nat} {bs : List Bool} (h : FoS w G A rb rg m cv V L x0 x1 bs) (hc : Chg (fun _ => False) V V') : FoS w G A rb rg m cv V' L x0 x1 bs :=
  h.turn (h.ls.still (AtC.kept m) hc) (hc.mono fun _ _ h => h.elim)
theorem FoS.take {w : World} {G A rb rg : Nat} {m : Md} {cv : Value} {V V' : World} {L : List Nat} {x0 x1 : Nat} {bs bs' : List Bool} (h : FoS w G A rb rg m cv V L x0 x1 bs) (hr : Rr V' rb rg bs') (hc : Chg (fun q => q = rb) V V') : FoS w G A rb rg m cv V' L x0 x1 bs' :=
  ⟨h.st.kept hc (by have := h.rA; omega), h.out.kept hc (by have := h.rA; omega), hr, h.ls.kept (AtC.kept m) (hc.mono fun _ _ h => .inl h) fun q hq => ⟨Nat.lt_of_lt_of_le (h.ls.lt q hq).2.1 hc.size, .inl hq⟩, h.gA, h.rA, h.sA, h.sG⟩
theorem FoS.put {w : World} {G A rb rg : Nat} {m : Md} {cv : Value} {V : World} {L : List Nat} {x0 x1 : Nat} {bs : List Bool} (h : FoS w G A rb rg m cv V L x0 x1 bs) (k s y : Nat) :
    FoS w G A rb rg m cv ((V.setCell ⟨A + 1, k, none⟩ (.int .u8 (s : Int))).setCell ⟨A, k % 2, none⟩ (.int .i64 (y : Int))) (L.set k s) (setLane k (x0, x1) y).1 (setLane k (x0, x1) y).2 bs := by
  have c1 := Chg.setCell V ⟨A + 1, k, none⟩ (.int .u8 (s : Int))
  have c2 := Chg.setCell (V.setCell ⟨A + 1, k, none⟩ (.int .u8 (s : Int))) ⟨A, k % 2, none⟩ (.int .i64 (y : Int))
  have hr := h.rA
  have hs := h.sA
  have c12 : Chg (FoX A rb) V ((V.setCell ⟨A + 1, k, none⟩ (.int .u8 (s : Int))).setCell ⟨A, k % 2, none⟩ (.int .i64 (y : Int))) := (c1.mono (T := FoX A rb) fun q _ hq => .inr (by simp only [] at hq; omega)).trans c2 fun q _ hq => .inr (by simp only [] at hq; omega)
  have hno : ∀ q, q < A → q ≠ rb → ¬ FoX A rb q := fun q h1 h2 hq => by
    rcases hq with hq | hq
    · exact h2 hq
    · omega
  have hrA : ¬ (fun q => q = A + 1) rb := by simp only []; omega
  refine ⟨(h.st.kept c1 (by simp)).set k y, (h.out.set k s).kept c2 (by simp), (h.rd.kept c1 (by simp only []; omega) (by simp only []; omega)).kept c2 (by simp only []; omega) (by simp only []; omega), h.ls.kept (AtC.kept m) c12 fun q hq => ⟨Nat.lt_of_lt_of_le (h.ls.lt q hq).2.1 c12.size, .inl hq⟩, h.gA, h.rA, h.sA, h.sG⟩

end Go.Proofs.YtokeoebhmjefoaaGreat

/- The example of chapters 10 to 12: counts 5, 2, 1. -/
namespace Go.Proofs.YtokeoebhmjefoaaGreat
open Go.RowKit

def exS : List Int := ((List.replicate 256 0).set 0 5).set 1 2 |>.set 2 1
theorem exS_len : exS.length = 256 := by decide +kernel
theorem exS_bnd : ∀ z ∈ exS, -9223372036854775808 ≤ z ∧ z ≤ 9223372036854775807 := by decide +kernel
theorem exS_log : logI (totalI exS) = 3 := by decide +kernel
theorem exS_spread : IsSpread (fq exS) 256 [0, 1, 2, 0, 0, 1, 0, 0] := by
  refine ⟨by decide +kernel, ?_⟩
  have h : ∀ s, s < 256 → ∀ d, d < fq exS s → ([0, 1, 2, 0, 0, 1, 0, 0] : List Nat).getD (placeF (fq exS) 256 s (fq exS s + d)) 0 = s := by decide +kernel
  exact fun s d hs hd => h s hs d hd

end Go.Proofs.YtokeoebhmjefoaaGreat

/- What puncheonlaw11.awake tells: the chapter's example holds. -/
namespace Go.Proofs.YtokeoebhmjefoaaGreat
open Go.RowKit

theorem exS_sum : sumTo (fq exS) 256 = 2 ^ 3 := by decide +kernel
theorem exS_five {l : List Cl} (h : IsDtab (fq exS) 3 l) : l.getD 5 cl0 = ⟨1, 2, 4⟩ := by
  have h1 := h.at' 1 1 (by decide) (by decide +kernel)
  rw [show placeF (fq exS) 256 1 (fq exS 1 + 1) = 5 by decide +kernel, show cellOf 3 1 (fq exS 1 + 1) = ⟨1, 2, 4⟩ by decide +kernel] at h1
  exact h1

/-- cells of a table lie within their kinds -/
theorem IsDtab.bounds {f : Nat → Nat} {R : Nat} {l : List Cl} (h : IsDtab f R l) (hs : sumTo f 256 = 2 ^ R) (h2 : R ≤ 12) {a : Nat} (ha : a < 2 ^ R) :
    (l.getD a cl0).Sym < 256 ∧ 0 ≤ (l.getD a cl0).Bits ∧ (l.getD a cl0).Bits ≤ (R : Int) ∧ 0 ≤ (l.getD a cl0).Base ∧ (l.getD a cl0).Base + ((2 ^ (l.getD a cl0).Bits.toNat : Nat) : Int) ≤ ((2 ^ R : Nat) : Int) := by
  obtain ⟨s, d, hs1, hd, hpl, he⟩ := h.is hs ha
  rw [he]
  have hb := cell_bounds (R := R) (q := f s) (s := s) (i := f s + d) (by omega) (f_le hs hs1) (by omega) (by omega)
  have e : (cellOf R s (f s + d)).Bits = ((bitsN R (f s + d) : Nat) : Int) := rfl
  rw [e, Int.toNat_natCast]
  have : bitsN R (f s + d) ≤ R := by unfold bitsN; omega
  exact ⟨hs1, by omega, by omega, hb.1, hb.2⟩
theorem IsDtab.fits {f : Nat → Nat} {R : Nat} {l : List Cl} (h : IsDtab f R l) (hs : sumTo f 256 = 2 ^ R) (h2 : R ≤ 12) : ∀ c ∈ l, c.fits := by
  intro c hc
  obtain ⟨a, ha, rfl⟩ := List.mem_iff_getElem.1 hc
  have hb := h.bounds hs h2 (a := a) (by rw [← h.len]; exact ha)
  have hp := pow12 h2
  rw [List.getD_eq_getElem?_getD, List.getElem?_eq_getElem ha] at hb
  simp only [Option.getD_some] at hb
  have hq := Nat.two_pow_pos l[a].Bits.toNat
  exact ⟨hb.1, by omega, by omega⟩
theorem IsDtab.baseOk {f : Nat → Nat} {R : Nat} {l : List Cl} (h : IsDtab f R l) (hs : sumTo f 256 = 2 ^ R) (h2 : R ≤ 12) (x : Int) : baseOk l x := by
  intro h0 h1
  have hb := h.bounds hs h2 (a := x.toNat) (by rw [← h.len]; omega)
  have hp := pow12 h2
  have hq := Nat.two_pow_pos (l.getD x.toNat cl0).Bits.toNat
  omega

end Go.Proofs.YtokeoebhmjefoaaGreat

/- What forth tells: what is decoded of a Reader's bits. THIS SPEAKS OF THE PROGRAM'S OWN TEXT. -/
namespace Go.Proofs.YtokeoebhmjefoaaGreat
open Go.RowKit

/-- bytes, or an error and none -/
def ForSays (res : Except Nat (List Nat)) (w : World) (e : Ending) (w' : World) : Prop :=
  ∃ y, e = .returned (.tuple #[y, .int .i64 ((errOf res : Nat) : Int)]) ∧ RdB w' y (outOf res) ∧ Chg (fun _ => False) w w'
theorem forSays_err {res : Except Nat (List Nat)} {w w' : World} {k : Nat} {z : Int} (h : res = .error k) (hz : z = (k : Int)) (hc : Chg (fun _ => False) w w') : ForSays res w (.returned (.tuple #[.slice none 0 0, .int .i64 z])) w' :=
  ⟨_, by rw [h, hz]; rfl, by rw [h]; exact .inl ⟨rfl, none, 0, rfl⟩, hc⟩
theorem set_zeros {o : List Nat} {K k : Nat} (s : Nat) (ho : o.length = k) (hk : k < K) : (o ++ List.replicate (K - k) 0).set k s = (o ++ [s]) ++ List.replicate (K - (k + 1)) 0 := by
  rw [List.set_append_right _ _ (by omega), ho, Nat.sub_self, show K - k = (K - (k + 1)) + 1 by omega, List.replicate_succ, List.set_cons_zero, List.append_assoc]; rfl
theorem decP_zero (m : Md) (K : Nat) (bs : List Bool) {x0 x1 : Nat} (h0 : x0 < 2 ^ RM m) (h1 : x1 < 2 ^ RM m) : DecP m K bs (x0, x1) 0 0 bs [] x0 x1 :=
  ⟨by omega, h0, h1, rfl, fun y hy => (by cases hy), by rw [preO_nil, Nat.sub_zero]⟩
theorem decP_none {m : Md} {K : Nat} {bs0 : List Bool} {st0 : Nat × Nat} {k last : Nat} {bs : List Bool} {o : List Nat} {x0 x1 : Nat} (h : DecP m K bs0 st0 k last bs o x0 x1) (hk : k < K) (hn : m.atL (last : Int) = []) : finD (decG (tabM m) K 0 0 bs0 st0) = .error 13 := by
  rw [h.rest, show K - k = (K - (k + 1)) + 1 by omega, decG_none (tabM_none hn)]
  rfl

theorem eqSt0 (W : World) : (Op.equalIn 10000 51 (.agg #[.int .i64 0, .int .i64 0]) (.agg #[.int .i64 0, .int .i64 0])).run Tryz.prog W = .ok true W := by kernel_rfl
theorem eqStA (n : Nat) (b : Int) (W : World) : (Op.equalIn 10000 51 (.agg #[.int .i64 ((n + 1 : Nat) : Int), .int .i64 b]) (.agg #[.int .i64 0, .int .i64 0])).run Tryz.prog W = .ok false W := by kernel_rfl
theorem eqStB (n : Nat) (W : World) : (Op.equalIn 10000 51 (.agg #[.int .i64 0, .int .i64 ((n + 1 : Nat) : Int)]) (.agg #[.int .i64 0, .int .i64 0])).run Tryz.prog W = .ok false W := by kernel_rfl
theorem eqSt_no {a b : Nat} (h : ¬ (a = 0 ∧ b = 0)) (W : World) : (Op.equalIn 10000 51 (.agg #[.int .i64 (a : Int), .int .i64 (b : Int)]) (.agg #[.int .i64 0, .int .i64 0])).run Tryz.prog W = .ok false W := by
  cases a with
  | succ n => exact eqStA n _ W
  | zero =>
    cases b with
    | zero => exact absurd ⟨rfl, rfl⟩ h
    | succ n => exact eqStB n W
theorem rdc_apart {V : World} {rb rg g off n cap j : Nat} {l : List Cl} {bs : List Bool} (h : RdC V (.slice (some ⟨g, off, none⟩) n cap) l) (hj : j < l.length) (hr : Rr V rb rg bs) : g ≠ rb := by
  intro he
  subst he
  obtain ⟨h1, -, -⟩ := h.at' j hj
  obtain ⟨xs, -, -, -, -, hb, -⟩ := hr
  rw [cell_of_row V _ _ _ _ _ hb] at h1
  rcases (show off + j * 3 = 0 ∨ off + j * 3 = 1 ∨ 2 ≤ off + j * 3 by omega) with h2 | h2 | h2
  · rw [h2] at h1; simp at h1
  · rw [h2] at h1; simp at h1
  · rw [Array.getElem?_eq_none (by simpa using h2)] at h1; cases h1

set_option maxRecDepth 100000 in
set_option maxHeartbeats 8000000 in
theorem lforth_any (w : World) (G rb rg : Nat) (m : Md) (cv : Value) (K : Nat) (bs0 : List Bool) (y0 y1 : Nat) (W : World) (h : LsC w G m cv W (fun k => k = rb)) (hl : RdLL w cv m.cs) (hrd : Rr W rb rg bs0) (hsG : rg ≠ G) (hr : m.right) (hK : K ≤ 131072) (hy0 : y0 < 2 ^ RM m) (hy1 : y1 < 2 ^ RM m) :
    Calls Tryz.prog 24 #[.pointer (some ⟨rb, 0, none⟩), .agg #[.int .i64 (y0 : Int), .int .i64 (y1 : Int)], .int .i64 (K : Int), .func (.func 25) #[.pointer (some ⟨G, 0, none⟩)] #[]] W fun e W' => ForSays (finD (decG (tabM m) K 0 0 bs0 (y0, y1))) w e W' := by
  have hent := Tryz.entersOfC
  obtain ⟨res, hres⟩ : ∃ res, finD (decG (tabM m) K 0 0 bs0 (y0, y1)) = res := ⟨_, rfl⟩
  rw [hres]
  have HRES := Lib.hid hres
  have ca := Chg.alloc (fun _ => False) W (.cells #[.int .i64 (y0 : Int), .int .i64 (y1 : Int)] 51)
  have hst : Stt (W.alloc (.cells #[.int .i64 (y0 : Int), .int .i64 (y1 : Int)] 51)) W.heap.size y0 y1 := heap_alloc_new W _
  have hsz : (W.alloc (.cells #[.int .i64 (y0 : Int), .int .i64 (y1 : Int)] 51)).heap.size = W.heap.size + 1 := by simp
  obtain ⟨W1, hW1⟩ : ∃ V, W.alloc (.cells #[.int .i64 (y0 : Int), .int .i64 (y1 : Int)] 51) = V := ⟨_, rfl⟩
  rw [hW1] at ca hst hsz
  obtain ⟨A, hA⟩ : ∃ A, W.heap.size = A := ⟨_, rfl⟩
  rw [hA] at hst hsz
  have HW1 := Lib.hid hW1; have HA := Lib.hid hA; have CA := Lib.hid ca; have HST := Lib.hid hst; have HSZ := Lib.hid hsz; have H := Lib.hid h; have HL := Lib.hid hl; have HRD := Lib.hid hrd; have HSG := Lib.hid hsG; have HR := Lib.hid hr; have HY := Lib.hid (And.intro hy0 hy1)
  have hKI : (K : Int) ≤ 131072 := by omega
  have hK0 : (0 : Int) ≤ (K : Int) := by omega
  clear hW1 hA ca hst hsz h hl hrd hsG hr hy0 hy1 hres
  go_enter Tryz.func24, Tryz.ntmps24
  go_upto_region 1 with fail
  rw [HW1.out, HA.out]
  go_wp2_with (at_make; refine wpList_make_bytes rfl (.tmp 16) (.tmp 16) rfl _ _ K rfl rfl rfl rfl (by omega) _ rfl ?_)
  intro W2 hrow c2
  rw [HSZ.out] at hrow ⊢
  have hinit : FoS w G A rb rg m cv W2 (List.replicate K 0) y0 y1 bs0 := by
    have hi := H.out.lt rb rfl
    have hin := H.out.inn
    have hlt := HRD.out.lt
    have hA := HA.out
    have c02 := CA.out.trans c2 fun _ _ h => h
    exact ⟨HST.out.kept c2 (by simp), hrow, HRD.out.kept c02 (by simp) (by simp), H.out.kept (AtC.kept m) (c02.mono fun _ _ h => h.elim) (fun q hq => by
      have := hrow.lt
      rcases hq with rfl | hq
      · exact ⟨by omega, .inl rfl⟩
      · exact ⟨by omega, .inr (by omega)⟩), by omega, by omega, by omega, HSG.out⟩
  have HI := Lib.hid hinit
  clear hrow c2 hinit HST CA HSZ H HRD HSG
  go_wp2
  go_loopw [20] (fun o20 wr => ∃ (k last x0 x1 : Nat) (o : List Nat) (bs : List Bool), k ≤ K ∧ o20 = .int .i64 (k : Int) ∧ FoS w G A rb rg m cv wr (o ++ List.replicate (K - k) 0) x0 x1 bs ∧ DecP m K bs0 (y0, y1) k last bs o x0 x1 ∧ (k < K → (0 :: (o ++ List.replicate (K - k) 0)).getD k 0 = last)) (fun o20 _ => K - (intOf o20).toNat)
  case atStart => exact ⟨0, 0, y0, y1, [], bs0, Nat.zero_le _, rfl, HI.out, decP_zero m K bs0 HY.out.1 HY.out.2, fun _ => rfl⟩
  case round =>
    clear HI HY
    obtain ⟨k, last, x0, x1, o, bs, hk, rfl, hs, hd, hlast⟩ := hrel
    have HS := Lib.hid hs; have HD := Lib.hid hd
    by_cases hkK : k < K
    · have hkI : (k : Int) < (K : Int) := by omega
      have hk0 : (0 : Int) ≤ (k : Int) := by omega
      have hlen : (o ++ List.replicate (K - k) 0).length = K := by rw [List.length_append, List.length_replicate, hd.len]; omega
      have hbnd : ∀ y ∈ o ++ List.replicate (K - k) 0, y < 256 := fun y hy => by
        rcases List.mem_append.1 hy with h1 | h1
        · exact hd.sym y h1
        · rw [(List.mem_replicate.1 h1).2]; omega
      have hxat := xat_any (.slice (some ⟨A + 1, 0, none⟩) (o ++ List.replicate (K - k) 0).length K) (o ++ List.replicate (K - k) 0) (k : Int) wr (hs.out.rd K) hbnd (by omega) (by omega)
      rw [atI_nat _ k (by omega), hlast hkK, hlen] at hxat
      have HXAT := Lib.hid hxat; have HKK := Lib.hid hkK; have HLEN := Lib.hid hlen
      have hlastI : (last : Int) < 256 := by have := hd.lastLt; omega
      clear hxat hlast hs hd hkK hlen hbnd hk
      go_wp2_with fail
      refine HXAT.out.mono ?_
      rintro e U1 ⟨rfl, mm, rfl⟩
      have cu1 : Chg (fun _ => False) wr (wr.drewN mm) := (Chg.refl (fun _ => False) wr).drewN mm
      obtain ⟨U1, hU1⟩ : ∃ U, wr.drewN mm = U := ⟨_, rfl⟩
      rw [hU1] at cu1 ⊢
      have hs1 := HS.out.still cu1
      have HOF := Lib.hid (lofC_any w G m cv U1 _ last hs1.ls HL.out HR.out HD.out.lastLt)
      have HS1 := Lib.hid hs1
      clear cu1 hU1 hs1 HXAT HS
      go_wp2_with fail
      refine HOF.out.mono ?_
      rintro e V2 ⟨v, rfl, l, hrd, hcel, hls, c2⟩
      have hs2 := HS1.out.turn hls c2
      obtain ⟨av, cw, rfl⟩ := hrd.form
      have HS2 := Lib.hid hs2; have HRDC := Lib.hid hrd
      by_cases hne : m.atL (last : Int) = []
      · have hl0 : l.length = 0 := by rw [hcel.1 hne]; rfl
        have HE := Lib.hid (decP_none HD.out HKK.out hne)
        rw [hl0]
        clear hl0 hne hrd hcel hls c2 hs2 HS1 HOF
        go_wp2
        go_ret2
        exact forSays_err (HRES.out.symm.trans HE.out) rfl HS2.out.ls.chg
      · have hdt := hcel.2 hne
        have hnq := norm_at HR.out _ hne
        have hsum : sumTo (fM m last) 256 = 2 ^ RM m := hnq.sum
        obtain ⟨-, hR2, -⟩ := RM_le HR.out
        have htab := tabM_one HR.out hne hdt
        have hll := hdt.len
        have hxl : lane k (x0, x1) < 2 ^ RM m := by
          unfold lane
          split
          · exact HD.out.lt1
          · exact HD.out.lt0
        have hbd := hdt.bounds hsum hR2 hxl
        have hfits := hdt.fits hsum hR2
        obtain ⟨x, hxe⟩ : ∃ x, lane k (x0, x1) = x := ⟨_, rfl⟩
        obtain ⟨R, hR⟩ : ∃ R, RM m = R := ⟨_, rfl⟩
        obtain ⟨z, hz⟩ : ∃ z, l.getD x cl0 = z := ⟨_, rfl⟩
        have hbase := hdt.baseOk hsum hR2 (x : Int)
        have hp2 := pow12 (k := RM m) hR2
        have hst := hs2.st.lane k
        rw [hxe] at hxl hbd hst
        rw [hz] at hbd
        rw [hR] at hll hxl hbd hR2 hp2
        obtain ⟨p, hp⟩ : ∃ p, k % 2 = p := ⟨_, rfl⟩
        have htm : (k : Int).tmod 2 = (p : Int) := by rw [Int.tmod_eq_emod_of_nonneg (by omega)]; omega
        have hpI : (p : Int) < 2 := by omega
        have hp0 : (0 : Int) ≤ (p : Int) := by omega
        rw [hp] at hst
        obtain ⟨gv, ov, rfl, cc0, cc1, cc2⟩ := hrd.at x (by omega)
        rw [hz] at cc0 cc1 cc2
        obtain ⟨s, I, Ba⟩ := z
        simp only [] at hbd cc0 cc1 cc2
        obtain ⟨hs256, hb0, hbR, hBa, hBe⟩ := hbd
        obtain ⟨bN, rfl⟩ := Int.eq_ofNat_of_zero_le hb0
        rw [Int.toNat_natCast] at hBe
        have h2b : 2 ^ bN ≤ 4096 := pow12 (by omega)
        obtain ⟨nl, hnl⟩ : ∃ nl, l.length = nl := ⟨_, rfl⟩
        have hxI : (x : Int) < (nl : Int) := by omega
        have hx0I : (0 : Int) ≤ (x : Int) := by omega
        have hnz : ((nl : Int) == 0) = false := by rw [beq_eq_false_iff_ne]; omega
        have hnz2 : ¬ nl = 0 := by omega
        have htk := take_any rb rg bs (bN : Int) V2 hs2.rd
        have HTK := Lib.hid htk; have HTAB := Lib.hid htab; have HXE := Lib.hid hxe; have HZ := Lib.hid hz; have HNL := Lib.hid hnl; have HFI := Lib.hid hfits; have HBASE := Lib.hid hbase; have HP := Lib.hid hp; have HRE := Lib.hid hR; have HS256 := Lib.hid hs256; have HBR := Lib.hid (show bN ≤ 12 by omega); have HBA := Lib.hid hBa; have HBE := Lib.hid hBe; have HP2 := Lib.hid hp2; have H2B := Lib.hid h2b; have HNL2 := Lib.hid (show nl ≤ 4096 by omega)
        rw [hnl]
        clear htk htab hxe hz hnl hfits hbase hp hR hs256 hBa hBe hp2 h2b hll hxl hdt hnq hsum hrd hcel hls c2 hs2 HS1 HOF hne hR2 hb0 hbR
        by_cases hbl : bs.length < bN
        · have HTN := Lib.hid (show Calls Tryz.prog 45 #[.pointer (some ⟨rb, 0, none⟩), .int .i64 (bN : Int)] V2 fun e w' => e = .returned (.tuple #[.int .u32 0, .bool false]) ∧ V2 = w' from HTK.out.mono fun e w' hh => by
            rcases hh with ⟨q, e1, -, e0, -, -, -⟩ | ⟨-, e2, e3⟩
            · omega
            · exact ⟨e2, e3⟩)
          have HE := Lib.hid (HD.out.short HKK.out HTAB.out (by rw [HXE.out]; exact HZ.out) hbl)
          clear HTK hbl
          go_wp2_with fail
          refine HTN.out.mono ?_
          rintro e w' ⟨rfl, rfl⟩
          clear HTN
          go_wp2
          go_ret2
          exact forSays_err (HRES.out.symm.trans HE.out) rfl HS2.out.ls.chg
        · have hv := takeV_lt bs bN
          obtain ⟨mo, hmo⟩ : ∃ mo, takeV bs bN = mo := ⟨_, rfl⟩
          rw [hmo] at hv
          have HTY := Lib.hid (show Calls Tryz.prog 45 #[.pointer (some ⟨rb, 0, none⟩), .int .i64 (bN : Int)] V2 fun e w' => e = .returned (.tuple #[.int .u32 (mo : Int), .bool true]) ∧ Rr w' rb rg (takeR bs bN) ∧ Chg (fun k => k = rb) V2 w' from HTK.out.mono fun e w' hh => by
            rcases hh with ⟨q, e1, -, -, e2, e3, e4⟩ | ⟨e1, -, -⟩
            · obtain rfl : bN = q := by omega
              rw [hmo] at e2
              exact ⟨e2, e3, e4⟩
            · have := HBR.out; omega)
          have HBL := Lib.hid hbl; have HMO := Lib.hid hmo; have HV := Lib.hid hv
          clear HTK hbl hmo hv
          go_wp2_with fail
          refine HTY.out.mono ?_
          rintro e V3 ⟨rfl, hr3, c3⟩
          have hs3 := HS2.out.take hr3 c3
          have hxnl : x < l.length := by rw [HNL.out]; omega
          have hgr := rdc_apart HRDC.out hxnl HS2.out.rd
          have hrd3 : RdC V3 (.slice (some ⟨gv, ov, none⟩) l.length cw) l := HRDC.out.kept c3 fun q hq => by
            simp only [Value.ownBlock, Option.some.injEq] at hq
            omega
          have hcan : canC l (x : Int) mo := by
            unfold canC
            rw [Int.toNat_natCast, HZ.out]
            simp only [Int.toNat_natCast]
            exact ⟨by omega, by omega, by omega, by have := HBR.out; omega, HV.out⟩
          have hds := dstep_any _ l (x : Int) mo V3 hrd3 HFI.out (by rw [HNL.out]; have := HNL2.out; omega) (by have := HNL2.out; omega) (Nat.lt_of_lt_of_le HV.out (Nat.le_trans H2B.out (by decide))) HBASE.out
          have hS : stepS l (x : Int) mo = s := by unfold stepS; rw [if_pos hcan, Int.toNat_natCast, HZ.out]
          have hNN : stepN l (x : Int) mo = Ba + (mo : Int) := by unfold stepN; rw [if_pos hcan, Int.toNat_natCast, HZ.out]
          obtain ⟨y, hy⟩ : ∃ y : Nat, Ba + (mo : Int) = (y : Int) := ⟨(Ba + (mo : Int)).toNat, by have := HBA.out; omega⟩
          have hyl : y < 2 ^ R := by have := HBE.out; have := HV.out; omega
          rw [hS, hNN, hy, decide_eq_true hcan, HNL.out] at hds
          have hst3 := hs3.st.lane k
          rw [HXE.out, HP.out] at hst3
          have HDS := Lib.hid hds; have HS3 := Lib.hid hs3
          have HNEXT := Lib.hid (HD.out.step HKK.out HTAB.out (by rw [HXE.out]; exact HZ.out) HS256.out HBL.out (y := y) (by rw [HMO.out]; exact hy) (by rw [HRE.out]; exact hyl))
          have hsI : (s : Int) < 256 := by have := HS256.out; omega
          have hyI : (y : Int) < 4096 := by have := HP2.out; omega
          clear hr3 c3 hs3 HTY hxnl hgr hrd3 hcan hds hS hNN hy hyl hst cc0 cc1 cc2
          go_wp2_with fail
          refine HDS.out.mono ?_
          rintro e V4 ⟨rfl, c4⟩
          have hs4 := HS3.out.still c4
          have ho1 := hs4.out.cell k (by rw [HLEN.out]; exact HKK.out)
          have ho2 := hs4.out.free k
          have hc5 := Chg.setCell V4 ⟨A + 1, k, none⟩ (.int .u8 (s : Int))
          have hst5 := hs4.st.kept hc5 (by simp)
          have hl5 := hst5.lane k
          rw [HXE.out, HP.out] at hl5
          have hf5 := hst5.free p
          obtain ⟨ov1, hov1⟩ : ∃ q, (o ++ List.replicate (K - k) 0).getD k 0 = q := ⟨_, rfl⟩
          rw [hov1] at ho1
          have hput := hs4.put k s y
          rw [HP.out] at hput
          have HPUT := Lib.hid hput
          clear c4 hs4 hc5 hst5 hov1 HDS hst3 hput
          go_wp2
          go_roundw
          case rel =>
            have hlen := HLEN.out
            have hol := HD.out.len
            have hput := HPUT.out
            rw [set_zeros s hol HKK.out] at hput
            refine ⟨k + 1, s, _, _, o ++ [s], takeR bs bN, HKK.out, by go_num, hput, HNEXT.out, fun _ => ?_⟩
            rw [List.getD_cons_succ, List.getD_eq_getElem?_getD, List.getElem?_append_left (by rw [List.length_append, hol]; simp), List.getElem?_append_right (by omega), hol, Nat.sub_self]
            rfl
          case measure =>
            have := HKK.out
            simp [intOf]
            omega
    · obtain rfl : k = K := by omega
      rw [Nat.sub_self, List.replicate_zero, List.append_nil] at hs
      have hfin := hd.fin
      rw [HRES.out] at hfin
      have hol := hd.len
      obtain ⟨q0, q1⟩ := hs.st.cells
      have HFIN := Lib.hid hfin; have HS2 := Lib.hid hs; have HLE := Lib.hid (left_any rb rg bs wr hs.rd); have HOL := Lib.hid hol
      clear hs hd hlast HS HD hk hfin hol
      by_cases hz : x0 = 0 ∧ x1 = 0
      · obtain ⟨rfl, rfl⟩ := hz
        rw [show ((0 : Nat) : Int) = 0 from rfl] at q0 q1
        have heq := eqSt0
        by_cases hb : bs = []
        · subst hb
          have HF := Lib.hid (HFIN.out.trans (if_pos ⟨rfl, rfl, rfl⟩))
          rw [show (([] : List Bool).length : Int) = 0 from rfl] at HLE
          go_wp2_with (go_at_call 51; refine HLE.out.mono ?_; rintro e w' ⟨rfl, rfl⟩)
          go_ret2
          have hrb := HS2.out.out.rd k
          rw [HOL.out] at hrb
          exact ⟨_, by rw [HF.out]; rfl, by rw [HF.out]; exact hrb, HS2.out.ls.chg⟩
        · have hbp : (0 : Int) < (bs.length : Int) := by
            have := List.length_pos_iff.2 hb
            omega
          have HF := Lib.hid (HFIN.out.trans (if_neg fun hh => hb hh.2.2))
          go_wp2_with (go_at_call 51; refine HLE.out.mono ?_; rintro e w' ⟨rfl, rfl⟩)
          go_ret2
          exact forSays_err HF.out rfl HS2.out.ls.chg
      · have HF := Lib.hid (HFIN.out.trans (if_neg fun hh => hz ⟨hh.1, hh.2.1⟩))
        have heq := eqSt_no hz
        clear hz
        go_wp2
        go_ret2
        exact forSays_err HF.out rfl HS2.out.ls.chg

end Go.Proofs.YtokeoebhmjefoaaGreat

/- What takeStates tells. THIS SPEAKS OF THE PROGRAM'S OWN TEXT. -/
namespace Go.Proofs.YtokeoebhmjefoaaGreat
open Go.RowKit

set_option maxRecDepth 100000 in
set_option maxHeartbeats 1000000 in
theorem ltakest_any (b g : Nat) (bs : List Bool) (R : Nat) (w : World) (h : Rr w b g bs) (hR : R ≤ 12) :
    Calls Tryz.prog 22 #[.pointer (some ⟨b, 0, none⟩), .int .i64 (R : Int)] w fun e w' => ∃ x y : Nat, e = .returned (.tuple #[.agg #[.int .i64 (x : Int), .int .i64 (y : Int)], .bool (decide (2 * R ≤ bs.length))]) ∧ (2 * R ≤ bs.length → x = takeV bs R ∧ y = takeV (takeR bs R) R ∧ Rr w' b g (takeR (takeR bs R) R)) ∧ Chg (fun k => k = b) w w' := by
  have h2 := pow12 (k := R) hR
  have ca := Chg.alloc (fun _ => False) w (.cells #[.int .i64 0, .int .i64 0] 51)
  have hst : (w.alloc (.cells #[.int .i64 0, .int .i64 0] 51)).heap[w.heap.size]? = some (.cells #[.int .i64 0, .int .i64 0] 51 (0, 0)) := heap_alloc_new w _
  have hlt := h.lt
  have hra := h.kept ca (by simp) (by simp)
  obtain ⟨W, hW⟩ : ∃ W, w.alloc (.cells #[.int .i64 0, .int .i64 0] 51) = W := ⟨_, rfl⟩
  rw [hW] at ca hst hra
  obtain ⟨A, hA⟩ : ∃ A, w.heap.size = A := ⟨_, rfl⟩
  rw [hA] at hst hlt
  have HW := Lib.hid hW; have CA := Lib.hid ca; have HA := Lib.hid hA; have HST := Lib.hid hst; have HLT := Lib.hid hlt
  have HT := Lib.hid fun V (bs : List Bool) (hV : Rr V b g bs) => take_any b g bs (R : Int) V hV
  have hRI : (R : Int) ≤ 12 := by omega
  have fin : ∀ V, Chg (fun k => k = b) W V → V.cell? ⟨A, 0, none⟩ = some (.int .i64 0) ∧ V.cell? ⟨A, 1, none⟩ = some (.int .i64 0) ∧ V.frozen? ⟨A, 0, none⟩ = false ∧ V.frozen? ⟨A, 1, none⟩ = false ∧ V.heap[A]? = some (.cells #[.int .i64 0, .int .i64 0] 51 (0, 0)) ∧ b ≠ A ∧ g ≠ A ∧ Chg (fun k => k = b) w V := fun V hc => by
    have hr := (hc.block A (lt_of_block hst) (by omega)).trans hst
    exact ⟨by rw [cell_of_row V _ 0 _ _ _ hr]; rfl, by rw [cell_of_row V _ 1 _ _ _ hr]; rfl, frozen_of_row V _ 0 _ _ hr, frozen_of_row V _ 1 _ _ hr, hr, by omega, by omega, (ca.mono fun _ _ h => h.elim).trans hc fun _ _ h => h⟩
  have FIN := Lib.hid fin
  have HR := Lib.hid hra
  clear h hW ca hA hst hlt hra fin
  by_cases h1 : R ≤ bs.length
  · have hx := takeV_lt bs R
    obtain ⟨x, hxe⟩ : ∃ x, takeV bs R = x := ⟨_, rfl⟩
    obtain ⟨cs, hcs⟩ : ∃ cs, takeR bs R = cs := ⟨_, rfl⟩
    have hlen : cs.length = bs.length - R := by rw [← hcs]; exact takeR_length bs R
    have T1 := Lib.hid (show Calls Tryz.prog 45 #[.pointer (some ⟨b, 0, none⟩), .int .i64 (R : Int)] W fun e w' => e = .returned (.tuple #[.int .u32 (x : Int), .bool true]) ∧ Rr w' b g cs ∧ Chg (fun k => k = b) W w' from (HT.out W bs HR.out).mono fun e w' hh => by
      rcases hh with ⟨q, e1, -, -, e2, e3, e4⟩ | ⟨e1, -, -⟩
      · obtain rfl : R = q := by omega
        rw [hxe, hcs] at *
        exact ⟨e2, e3, e4⟩
      · omega)
    rw [hxe] at hx
    rw [hcs]
    have hxI : (x : Int) < 4096 := by omega
    have HXE := Lib.hid hxe
    by_cases h3 : R ≤ cs.length
    · have hy := takeV_lt cs R
      obtain ⟨y, hye⟩ : ∃ y, takeV cs R = y := ⟨_, rfl⟩
      obtain ⟨ds, hds⟩ : ∃ ds, takeR cs R = ds := ⟨_, rfl⟩
      rw [hye] at hy
      have hyI : (y : Int) < 4096 := by omega
      rw [hds, hye, hxe, decide_eq_true (show 2 * R ≤ bs.length by omega)]
      have T2 := Lib.hid (show ∀ V, Rr V b g cs → Calls Tryz.prog 45 #[.pointer (some ⟨b, 0, none⟩), .int .i64 (R : Int)] V fun e w' => e = .returned (.tuple #[.int .u32 (y : Int), .bool true]) ∧ Rr w' b g ds ∧ Chg (fun k => k = b) V w' from fun V hV => (HT.out V cs hV).mono fun e w' hh => by
        rcases hh with ⟨q, e1, -, -, e2, e3, e4⟩ | ⟨e1, -, -⟩
        · obtain rfl : R = q := by omega
          rw [hye, hds] at *
          exact ⟨e2, e3, e4⟩
        · omega)
      clear HT HR hx hy hxe hcs hye hds h2 h1 h3 hlen
      go_enter Tryz.func22, Tryz.ntmps22
      go_upto_region 1 with fail
      rw [HW.out, HA.out]
      go_wp2_with fail
      refine T1.out.mono ?_
      rintro e W2 ⟨rfl, hr2, c2⟩
      have HR2 := Lib.hid hr2; have C2 := Lib.hid c2
      clear hr2 c2 T1
      go_wp2_with fail
      refine (T2.out W2 HR2.out).mono ?_
      rintro e W3 ⟨rfl, hr3, c3⟩
      have C3 := Lib.hid (C2.out.trans c3 fun _ _ h => h); have HR3 := Lib.hid hr3
      clear hr3 c3 T2
      obtain ⟨q0, q1, f0, f1, hrow, hbA, hgA, hcw⟩ := FIN.out W3 (C3.out)
      have HROW := Lib.hid hrow; have HCW := Lib.hid hcw; have HBA := Lib.hid hbA; have HGA := Lib.hid hgA
      clear hrow hcw hbA hgA
      go_wp2
      have ca := Chg.setCell W3 ⟨A, 0, none⟩ (.int .i64 (x : Int))
      have cb := Chg.setCell (W3.setCell ⟨A, 0, none⟩ (.int .i64 (x : Int))) ⟨A, 1, none⟩ (.int .i64 (y : Int))
      have hcab : Chg (fun q => q = A) W3 ((W3.setCell ⟨A, 0, none⟩ (.int .i64 (x : Int))).setCell ⟨A, 1, none⟩ (.int .i64 (y : Int))) := ca.trans cb fun _ _ h => h
      have hrow : ((W3.setCell ⟨A, 0, none⟩ (.int .i64 (x : Int))).setCell ⟨A, 1, none⟩ (.int .i64 (y : Int))).heap[A]? = some (.cells #[.int .i64 (x : Int), .int .i64 (y : Int)] 51 (0, 0)) := by
        have h1 := heap_setCell_same W3 A 0 _ _ (.int .i64 (x : Int)) HROW.out
        rw [heap_setCell_same _ A 1 _ _ _ h1]; rfl
      obtain ⟨W7, hW7⟩ : ∃ U, ((W3.setCell ⟨A, 0, none⟩ (.int .i64 (x : Int))).setCell ⟨A, 1, none⟩ (.int .i64 (y : Int))) = U := ⟨_, rfl⟩
      rw [hW7] at hcab hrow ⊢
      have K5 : W7.cell? ⟨A, 0, none⟩ = some (.int .i64 (x : Int)) := by rw [cell_of_row W7 _ 0 _ _ _ hrow]; rfl
      have K6 : W7.cell? ⟨A, 1, none⟩ = some (.int .i64 (y : Int)) := by rw [cell_of_row W7 _ 1 _ _ _ hrow]; rfl
      have hcw7 : Chg (fun k => k = b) w W7 := HCW.out.trans hcab fun q hq he => by have := HA.out; omega
      clear q0 q1 f0 f1 ca cb
      refine bodyPost_ret (v := .tuple #[.agg #[.int .i64 (x : Int), .int .i64 (y : Int)], .bool true]) (by simp [results, Tryz.results22, go_sem, K5, K6]) rfl ?_
      exact ⟨x, y, rfl, fun _ => ⟨rfl, rfl, HR3.out.kept hcab HBA.out HGA.out⟩, hcw7⟩
    · rw [decide_eq_false (show ¬ 2 * R ≤ bs.length by omega)]
      have HNO := Lib.hid (show ¬ 2 * R ≤ bs.length by omega)
      have T2 := Lib.hid (show ∀ V, Rr V b g cs → Calls Tryz.prog 45 #[.pointer (some ⟨b, 0, none⟩), .int .i64 (R : Int)] V fun e w' => e = .returned (.tuple #[.int .u32 0, .bool false]) ∧ V = w' from fun V hV => (HT.out V cs hV).mono fun e w' hh => by
        rcases hh with ⟨q, e1, -, e0, -, -, -⟩ | ⟨-, e2, e3⟩
        · omega
        · exact ⟨e2, e3⟩)
      clear HT HR hx hxe hcs h2 h1 h3 hlen
      go_enter Tryz.func22, Tryz.ntmps22
      go_upto_region 1 with fail
      rw [HW.out, HA.out]
      go_wp2_with fail
      refine T1.out.mono ?_
      rintro e W2 ⟨rfl, hr2, c2⟩
      have HR2 := Lib.hid hr2; have C2 := Lib.hid c2
      clear hr2 c2 T1
      go_wp2_with fail
      refine (T2.out W2 HR2.out).mono ?_
      rintro e W3 ⟨rfl, rfl⟩
      clear T2
      obtain ⟨q0, q1, f0, f1, hrow, hbA, hgA, hcw⟩ := FIN.out W2 (C2.out)
      have HROW := Lib.hid hrow; have HCW := Lib.hid hcw; have HBA := Lib.hid hbA; have HGA := Lib.hid hgA
      clear hrow hcw hbA hgA
      go_wp2
      have ca := Chg.setCell W2 ⟨A, 0, none⟩ (.int .i64 (x : Int))
      have cb := Chg.setCell (W2.setCell ⟨A, 0, none⟩ (.int .i64 (x : Int))) ⟨A, 1, none⟩ (.int .i64 0)
      have hcab : Chg (fun q => q = A) W2 ((W2.setCell ⟨A, 0, none⟩ (.int .i64 (x : Int))).setCell ⟨A, 1, none⟩ (.int .i64 0)) := ca.trans cb fun _ _ h => h
      have hrow : ((W2.setCell ⟨A, 0, none⟩ (.int .i64 (x : Int))).setCell ⟨A, 1, none⟩ (.int .i64 0)).heap[A]? = some (.cells #[.int .i64 (x : Int), .int .i64 0] 51 (0, 0)) := by
        have h1 := heap_setCell_same W2 A 0 _ _ (.int .i64 (x : Int)) HROW.out
        rw [heap_setCell_same _ A 1 _ _ _ h1]; rfl
      obtain ⟨W7, hW7⟩ : ∃ U, ((W2.setCell ⟨A, 0, none⟩ (.int .i64 (x : Int))).setCell ⟨A, 1, none⟩ (.int .i64 0)) = U := ⟨_, rfl⟩
      rw [hW7] at hcab hrow ⊢
      have K5 : W7.cell? ⟨A, 0, none⟩ = some (.int .i64 (x : Int)) := by rw [cell_of_row W7 _ 0 _ _ _ hrow]; rfl
      have K6 : W7.cell? ⟨A, 1, none⟩ = some (.int .i64 0) := by rw [cell_of_row W7 _ 1 _ _ _ hrow]; rfl
      have hcw7 : Chg (fun k => k = b) w W7 := HCW.out.trans hcab fun q hq he => by have := HA.out; omega
      clear q0 q1 f0 f1 ca cb
      refine bodyPost_ret (v := .tuple #[.agg #[.int .i64 (x : Int), .int .i64 0], .bool false]) (by simp [results, Tryz.results22, go_sem, K5, K6]) rfl ?_
      exact ⟨x, 0, rfl, fun hh => absurd hh HNO.out, hcw7⟩
  · rw [decide_eq_false (show ¬ 2 * R ≤ bs.length by omega)]
    have HNO := Lib.hid (show ¬ 2 * R ≤ bs.length by omega)
    have T2 := Lib.hid (show ∀ V, Rr V b g bs → Calls Tryz.prog 45 #[.pointer (some ⟨b, 0, none⟩), .int .i64 (R : Int)] V fun e w' => e = .returned (.tuple #[.int .u32 0, .bool false]) ∧ V = w' from fun V hV => (HT.out V bs hV).mono fun e w' hh => by
      rcases hh with ⟨q, e1, -, e0, -, -, -⟩ | ⟨-, e2, e3⟩
      · omega
      · exact ⟨e2, e3⟩)
    clear HT h2 h1
    go_enter Tryz.func22, Tryz.ntmps22
    go_upto_region 1 with fail
    rw [HW.out, HA.out]
    go_wp2_with fail
    refine (T2.out W HR.out).mono ?_
    rintro e W2 ⟨rfl, rfl⟩
    go_wp2_with fail
    refine (T2.out W HR.out).mono ?_
    rintro e W3 ⟨rfl, rfl⟩
    clear T2
    obtain ⟨q0, q1, f0, f1, hrow, hbA, hgA, hcw⟩ := FIN.out W (Chg.refl _ _)
    have HROW := Lib.hid hrow; have HCW := Lib.hid hcw; have HBA := Lib.hid hbA; have HGA := Lib.hid hgA
    clear hrow hcw hbA hgA
    go_wp2
    have ca := Chg.setCell W ⟨A, 0, none⟩ (.int .i64 0)
    have cb := Chg.setCell (W.setCell ⟨A, 0, none⟩ (.int .i64 0)) ⟨A, 1, none⟩ (.int .i64 0)
    have hcab : Chg (fun q => q = A) W ((W.setCell ⟨A, 0, none⟩ (.int .i64 0)).setCell ⟨A, 1, none⟩ (.int .i64 0)) := ca.trans cb fun _ _ h => h
    have hrow : ((W.setCell ⟨A, 0, none⟩ (.int .i64 0)).setCell ⟨A, 1, none⟩ (.int .i64 0)).heap[A]? = some (.cells #[.int .i64 0, .int .i64 0] 51 (0, 0)) := by
      have h1 := heap_setCell_same W A 0 _ _ (.int .i64 0) HROW.out
      rw [heap_setCell_same _ A 1 _ _ _ h1]; rfl
    obtain ⟨W7, hW7⟩ : ∃ U, ((W.setCell ⟨A, 0, none⟩ (.int .i64 0)).setCell ⟨A, 1, none⟩ (.int .i64 0)) = U := ⟨_, rfl⟩
    rw [hW7] at hcab hrow ⊢
    have K5 : W7.cell? ⟨A, 0, none⟩ = some (.int .i64 0) := by rw [cell_of_row W7 _ 0 _ _ _ hrow]; rfl
    have K6 : W7.cell? ⟨A, 1, none⟩ = some (.int .i64 0) := by rw [cell_of_row W7 _ 1 _ _ _ hrow]; rfl
    have hcw7 : Chg (fun k => k = b) w W7 := HCW.out.trans hcab fun q hq he => by have := HA.out; omega
    clear q0 q1 f0 f1 ca cb
    refine bodyPost_ret (v := .tuple #[.agg #[.int .i64 0, .int .i64 0], .bool false]) (by simp [results, Tryz.results22, go_sem, K5, K6]) rfl ?_
    exact ⟨0, 0, rfl, fun hh => absurd hh HNO.out, hcw7⟩

end Go.Proofs.YtokeoebhmjefoaaGreat

/- What lanes' Decode tells (Encode's and Bits' contracts stand in LnProgA). THIS SPEAKS OF THE PROGRAM'S OWN TEXT. -/
namespace Go.Proofs.YtokeoebhmjefoaaGreat
open Go.RowKit

theorem two_new (W : World) (x y : Nat) : ∃ V, W.alloc (.cells #[.int .i64 (x : Int), .int .i64 (y : Int)] 51) = V ∧ Chg (fun _ => False) W V ∧ Stt V W.heap.size x y :=
  ⟨_, rfl, Chg.alloc _ W _, heap_alloc_new W _⟩

set_option maxRecDepth 100000 in
set_option maxHeartbeats 4000000 in
theorem ldecode_says (v u : Value) (m : Md) (ps : List Nat) (n : Int) (w : World) (h : RdM w v m) (hf : m.fit64) (hb : RdB w u ps) (hx : ∀ x ∈ ps, x < 256) (hl : ps.length < 1000000) (hn : -9223372036854775808 ≤ n ∧ n ≤ 9223372036854775807) :
    Calls Tryz.prog 9 #[v, u, .int .i64 n] w fun e w' => ForSays (lnRes m ps n) w e w' := by
  obtain ⟨cv, rfl, h1⟩ := h
  obtain ⟨ao, cap, rfl⟩ := h1.form
  obtain ⟨ab, capb, rfl⟩ := hb.form
  obtain ⟨res, hres⟩ : ∃ res, lnRes m ps n = res := ⟨_, rfl⟩
  rw [hres]
  have hca := Chg.alloc (fun _ => False) w (.cells #[.int .i64 m.log, .bool m.one, .slice ao m.cs.length cap] 26)
  have hmb : Mb _ _ m.log m.one (.slice ao m.cs.length cap) := heap_alloc_new w (.cells #[.int .i64 m.log, .bool m.one, .slice ao m.cs.length cap] 26)
  have hll := h1.kept hca
  have hbl := hb.kept hca (by simp)
  obtain ⟨W1, hW1⟩ : ∃ W, w.alloc (.cells #[.int .i64 m.log, .bool m.one, .slice ao m.cs.length cap] 26) = W := ⟨_, rfl⟩
  rw [hW1] at hca hmb hll hbl
  obtain ⟨b0, b1, b2⟩ := hmb.cells
  have hri := mright_any (mdv m (.slice ao m.cs.length cap)) m W1 ⟨_, rfl, hll⟩ hf
  unfold mdv at hri ⊢
  obtain ⟨N, hN⟩ : ∃ N, ps.length = N := ⟨_, rfl⟩
  have HRES := Lib.hid hres; have HW1 := Lib.hid hW1; have HCA := Lib.hid hca; have HMB := Lib.hid hmb; have HLL := Lib.hid hll; have HBL := Lib.hid hbl; have HRI := Lib.hid hri; have HX := Lib.hid hx; have HN := Lib.hid hN; have HLN := Lib.hid hl
  rw [hN]
  obtain ⟨hn0, hn1⟩ := hn
  clear hres hW1 hca hmb hll hbl hri hx hN hl h1 hb hf
  by_cases hn2 : n < 0
  · have d1 : decide (n < 0) = true := decide_eq_true hn2
    have HE := Lib.hid (show lnRes m ps n = .error 1 from by unfold lnRes; rw [if_neg fun hh => by omega])
    go_enter Tryz.func9, Tryz.ntmps9
    go_upto_region 1 with fail
    rw [HW1.out]
    go_wp2
    go_ret2
    exact forSays_err (HRES.out.symm.trans HE.out) rfl HCA.out
  · have d1 : decide (n < 0) = false := decide_eq_false hn2
    by_cases hn3 : 131072 < n
    · have d2 : decide (131072 < n) = true := decide_eq_true hn3
      have HE := Lib.hid (show lnRes m ps n = .error 1 from by unfold lnRes; rw [if_neg fun hh => by omega])
      go_enter Tryz.func9, Tryz.ntmps9
      go_upto_region 1 with fail
      rw [HW1.out]
      go_wp2
      go_ret2
      exact forSays_err (HRES.out.symm.trans HE.out) rfl HCA.out
    · have d2 : decide (131072 < n) = false := decide_eq_false hn3
      by_cases hr : m.right
      · rw [decide_eq_true hr] at HRI
        obtain ⟨-, hR2, hR3⟩ := RM_le hr
        obtain ⟨K, rfl⟩ := Int.eq_ofNat_of_zero_le (show 0 ≤ n by omega)
        have hok : m.right ∧ 0 ≤ (K : Int) ∧ (K : Int) ≤ 131072 := ⟨hr, by omega, by omega⟩
        have HR := Lib.hid hr; have HR2 := Lib.hid hR2; have HR3 := Lib.hid hR3; have HOK := Lib.hid hok
        clear hr hR2 hR3 hok
        by_cases hm : Marked ps
        · have HM := Lib.hid hm
          have hmf : ∀ (fn : Fn) (first cap : Array Value) (w : World), (Instr.makeFunc fn first cap).run Tryz.prog w = .ok (.func fn first cap) w := fun _ _ _ _ => rfl
          clear hm
          go_enter Tryz.func9, Tryz.ntmps9
          go_upto_region 1 with fail
          rw [HW1.out]
          go_wp2_with fail
          refine HRI.out.mono ?_
          rintro e W2 ⟨rfl, hc2⟩
          have hmb2 := HMB.out.kept hc2 (by simp)
          have HMB2 := Lib.hid hmb2; have C2 := Lib.hid hc2
          have hb2 := HBL.out.kept hc2 (by simp)
          have HNEW := Lib.hid (rnew_ok _ ps W2 hb2 HM.out (by have := HLN.out; omega) HX.out)
          rw [HN.out] at HNEW
          clear hc2 hb2 HRI b0 b1 b2 hmb2
          go_wp2_with fail
          refine HNEW.out.mono ?_
          rintro e W3 ⟨rb, rg, rfl, hr3, hlb, hlg, hc3⟩
          have hmb3 := HMB2.out.kept hc3 (by simp)
          obtain ⟨b0, b1, b2⟩ := hmb3.cells
          have hts := ltakest_any rb rg (openB ps) (RM m) W3 hr3 HR2.out
          rw [HR3.out] at hts
          have HTS := Lib.hid hts; have C3 := Lib.hid (C2.out.trans hc3 fun _ _ h => h); have HMB3 := Lib.hid hmb3; have HLB := Lib.hid (Nat.le_trans C2.out.size hlb); have HLG := Lib.hid (Nat.le_trans C2.out.size hlg)
          clear hr3 hlb hlg hc3 hmb3 hts HNEW
          go_wp2_with fail
          refine HTS.out.mono ?_
          rintro e W4 ⟨x, y, rfl, htk, hc4⟩
          have hbm : ¬ (w.heap.size = rb) := by have := HLB.out; have := lt_of_block HMB.out; omega
          have C4 := Lib.hid (C3.out.trans hc4 fun k hk he => by subst he; have := HLB.out; omega)
          have hmb4 := HMB3.out.kept hc4 hbm
          by_cases hlen : 2 * RM m ≤ (openB ps).length
          · obtain ⟨hx1, hy1, hr4⟩ := htk hlen
            have HE := Lib.hid (show lnRes m ps (K : Int) = finD (decG (tabM m) K 0 0 (takeR (takeR (openB ps) (RM m)) (RM m)) (x, y)) from by
              unfold lnRes
              rw [if_pos HOK.out, if_pos HM.out, Int.toNat_natCast, lnDec_fin (by omega), hx1, hy1])
            have hxl : x < 2 ^ RM m := by rw [hx1]; exact takeV_lt _ _
            have hyl : y < 2 ^ RM m := by rw [hy1]; exact takeV_lt _ _
            rw [decide_eq_true hlen]
            obtain ⟨W5, hW5, c5, st5⟩ := two_new W4 x y
            have hmb5 := hmb4.kept c5 (by simp)
            have hr5 := hr4.kept c5 (by simp) (by simp)
            have HW5 := Lib.hid hW5; have ST5 := Lib.hid st5; have HMB5 := Lib.hid hmb5; have HR5 := Lib.hid hr5; have C5 := Lib.hid (C4.out.trans c5 fun _ _ h => h); have HXL := Lib.hid (And.intro hxl hyl)
            clear htk hc4 hbm hmb4 hlen HTS b0 b1 b2 hx1 hy1 hr4 hxl hyl hW5 c5 st5 hmb5 hr5
            go_upto_region 7 with fail
            rw [HW5.out]
            obtain ⟨b0, b1, b2⟩ := HMB5.out.cells
            obtain ⟨s0, s1⟩ := ST5.out.cells
            obtain ⟨Z, hZ, hzero⟩ := zeroLsC
            have HZ := Lib.hid hZ
            clear hZ
            go_upto_region 10 with (first
              | (refine wpList_listsC rfl _ rfl _ _ _ rfl ?_)
              | (refine wpList_store_row rfl 59 _ _ rfl W5.heap.size _ rfl rfl _ _ (heap_alloc_new W5 (.cells Z 59)) (by rw [lsZ_size]; exact infoLsC) (by rw [lsZ_size]; exact HZ.out) (lsZ_one _ rfl rfl rfl rfl) ?_))
            try simp only [Act.put]
            rw [World.setRow_alloc_new]
            obtain ⟨W6, hW6⟩ : ∃ V, W5.alloc (.cells (lsZ 23 (.int .i64 m.log) (.bool m.one) (.slice ao m.cs.length cap) (.slice none 0 0)) 59) = V := ⟨_, rfl⟩
            rw [hW6]
            have hc6 : Chg (fun _ => False) W5 W6 := hW6 ▸ Chg.alloc _ W5 _
            have hrl := HR5.out.lt
            have hls : LsC W1 W5.heap.size m (.slice ao m.cs.length cap) W6 (fun k => k = rb) := LsJ.new C5.out hW6.symm (fun k hk => by
              subst hk
              exact ⟨HLB.out, hrl.1⟩)
            have hfo := lforth_any W1 W5.heap.size rb rg m (.slice ao m.cs.length cap) K (takeR (takeR (openB ps) (RM m)) (RM m)) x y W6 hls HLL.out (HR5.out.kept hc6 (by simp) (by simp)) (by omega) HR.out (by omega) HXL.out.1 HXL.out.2
            rw [← HE.out, HRES.out] at hfo
            have HFO := Lib.hid hfo
            obtain ⟨t0, t1⟩ := (ST5.out.kept hc6 (by simp)).cells
            clear hc6 hrl hls hfo hW6 hzero b0 b1 b2 s0 s1
            go_wp2_with fail
            refine HFO.out.mono ?_
            rintro e W7 ⟨q, rfl, hq, hc7⟩
            have HQ := Lib.hid hq; have C7 := Lib.hid (HCA.out.trans hc7 fun _ _ h => h)
            clear hq hc7 HFO t0 t1
            go_wp2
            go_ret2
            exact ⟨q, rfl, HQ.out, C7.out⟩
          · have HE := Lib.hid (show lnRes m ps (K : Int) = .error 3 from by
              unfold lnRes
              rw [if_pos HOK.out, if_pos HM.out]
              unfold lnDec
              rw [if_pos (by omega)])
            rw [decide_eq_false hlen]
            have HMB4 := Lib.hid hmb4
            obtain ⟨W5, hW5, c5, -⟩ := two_new W4 x y
            have HW5 := Lib.hid hW5; have C5 := Lib.hid c5
            clear htk hc4 hbm hmb4 hlen HTS b0 b1 b2 hW5 c5
            go_upto_region 7 with fail
            rw [HW5.out]
            go_wp2
            go_ret2
            exact forSays_err (HRES.out.symm.trans HE.out) rfl ((HCA.out.trans C4.out fun _ _ h => h).trans C5.out fun _ _ h => h)
        · have HM := Lib.hid hm
          have HE := Lib.hid (show lnRes m ps (K : Int) = .error 2 from by unfold lnRes; rw [if_pos HOK.out, if_neg hm])
          clear hm
          go_enter Tryz.func9, Tryz.ntmps9
          go_upto_region 1 with fail
          rw [HW1.out]
          go_wp2_with fail
          refine HRI.out.mono ?_
          rintro e W2 ⟨rfl, hc2⟩
          have C2 := Lib.hid hc2
          have hb2 := HBL.out.kept hc2 (by simp)
          have HNEW := Lib.hid (rnew_no _ ps W2 hb2 HM.out (by have := HLN.out; omega))
          rw [HN.out] at HNEW
          clear hc2 hb2 HRI b0 b1 b2
          go_wp2_with fail
          refine HNEW.out.mono ?_
          rintro e W3 ⟨rfl, rfl⟩
          clear HNEW
          go_wp2
          go_ret2
          exact forSays_err (HRES.out.symm.trans HE.out) rfl (HCA.out.trans C2.out fun _ _ h => h)
      · rw [decide_eq_false hr] at HRI
        have HE := Lib.hid (show lnRes m ps n = .error 1 from by unfold lnRes; rw [if_neg fun hh => hr hh.1])
        clear hr
        go_enter Tryz.func9, Tryz.ntmps9
        go_upto_region 1 with fail
        rw [HW1.out]
        go_wp2_with fail
        refine HRI.out.mono ?_
        rintro e W2 ⟨rfl, hc2⟩
        have C2 := Lib.hid hc2
        clear hc2 HRI
        go_wp2
        go_ret2
        exact forSays_err (HRES.out.symm.trans HE.out) rfl (HCA.out.trans C2.out fun _ _ h => h)

theorem ldecode_any (v u : Value) (m : Md) (ps : List Nat) (n : Int) (w : World) (h : RdM w v m) (hf : m.fit64) (hb : RdB w u ps) (hx : ∀ x ∈ ps, x < 256) (hl : ps.length < 1000000) (hn : -9223372036854775808 ≤ n ∧ n ≤ 9223372036854775807) :
    Calls Tryz.prog 9 #[v, u, .int .i64 n] w fun e w' => ∃ y, e = .returned (.tuple #[y, .int .i64 ((errOf (lnRes m ps n) : Nat) : Int)]) ∧ RdB w' y (outOf (lnRes m ps n)) ∧ Chg (fun _ => False) w w' :=
  ldecode_says v u m ps n w h hf hb hx hl hn

end Go.Proofs.YtokeoebhmjefoaaGreat

/- Plain: the example of chapter 17. -/
namespace Go.Proofs.YtokeoebhmjefoaaGreat
open Go

def ex7 : List Int := (List.replicate 256 0).set 7 32
def m7 : Md := ⟨5, true, [ex7]⟩
set_option maxRecDepth 100000 in
theorem m7_fits : m7.fits [7, 7, 7] := by decide +kernel
theorem m7_atC (c : Int) (h0 : 0 ≤ c) (h1 : c ≤ 255) : m7.atL c = ex7 := by
  unfold Md.atL
  rw [if_pos (show m7.right ∧ 0 ≤ c ∧ c ≤ 255 from ⟨m7_fits.1, h0, h1⟩), if_pos (show m7.one = true from rfl)]
  unfold m7
  rfl
theorem m7_at : m7.atL 0 = ex7 ∧ m7.atL 7 = ex7 := ⟨m7_atC 0 (by omega) (by omega), m7_atC 7 (by omega) (by omega)⟩
set_option maxRecDepth 100000 in
theorem ex7_seven : fq ex7 7 = 32 ∧ countTo (fun t => decide (0 < fq ex7 t)) 7 = 0 := by decide +kernel
theorem ex7_place : placeF (fq ex7) 256 7 32 = 0 := by
  have := place_first (f := fq ex7) (N := 256) (s := 7) (by omega) (by rw [ex7_seven.1]; omega)
  rw [ex7_seven.1, ex7_seven.2] at this
  exact this
theorem m7_step {i c : Nat} {P : List (Nat × Nat)} (hc : fM m7 c = fq ex7) (h : Enc 5 (fM m7) (i + 1) P [] (0, 0)) : Enc 5 (fM m7) i ((c, 7) :: P) [] (0, 0) := by
  have h0 : lane i (0, 0) = 0 := by unfold lane; split <;> rfl
  have hl : lefts (fM m7 c 7) (2 ^ 5 + lane i (0, 0)) 0 := by rw [hc, h0, ex7_seven.1]; unfold lefts; decide
  have := Enc.cons (c := c) (s := 7) h hl
  rw [h0, hc] at this
  have e1 : bitsOf ((2 ^ 5 + 0) % 2 ^ 0) 0 = [] := rfl
  rw [e1, List.append_nil, show (2 ^ 5 + 0) / 2 ^ 0 = 32 from rfl, ex7_place] at this
  have e2 : setLane i (0, 0) 0 = (0, 0) := by unfold setLane; split <;> rfl
  rw [e2] at this
  exact this
theorem m7_pay : payL m7 [7, 7, 7] = [false, false, false, false, false, false, false, false, false, false] := by
  have h0 : fM m7 0 = fq ex7 := by funext s; unfold fM; rw [show ((0 : Nat) : Int) = 0 from rfl, m7_at.1]
  have h7 : fM m7 7 = fq ex7 := by funext s; unfold fM; rw [show ((7 : Nat) : Int) = 7 from rfl, m7_at.2]
  have he : Enc 5 (fM m7) 0 (prs 0 [7, 7, 7]) [] (0, 0) := m7_step h0 (m7_step h7 (m7_step h7 (.nil 3)))
  rw [payL_of (m := m7) (xs := [7, 7, 7]) (bs := []) (st := (0, 0)) he]
  decide
theorem m7_ok : lnOk m7 [7, 7, 7] := ⟨m7_fits, by decide⟩
theorem m7_enc : lnEnc m7 [7, 7, 7] = [0, 4] := by
  unfold lnEnc
  rw [if_pos m7_ok, m7_pay]
  decide +kernel
theorem m7_err : lnErr m7 [7, 7, 7] = 0 := by unfold lnErr; rw [if_pos m7_ok]
theorem m7_bits : lnBits m7 [7, 7, 7] = 10 := by unfold lnBits; rw [if_pos m7_ok, m7_pay]; rfl
theorem m7_back : lnRes m7 [0, 4] 3 = .ok [7, 7, 7] := by
  have := ln_back m7_ok (by decide)
  rw [m7_enc] at this
  exact this

end Go.Proofs.YtokeoebhmjefoaaGreat

/- What puncheonlaw17.awake tells: the chapter's example holds. -/
namespace Go.Proofs.YtokeoebhmjefoaaGreat
open Go.RowKit

theorem str04 : ((strB [0, 4]).toList == [0, 4]) = true := by decide +kernel
theorem str777 : ((strB [7, 7, 7]).toList == (strB [7, 7, 7]).toList) = true := by decide +kernel

set_option maxHeartbeats 2000000 in
set_option maxRecDepth 100000 in
theorem awake17_any (w : World) : Calls Tryz.prog 4 #[] w fun e w' => e = .returned (.bool true) ∧ Chg (fun _ => False) w w' := by
  obtain ⟨Z, hZ⟩ : ∃ Z : List Int, Z = List.replicate 256 0 := ⟨_, rfl⟩
  have hZl : Z.length = 256 := by rw [hZ]; exact List.length_replicate
  have hE : Z.set 7 32 = ex7 := by rw [hZ]; rfl
  have HZL := Lib.hid hZl; have HE := Lib.hid hE; have HZ := Lib.hid hZ
  have hfit := m7_fits.1.fit64
  have HEN := Lib.hid fun W cv u hW hb => lencode_any (mdv m7 cv) u m7 [7, 7, 7] W ⟨cv, rfl, hW⟩ hfit hb (by decide) (by decide)
  have HDE := Lib.hid fun W cv u hW hb => ldecode_any (mdv m7 cv) u m7 [0, 4] 3 W ⟨cv, rfl, hW⟩ hfit hb (by decide) (by decide) (by decide)
  have HBI := Lib.hid fun W cv u hW hb => lbits_any (mdv m7 cv) u m7 [7, 7, 7] W ⟨cv, rfl, hW⟩ hfit hb (by decide) (by decide)
  rw [m7_enc, m7_err] at HEN
  rw [m7_back] at HDE
  rw [m7_bits] at HBI
  clear hZl hE hZ hfit
  go_enter Tryz.func4, Tryz.ntmps4
  go_wp2_with (at_make; refine wpList_make_ints rfl _ _ rfl 256 256 256 rfl rfl rfl rfl (by omega) Z HZ.out ?_)
  intro w1 r1 c1
  obtain ⟨g, hg⟩ : ∃ g, g = w.heap.size := ⟨_, rfl⟩
  rw [← hg] at r1 ⊢
  have s0 := Chg.setCell w1 ⟨g, 7, none⟩ (.int .i64 32)
  have r2 := r1.set 7 32
  have a0 := r1.cell 7 (by rw [HZL.out]; omega)
  have f0 := r1.free 7
  obtain ⟨W1, hW1⟩ : ∃ W1, w1.setCell ⟨g, 7, none⟩ (.int .i64 32) = W1 := ⟨_, rfl⟩
  rw [hW1] at s0 r2
  rw [HE.out] at r2
  have hc1 : Chg (fun _ => False) w W1 := c1.trans s0 fun q hq he => by simp at he; omega
  have s2 := Chg.alloc (fun _ => False) W1 (.cells #[.slice (some ⟨g, 0, none⟩) 256 256] 34)
  have n2 := heap_alloc_new W1 (.cells #[.slice (some ⟨g, 0, none⟩) 256 256] 34)
  obtain ⟨W2, hW2⟩ : ∃ W2, W1.alloc (.cells #[.slice (some ⟨g, 0, none⟩) 256 256] 34) = W2 := ⟨_, rfl⟩
  rw [hW2] at s2 n2
  obtain ⟨gl, hgl⟩ : ∃ gl, W1.heap.size = gl := ⟨_, rfl⟩
  rw [hgl] at n2
  have hrow : RdI W2 (.slice (some ⟨g, 0, none⟩) 256 256) ex7 := by
    have := (r2.kept s2 (by simp)).rd 256
    rwa [show ex7.length = 256 by decide +kernel] at this
  have hll : RdLL W2 (.slice (some ⟨gl, 0, none⟩) 1 1) m7.cs := .inr ⟨gl, 0, 1, rfl, fun j hj => by
    have : j = 0 := by have : m7.cs.length = 1 := rfl; omega
    subst this
    exact ⟨_, by rw [cell_of_row W2 gl (0 + 0) _ _ _ n2]; rfl, hrow, .of (Nat.le_refl _)⟩⟩
  have s3 := Chg.alloc (fun _ => False) W2 (.cells #[.int .i64 5, .bool true, .slice (some ⟨gl, 0, none⟩) 1 1] 26)
  have n3 : Mb _ _ 5 true (.slice (some ⟨gl, 0, none⟩) 1 1) := heap_alloc_new W2 (.cells #[.int .i64 5, .bool true, .slice (some ⟨gl, 0, none⟩) 1 1] 26)
  obtain ⟨W3, hW3⟩ : ∃ W3, W2.alloc (.cells #[.int .i64 5, .bool true, .slice (some ⟨gl, 0, none⟩) 1 1] 26) = W3 := ⟨_, rfl⟩
  rw [hW3] at s3 n3
  obtain ⟨gm, hgm⟩ : ∃ gm, W2.heap.size = gm := ⟨_, rfl⟩
  rw [hgm] at n3
  have s4 := Chg.alloc (fun _ => False) W3 (.cells #[.int .u8 7, .int .u8 7, .int .u8 7] 5)
  have hrd : RdB (W3.alloc (.cells #[.int .u8 7, .int .u8 7, .int .u8 7] 5)) (.slice (some ⟨W3.heap.size, 0, none⟩) 3 3) [7, 7, 7] := rdb_new W3 [7, 7, 7] #[.int .u8 7, .int .u8 7, .int .u8 7] 3 (0, 0) rfl rfl
  obtain ⟨W4, hW4⟩ : ∃ W4, W3.alloc (.cells #[.int .u8 7, .int .u8 7, .int .u8 7] 5) = W4 := ⟨_, rfl⟩
  rw [hW4] at s4 hrd
  obtain ⟨gb, hgb⟩ : ∃ gb, W3.heap.size = gb := ⟨_, rfl⟩
  rw [hgb] at hrd
  have hl4 := (hll.kept s3).kept s4
  have hmb := n3.kept s4 (by simp)
  have hcw := ((hc1.trans s2 fun _ _ h => h).trans s3 fun _ _ h => h).trans s4 fun _ _ h => h
  have HL := Lib.hid hl4; have HB := Lib.hid hrd; have HMB := Lib.hid hmb; have HC := Lib.hid hcw
  obtain ⟨b0, b1, b2⟩ := hmb.cells
  generalize Z.getD 7 0 = z0 at a0
  clear s0 r2 s2 n2 s3 n3 s4 hrd hl4 hmb hcw hll hrow hc1 c1 r1 hg HE HZ HZL
  go_wp2_with fail
  refine (HEN.out W4 _ _ HL.out HB.out).mono ?_
  rintro e w5 ⟨p, rfl, hp, _, hc5⟩
  obtain ⟨ap, cp, rfl⟩ := hp.form
  have HL5 := Lib.hid (HL.out.kept hc5); have HB5 := Lib.hid (HB.out.kept hc5 (by simp)); have HMB5 := Lib.hid (HMB.out.kept hc5 (by simp)); have HC5 := Lib.hid (HC.out.trans hc5 fun _ _ h => h); have HP := Lib.hid hp
  clear b0 b1 b2 hW1 hW2 hW3 hW4 hgl hgm hgb a0 f0 hp hc5 HL HB HMB HC HEN
  obtain ⟨b0, b1, b2⟩ := HMB5.out.cells
  go_wp2_with fail
  refine (HDE.out w5 _ _ HL5.out HP.out).mono ?_
  rintro e w6 ⟨y, rfl, hy, hc6⟩
  simp only [outOf, errOf] at hy ⊢
  obtain ⟨ay, cy, rfl⟩ := hy.form
  have HL6 := Lib.hid (HL5.out.kept hc6); have HB6 := Lib.hid (HB5.out.kept hc6 (by simp)); have HMB6 := Lib.hid (HMB5.out.kept hc6 (by simp)); have HC6 := Lib.hid (HC5.out.trans hc6 fun _ _ h => h); have HP6 := Lib.hid (HP.out.kept hc6 (by simp)); have HY6 := Lib.hid hy
  clear b0 b1 b2 hy hc6 HL5 HB5 HMB5 HC5 HP HDE
  obtain ⟨b0, b1, b2⟩ := HMB6.out.cells
  have k1 := run_conv HP6.out
  have k2 := run_conv HY6.out
  have k3 := run_conv HB6.out
  rw [show strB [0, 4] = ⟨#[0, 4]⟩ from rfl, show ([0, 4] : List Nat).length = 2 from rfl] at k1
  rw [show strB [7, 7, 7] = ⟨#[7, 7, 7]⟩ from rfl, show ([7, 7, 7] : List Nat).length = 3 from rfl] at k2
  rw [show strB [7, 7, 7] = ⟨#[7, 7, 7]⟩ from rfl] at k3
  go_wp2_with fail
  refine (HBI.out w6 _ _ HL6.out HB6.out).mono ?_
  rintro e w7 ⟨rfl, hc7⟩
  have HC7 := Lib.hid (HC6.out.trans hc7 fun _ _ h => h)
  clear hc7 k1 k2 k3 b0 b1 b2
  go_wp2
  go_ret
  exact ⟨rfl, HC7.out⟩

end Go.Proofs.YtokeoebhmjefoaaGreat

/- What the document's own lanes (puncheonref17) tell: Encode. -/
namespace Go.Proofs.YtokeoebhmjefoaaGreat
open Go.RowKit

theorem payL_len {m : Md} {xs : List Nat} (h : m.fits xs) (hx : ∀ x ∈ xs, x < 256) (hl : xs.length ≤ 60000) : (payL m xs).length < 900000 := by
  have h1 := (payL_bounds h hx).2
  have h2 := (RM_le h.1).2.1
  have h3 : xs.length * RM m ≤ 60000 * 12 := Nat.mul_le_mul hl h2
  omega

end Go.Proofs.YtokeoebhmjefoaaGreat

/- What the document's own Counts (puncheonref08) tells: the walk. -/
namespace Go.Proofs.YtokeoebhmjefoaaGreat
open Go.RowKit

/-- the sum of a row of numbers in memory -/
def sumAt (w : World) (g : Nat) : Int := match w.heap[g]? with
  | some (.cells a _ _) => tot (a.toList.map intOf)
  | _ => 0
theorem RowI.sumAt {w : World} {g : Nat} {t : TypeId} {zs : List Int} (h : RowI w g t zs) : sumAt w g = tot zs := by
  unfold Go.Proofs.YtokeoebhmjefoaaGreat.sumAt
  rw [show w.heap[g]? = _ from h]
  simp only [iw, List.map_map]
  congr 1
  rw [show (intOf ∘ fun z => Value.int IntKind.i64 z) = id from rfl, List.map_id]

def fQ (c : List Int) (S n : Int) (i : Nat) : Int := if c.getD i 0 * S / n = 0 then min (c.getD i 0) 1 else c.getD i 0 * S / n
def fR (c : List Int) (S n : Int) (i : Nat) : Int := c.getD i 0 * S % n
def fH (c : List Int) (S n : Int) (i : Nat) : Bool := decide (c.getD i 0 * S / n = 0)

theorem base_bound {c : List Int} {S : Int} (h : Fit c S) (hS : S ≤ 4096) (s : Nat) (hs : s < 256) : 0 ≤ (qBase c S (tot c)).getD s 0 ∧ (qBase c S (tot c)).getD s 0 ≤ 4096 := by
  have hl : s < c.length := by rw [h.len]; exact hs
  rw [base_at s hl]
  have hx := h.at s hs
  have hn := h.some
  have hle : c.getD s 0 ≤ tot c := by
    have h1 := tot_take_le c (s + 1) h.low
    rw [tot_take_succ c s hl] at h1
    have := tot_nonneg (c.take s) (fun y hy => h.low y (List.mem_of_mem_take hy))
    omega
  have d := div_parts (c.getD s 0) S (tot c) hn hx h.sz
  have h2 : c.getD s 0 * S / tot c ≤ S := by
    refine Int.ediv_le_of_le_mul hn ?_
    have := Int.mul_le_mul_of_nonneg_right hle (show 0 ≤ S by have := h.sz; omega)
    rw [Int.mul_comm S]; exact this
  split <;> omega

theorem mem_bound {l : List Int} {lo hi : Int} (hl : l.length = 256) (h : ∀ s, s < 256 → lo ≤ l.getD s 0 ∧ l.getD s 0 ≤ hi) : ∀ z ∈ l, lo ≤ z ∧ z ≤ hi := by
  intro z hz
  obtain ⟨i, hi', rfl⟩ := List.mem_iff_getElem.1 hz
  have := h i (by omega)
  rwa [List.getD_eq_getElem?_getD, List.getElem?_eq_getElem hi'] at this

theorem give_bound {c : List Int} {S : Int} (h : Fit c S) (hS : S ≤ 4096) {k : Nat} {p : List Int × List Bool} (g : Gave (rest0 c S (tot c)) (qBase c S (tot c)) (had0 c S (tot c)) k p) : ∀ z ∈ p.1, 0 ≤ z ∧ z ≤ 4294967296 := by
  refine mem_bound g.len1 fun s hs => ?_
  have h1 := g.val s hs
  have h2 := base_bound h hS s hs
  rw [h1]
  split <;> omega

theorem r8richest_l (g h o cap : Nat) (t : TypeId) (q c : List Int) (w : World) (hr : RowI w g t q) (hh : RdI w (.slice (some ⟨h, o, none⟩) c.length cap) c) (hl : q.length = 256) (hl2 : c.length = 256) :
    Calls Tryz.prog 59 #[.slice (some ⟨g, 0, none⟩) 256 256, .slice (some ⟨h, o, none⟩) c.length cap] w fun e w' => e = .returned (.int .i64 ((richTo q c 255 : Nat) : Int)) ∧ ∃ m, w' = w.drewN m := by
  rw [hl2] at hh ⊢
  exact r8richest_any g h o cap t q c w hr hh hl hl2

set_option maxHeartbeats 8000000 in
set_option maxRecDepth 100000 in
theorem r8counts_room (v : Value) (c : List Int) (r : Int) (w : World) (h : RdI w v c) (hb : ∀ z ∈ c, -9223372036854775808 ≤ z ∧ z ≤ 9223372036854775807) (hl : c.length < 100000000000) (hr : -9223372036854775808 ≤ r ∧ r ≤ 9223372036854775807) :
    Calls Tryz.prog 29 #[v, .int .i64 r] w fun e w' => NormSays w c r e w' ∧ RoomE e := by
  have HT := Lib.hid (r5total_any v c w h hb hl); have HM := Lib.hid (r5many_any v c w h hb hl)
  obtain ⟨ao, cap, rfl⟩ := h.form
  have H := Lib.hid h; have HB := Lib.hid hb
  clear h hb
  by_cases h0 : totalI c = 0
  · have hno : ¬ normOk c r := fun hk => (total_pos.1 h0) ⟨hk.1, hk.2.1⟩
    have HNO := Lib.hid hno
    rw [h0] at HT
    clear hno h0
    go_enter Tryz.func29, Tryz.ntmps29
    go_wp2_with fail
    refine HT.out.mono ?_
    rintro e w' ⟨rfl, rfl⟩
    go_wp2
    go_ret2
    exact ⟨⟨_, by rw [if_neg HNO.out]; rfl, fun hk => absurd hk HNO.out, fun _ => .inl ⟨rfl, _, _, rfl⟩, Chg.refl _ _⟩, .of (Nat.le_refl _)⟩
  have hpos : isRight c ∧ 0 < tot c := by
    rcases Decidable.em (isRight c ∧ 0 < tot c) with hh | hh
    · exact hh
    · exact absurd (total_pos.2 hh) h0
  have htn : totalI c = tot c := by unfold totalI; rw [if_pos hpos.1]
  have hmn : manyI c = pos c := by unfold manyI; rw [if_pos hpos.1]
  rw [htn] at HT h0
  rw [hmn] at HM
  have hn1 : 0 < tot c := hpos.2
  have hn2 : tot c ≤ 1073741824 := hpos.1.2.2
  have hp256 : pos c ≤ 256 := by have := pos_le c; rw [hpos.1.1] at this; exact this
  obtain ⟨n, hn⟩ : ∃ n, tot c = n := ⟨_, rfl⟩
  rw [hn] at HT hn1 hn2 h0
  have hn0 : (n == 0) = false := by simp; omega
  by_cases hr1 : r < 1
  · have HNO := Lib.hid (show ¬ normOk c r from fun hk => by have := hk.2.2.1; omega)
    clear hpos htn hmn
    go_enter Tryz.func29, Tryz.ntmps29
    go_wp2_with fail
    refine HT.out.mono ?_
    rintro e w' ⟨rfl, rfl⟩
    go_wp2
    go_ret2
    exact ⟨⟨_, by rw [if_neg HNO.out]; rfl, fun hk => absurd hk HNO.out, fun _ => .inl ⟨rfl, _, _, rfl⟩, Chg.refl _ _⟩, .of (Nat.le_refl _)⟩
  by_cases hr2 : 12 < r
  · have HNO := Lib.hid (show ¬ normOk c r from fun hk => by have := hk.2.2.2.1; omega)
    clear hpos htn hmn
    go_enter Tryz.func29, Tryz.ntmps29
    go_wp2_with fail
    refine HT.out.mono ?_
    rintro e w' ⟨rfl, rfl⟩
    go_wp2
    go_ret2
    exact ⟨⟨_, by rw [if_neg HNO.out]; rfl, fun hk => absurd hk HNO.out, fun _ => .inl ⟨rfl, _, _, rfl⟩, Chg.refl _ _⟩, .of (Nat.le_refl _)⟩
  obtain ⟨k, rfl⟩ : ∃ k : Nat, r = (k : Int) := ⟨r.toNat, by omega⟩
  have hk12 : k ≤ 12 := by omega
  have HPW := Lib.hid (r8power_any k w (by omega))
  have hS := pow12 hk12
  have hS1 := Nat.two_pow_pos k
  obtain ⟨S, hSe⟩ : ∃ S, 2 ^ k = S := ⟨_, rfl⟩
  rw [hSe] at HPW hS hS1
  have hokI : normOk c (k : Int) ↔ (pos c : Int) ≤ (S : Int) := by
    unfold normOk
    rw [Int.toNat_natCast, hSe]
    exact ⟨fun hh => hh.2.2.2.2, fun hh => ⟨hpos.1, hpos.2, by omega, by omega, hh⟩⟩
  have hnr : normR c (k : Int) = normC c (S : Int) := by unfold normR; rw [Int.toNat_natCast, hSe]
  by_cases hmany : (S : Int) < (pos c : Int)
  · have HNO := Lib.hid (show ¬ normOk c (k : Int) from fun hk => by have := hokI.1 hk; omega)
    obtain ⟨p, hp⟩ : ∃ p, pos c = p := ⟨_, rfl⟩
    rw [hp] at hmany HM
    have hmany' : S < p := by omega
    clear hpos htn hmn hokI hnr hp hp256 hn hSe
    go_enter Tryz.func29, Tryz.ntmps29
    go_wp2_with fail
    refine HT.out.mono ?_
    rintro e w' ⟨rfl, rfl⟩
    go_wp2_with fail
    refine HPW.out.mono ?_
    rintro e w' ⟨rfl, rfl⟩
    go_wp2_with fail
    refine HM.out.mono ?_
    rintro e w' ⟨rfl, rfl⟩
    go_wp2
    go_ret2
    exact ⟨⟨_, by rw [if_neg HNO.out]; rfl, fun hk => absurd hk HNO.out, fun _ => .inl ⟨rfl, _, _, rfl⟩, Chg.refl _ _⟩, .of (Nat.le_refl _)⟩
  have HOK := Lib.hid (show normOk c (k : Int) from hokI.2 (by omega))
  have hfit : Fit c (S : Int) := by have := HOK.out.fit; rw [Int.toNat_natCast, hSe] at this; exact this
  have HFIT := Lib.hid hfit; have HNR := Lib.hid hnr; have HNN := Lib.hid hn
  obtain ⟨p, hp⟩ : ∃ p, pos c = p := ⟨_, rfl⟩
  rw [hp] at hmany HM
  have hmany' : ¬ S < p := by omega
  have HLEN := Lib.hid hpos.1.1
  have HRG := Lib.hid hpos.1
  have hSI : (S : Int) ≤ 4096 := by omega
  clear hpos htn hmn hokI hnr hp hp256 hn hSe hfit
  go_enter Tryz.func29, Tryz.ntmps29
  go_wp2_with fail
  refine HT.out.mono ?_
  rintro e w' ⟨rfl, rfl⟩
  go_wp2_with fail
  refine HPW.out.mono ?_
  rintro e w' ⟨rfl, rfl⟩
  go_wp2_with fail
  refine HM.out.mono ?_
  rintro e w' ⟨rfl, rfl⟩
  clear HT HPW HM
  obtain ⟨w2, hw2⟩ : ∃ w2, w2 = w' := ⟨_, rfl⟩
  subst hw2
  go_wp2_with (at_make; refine wpList_make_ints rfl _ _ rfl 256 256 256 rfl rfl rfl rfl (by omega) (fillI (fQ c S n) 0) (fillI_zero _) ?_)
  intro w3 q3 c3
  go_wp2_with (at_make; refine wpList_make_ints rfl _ _ rfl 256 256 256 rfl rfl rfl rfl (by omega) (fillI (fR c S n) 0) (fillI_zero _) ?_)
  intro w4 q4 c4
  go_wp2_with (at_make; refine wpList_make_bools rfl _ _ rfl 256 256 256 rfl rfl rfl rfl (by omega) (fillB (fH c S n) 0) (fillB_zero _) ?_)
  intro w5 q5 c5
  obtain ⟨gq, hgq⟩ : ∃ gq, gq = w2.heap.size := ⟨_, rfl⟩
  obtain ⟨gr, hgr⟩ : ∃ gr, gr = w3.heap.size := ⟨_, rfl⟩
  obtain ⟨gh, hgh⟩ : ∃ gh, gh = w4.heap.size := ⟨_, rfl⟩
  rw [← hgq] at q3 ⊢
  rw [← hgr] at q4 ⊢
  rw [← hgh] at q5 ⊢
  have l1 : gq < gr := by rw [hgr]; exact q3.lt
  have l2 : gr < gh := by rw [hgh]; exact q4.lt
  have Q5 := Lib.hid ((q3.kept c4 (by simp)).kept c5 (by simp)); have R5 := Lib.hid (q4.kept c5 (by simp)); have T5 := Lib.hid q5
  have C5 := Lib.hid ((c3.trans c4 (fun _ _ h => h)).trans c5 (fun _ _ h => h))
  have LQ := Lib.hid (show w2.heap.size ≤ gq by omega); have L1 := Lib.hid l1; have L2 := Lib.hid l2
  clear q3 q4 q5 c3 c4 c5 l1 l2 hgq hgr hgh
  go_wp2
  go_loopw [11] (fun o11 wr => ∃ s : Nat, s ≤ 256 ∧ o11 = .int .i64 (s : Int) ∧ RowI wr gq 3 (fillI (fQ c S n) s) ∧ RowI wr gr 3 (fillI (fR c S n) s) ∧ RowT wr gh 4 (fillB (fH c S n) s) ∧ Chg (fun _ => False) w2 wr) (fun o11 _ => 256 - (intOf o11).toNat)
  case atStart => exact ⟨0, Nat.zero_le _, rfl, Q5.out, R5.out, T5.out, C5.out⟩
  case round =>
    obtain ⟨s, hs, rfl, rq, rr, rt, hc⟩ := hrel
    clear Q5 R5 T5 C5
    by_cases hlt : s < 256
    · have hsl : s < c.length := by rw [HLEN.out]; exact hlt
      obtain ⟨g0, o0, rfl, hx0⟩ := H.out.at s hsl
      have hg0 : g0 < w2.heap.size := block_lt_of_cell hx0
      have hlq := LQ.out; have hl1 := L1.out; have hl2 := L2.out
      have hxw : wr.cell? ⟨g0, o0 + s, none⟩ = some (.int .i64 (c.getD s 0)) := by rw [World.cell?_of_block (w := w2) (hc.block g0 hg0 (by simp))]; exact hx0
      have hone := HRG.out.one s hsl
      have eQ : fQ c S n s = if c.getD s 0 * (S : Int) / n = 0 then min (c.getD s 0) 1 else c.getD s 0 * (S : Int) / n := rfl
      have eR : fR c S n s = c.getD s 0 * (S : Int) % n := rfl
      have eH : fH c S n s = decide (c.getD s 0 * (S : Int) / n = 0) := rfl
      have fsQ := fillI_set (fQ c S n) s hlt
      have fsR := fillI_set (fR c S n) s hlt
      have fsH := fillB_set (fH c S n) s hlt
      have fkH := fillB_skip (fH c S n) s hlt
      obtain ⟨x, hx⟩ : ∃ x, c.getD s 0 = x := ⟨_, rfl⟩
      rw [hx] at hxw hone eQ eR eH
      obtain ⟨hx1, hx2⟩ := hone
      have hP0 : 0 ≤ x * (S : Int) := Int.mul_nonneg hx1 (by omega)
      have hP1 : x * (S : Int) ≤ 1073741824 * 4096 := Int.mul_le_mul hx2 (by omega) (by omega) (by omega)
      obtain ⟨P, hP⟩ : ∃ P, x * (S : Int) = P := ⟨_, rfl⟩
      rw [hP] at hP0 hP1 eQ eR eH
      have hP2 : P ≤ 4398046511104 := by omega
      have dQ := Int.ediv_nonneg hP0 (show 0 ≤ n by omega)
      have dQ2 := Int.ediv_le_self n hP0
      have dR := Int.emod_nonneg P (show n ≠ 0 by omega)
      have dR2 := Int.emod_lt_of_pos P hn1
      have tq : P.tdiv n = P / n := Int.tdiv_eq_ediv_of_nonneg hP0
      have tr : P.tmod n = P % n := Int.tmod_eq_emod_of_nonneg hP0
      obtain ⟨Q, hQ⟩ : ∃ Q, P / n = Q := ⟨_, rfl⟩
      obtain ⟨R, hR⟩ : ∃ R, P % n = R := ⟨_, rfl⟩
      rw [hQ] at eQ eH dQ dQ2 tq
      rw [hR] at eR dR dR2 tr
      have hwP : IntKind.i64.wrap P = P := by rw [IntKind.wrap_i64]; omega
      have hwQ : IntKind.i64.wrap Q = Q := by rw [IntKind.wrap_i64]; omega
      have hwR : IntKind.i64.wrap R = R := by rw [IntKind.wrap_i64]; omega
      have s1 := Chg.setCell wr ⟨gq, s, none⟩ (.int .i64 Q)
      have rq1 := rq.set s Q
      have rr1 := rr.kept s1 (by simp; omega)
      have rt1 := rt.kept s1 (by simp; omega)
      obtain ⟨W1, hW1⟩ : ∃ W1, wr.setCell ⟨gq, s, none⟩ (.int .i64 Q) = W1 := ⟨_, rfl⟩
      rw [hW1] at s1 rq1 rr1 rt1
      have s2 := Chg.setCell W1 ⟨gr, s, none⟩ (.int .i64 R)
      have rr2 := rr1.set s R
      have rq2 := rq1.kept s2 (by simp; omega)
      have rt2 := rt1.kept s2 (by simp; omega)
      obtain ⟨W2, hW2⟩ : ∃ W2, W1.setCell ⟨gr, s, none⟩ (.int .i64 R) = W2 := ⟨_, rfl⟩
      rw [hW2] at s2 rr2 rq2 rt2
      have c2 : Chg (fun _ => False) w2 W2 := (hc.trans s1 (S := fun _ => False) (fun q hq hh => by simp at hh; omega)).trans s2 (fun q hq hh => by simp at hh; omega)
      have a0 := rq.cell s (by rw [fillI_length]; exact hlt)
      have f0 := rq.free s
      have a1 := rr1.cell s (by rw [fillI_length]; exact hlt)
      have f1 := rr1.free s
      have kx1 : W1.cell? ⟨g0, o0 + s, none⟩ = some (.int .i64 x) := by rw [World.cell?_of_block (w := wr) (s1.block g0 (by have := hc.size; omega) (by simp; omega))]; exact hxw
      have aq2 := rq2.cell s (by rw [List.length_set, fillI_length]; exact hlt)
      rw [iset_getD _ _ _ _ (by rw [fillI_length]; exact hlt), if_pos rfl] at aq2
      have hsI : (s : Int) < 256 := by omega
      have hslI : (s : Int) < (c.length : Int) := by omega
      have d8 : decide ((s : Int) < 256) = true := by simp; omega
      generalize (fillI (fQ c S n) s).getD s 0 = ov at a0
      generalize (fillI (fR c S n) s).getD s 0 = ov2 at a1
      rw [eR] at fsR
      have FSR := Lib.hid fsR
      rw [← eR] at fsR
      by_cases hQ0 : Q = 0
      · subst hQ0
        rw [if_pos rfl] at eQ
        rw [eH, decide_eq_true rfl] at fsH
        rw [eQ] at fsQ
        have s3 := Chg.setCell W2 ⟨gh, s, none⟩ (.bool true)
        have rt3 := rt2.set s true
        have rq3 := rq2.kept s3 (by simp; omega)
        have rr3 := rr2.kept s3 (by simp; omega)
        have at2 := rt2.cell s (by rw [fillB_length]; exact hlt)
        have ft2 := rt2.free s
        obtain ⟨W3, hW3⟩ : ∃ W3, W2.setCell ⟨gh, s, none⟩ (.bool true) = W3 := ⟨_, rfl⟩
        rw [hW3] at s3 rt3 rq3 rr3
        have c3 : Chg (fun _ => False) w2 W3 := c2.trans s3 (fun q hq hh => by simp at hh; omega)
        have kx3 : W3.cell? ⟨g0, o0 + s, none⟩ = some (.int .i64 x) := by rw [World.cell?_of_block (w := w2) (c3.block g0 hg0 (by simp))]; rw [hx0, hx]
        have aq3 := rq3.cell s (by rw [List.length_set, fillI_length]; exact hlt)
        have fq3 := rq3.free s
        have rq4 : ∀ M, RowI (W3.setCell ⟨gq, s, none⟩ (.int .i64 M)) gq 3 ((fillI (fQ c S n) s).set s M) := fun M => by have := rq3.set s M; rw [setset] at this; exact this
        have s4 : ∀ M, Chg (fun k => k = gq) W3 (W3.setCell ⟨gq, s, none⟩ (.int .i64 M)) := fun M => Chg.setCell W3 ⟨gq, s, none⟩ _
        rw [fsH] at rt3
        rw [FSR.out] at rr3
        generalize (fillB (fH c S n) s).getD s false = ob at at2
        generalize ((fillI (fQ c S n) s).set s 0).getD s 0 = ov3 at aq3
        have RQ4 := Lib.hid rq4; have S4 := Lib.hid s4; have RR3 := Lib.hid rr3; have RT3 := Lib.hid rt3; have C3 := Lib.hid c3; have FSQ := Lib.hid fsQ; have TQ := Lib.hid tq; have TR := Lib.hid tr
        clear rq4 s4 rr3 rt3 c3 fsQ fsR fsH fkH rq rr rt hc rq1 rr1 rt1 rr2 rq2 rt2 rq3 s1 s2 s3 c2 eQ eR eH hx hx0 hQ hR FSR
        rcases (show x = 0 ∨ x = 1 ∨ 2 ≤ x by omega) with hx' | hx' | hx'
        · subst hx'
          go_wp2
          all_goals first
            | (exfalso; omega)
            | (go_roundw
               case rel => exact ⟨s + 1, by omega, by go_num, by rw [← FSQ.out]; exact RQ4.out 0, RR3.out.kept (S4.out 0) (by have := L1.out; omega), RT3.out.kept (S4.out 0) (by have := L1.out; have := L2.out; omega), C3.out.trans (S4.out 0) (fun q hq hh => by have := LQ.out; omega)⟩
               case measure => simp [intOf]; omega)
        · subst hx'
          go_wp2
          all_goals first
            | (exfalso; omega)
            | (go_roundw
               case rel => exact ⟨s + 1, by omega, by go_num, by rw [← FSQ.out]; exact RQ4.out 1, RR3.out.kept (S4.out 1) (by have := L1.out; omega), RT3.out.kept (S4.out 1) (by have := L1.out; have := L2.out; omega), C3.out.trans (S4.out 1) (fun q hq hh => by have := LQ.out; omega)⟩
               case measure => simp [intOf]; omega)
        · have hmin : min x 1 = 1 := by omega
          rw [hmin] at FSQ
          go_wp2
          all_goals first
            | (exfalso; omega)
            | (go_roundw
               case rel => exact ⟨s + 1, by omega, by go_num, by rw [← FSQ.out]; exact RQ4.out 1, RR3.out.kept (S4.out 1) (by have := L1.out; omega), RT3.out.kept (S4.out 1) (by have := L1.out; have := L2.out; omega), C3.out.trans (S4.out 1) (fun q hq hh => by have := LQ.out; omega)⟩
               case measure => simp [intOf]; omega)
      · rw [if_neg hQ0] at eQ
        have fkH' := fkH (by rw [eH]; exact decide_eq_false hQ0)
        rw [eQ] at fsQ
        have hQb : (Q == 0) = false := by simp [hQ0]
        rw [fsQ] at rq2
        rw [FSR.out] at rr2
        rw [fkH'] at rt2
        have RQ2 := Lib.hid rq2; have RR2 := Lib.hid rr2; have RT2 := Lib.hid rt2; have C2 := Lib.hid c2
        clear rq2 rr2 rt2 c2 fsQ fsR fsH fkH fkH' rq rr rt hc rq1 rr1 rt1 s1 s2 eQ eR eH hx hx0 hQ hR FSR
        go_wp2
        go_roundw
        case rel => exact ⟨s + 1, by omega, by go_num, RQ2.out, RR2.out, RT2.out, C2.out⟩
        case measure => simp [intOf]; omega
    · have hse : s = 256 := by omega
      have hsI : (s : Int) = 256 := by omega
      rw [hse] at rq rr rt
      rw [hsI]
      clear hse hsI hs hlt
      have hlenc := HLEN.out
      rw [fillI_all (fQ c S n) (qBase c S n) (by simp [qBase, hlenc]) (fun u hu => base_at u (by omega))] at rq
      rw [fillI_all (fR c S n) (rest0 c S n) (by simp [rest0, hlenc]) (fun u hu => rest_at u (by omega))] at rr
      rw [fillB_all (fH c S n) (had0 c S n) (by simp [had0, hlenc]) (fun u hu => had_at u (by omega))] at rt
      have hfit := HFIT.out
      have hroom := give_room (size := (S : Int)) hfit.low rfl hfit.some
      have hgave : ∀ j, j ≤ cntN (rest0 c S (tot c)) (had0 c S (tot c)) → Gave (rest0 c S (tot c)) (qBase c S (tot c)) (had0 c S (tot c)) j (giveN (rest0 c S (tot c)) j (qBase c S (tot c)) (had0 c S (tot c))) := fun j hj =>
        Go.Proofs.YtokeoebhmjefoaaGreat.gave (by simp [rest0, hlenc]) (by simp [qBase, hlenc]) (by simp [had0, hlenc]) j hj
      have hgs := hfit.gaveSum
      have hgc : gaveC c S (tot c) = (giveN (rest0 c S (tot c)) ((S : Int) - tot (qBase c S (tot c))).toNat (qBase c S (tot c)) (had0 c S (tot c))).1 := rfl
      have hbnd : ∀ j, j ≤ cntN (rest0 c S (tot c)) (had0 c S (tot c)) → ∀ z ∈ (giveN (rest0 c S (tot c)) j (qBase c S (tot c)) (had0 c S (tot c))).1, 0 ≤ z ∧ z ≤ 4294967296 := fun j hj => give_bound hfit hSI (hgave j hj)
      rw [← HNN.out] at rq rr rt
      have hrl : (rest0 c S (tot c)).length = 256 := by simp [rest0, hlenc]
      obtain ⟨rs, hrs⟩ : ∃ rs, rest0 c S (tot c) = rs := ⟨_, rfl⟩
      obtain ⟨qb, hqb⟩ : ∃ qb, qBase c S (tot c) = qb := ⟨_, rfl⟩
      obtain ⟨hd, hhd⟩ : ∃ hd, had0 c S (tot c) = hd := ⟨_, rfl⟩
      rw [hrs] at rr hroom hgave hgc hbnd hrl
      rw [hqb] at rq hroom hgave hgc hbnd hgs
      rw [hhd] at rt hroom hgave hgc hbnd
      obtain ⟨D, hD⟩ : ∃ D, ((S : Int) - tot qb).toNat = D := ⟨_, rfl⟩
      rw [hD] at hroom hgc
      obtain ⟨tB, htB⟩ : ∃ tB, tot qb = tB := ⟨_, rfl⟩
      rw [htB] at hD hgs
      have HROOM := Lib.hid hroom; have HGAVE := Lib.hid hgave; have HGS := Lib.hid hgs; have HGC := Lib.hid hgc; have HBND := Lib.hid hbnd; have HRL := Lib.hid hrl; have HD := Lib.hid hD; have HTB := Lib.hid htB
      have RQ := Lib.hid rq; have RR := Lib.hid rr; have RT := Lib.hid rt; have CC := Lib.hid hc
      clear hroom hgave hgs hgc hbnd hrl hD htB rq rr rt hc hrs hqb hhd hlenc hfit
      go_wp2
      go_loopw [12] (fun _ wr => ∃ j : Nat, j ≤ D ∧ RowI wr gq 3 (giveN rs j qb hd).1 ∧ RowI wr gr 3 rs ∧ RowT wr gh 4 (giveN rs j qb hd).2 ∧ Chg (fun _ => False) w2 wr) (fun _ wr => ((S : Int) - sumAt wr gq).toNat)
      case atStart => exact ⟨0, Nat.zero_le _, RQ.out, RR.out, RT.out, CC.out⟩
      case round =>
        obtain ⟨j, hj, rq, rr, rt, hc⟩ := hrel
        clear RQ RR RT CC
        have g := HGAVE.out j (by have := HROOM.out; omega)
        have hsum := g.sum
        rw [HTB.out] at hsum
        have rd := rq.rd 256
        rw [g.len1] at rd
        have hs1 := rq.sumAt
        rw [hsum] at hs1
        have hDe := HD.out
        by_cases hjD : j < D
        · obtain ⟨s, hn, hs256, hps, g2⟩ := gave_step HRL.out g (by have := HROOM.out; omega)
          have hgn : giveN rs (j + 1) qb hd = ((giveN rs j qb hd).1.set s ((giveN rs j qb hd).1.getD s 0 + 1), (giveN rs j qb hd).2.set s true) := by rw [giveN_succ, giveStep_some hn]
          have hzb := HBND.out j (by have := HROOM.out; omega) _ (getD_mem (cs := (giveN rs j qb hd).1) (k := s) (by rw [g.len1]; exact hs256))
          have aq := rq.cell s (by rw [g.len1]; exact hs256)
          have fq := rq.free s
          have at1 := rt.cell s (by rw [g.len2]; exact hs256)
          have ft1 := rt.free s
          have BND := Lib.hid (HBND.out j (by have := HROOM.out; omega))
          have HNE := Lib.hid (r8neediest_any gr gh _ _ rs (giveN rs j qb hd).2 wr rr rt HRL.out g.len2)
          have l1 := g.len1
          have hl1 := L1.out; have hl2 := L2.out; have hlq := LQ.out
          obtain ⟨z, hz⟩ : ∃ z, (giveN rs j qb hd).1.getD s 0 = z := ⟨_, rfl⟩
          rw [hz] at hgn hzb aq
          have st1 := Chg.setCell wr ⟨gh, s, none⟩ (.bool true)
          have rt1 := rt.set s true
          have rq1 := rq.kept st1 (by simp; omega)
          have rr1 := rr.kept st1 (by simp; omega)
          have c1 : Chg (fun _ => False) w2 _ := hc.trans st1 (S := fun _ => False) (fun q hq hh => by simp at hh; omega)
          have st2 := Chg.setCell (wr.setCell ⟨gh, s, none⟩ (.bool true)) ⟨gq, s, none⟩ (.int .i64 (z + 1))
          have rq2 := rq1.set s (z + 1)
          have rr2 := rr1.kept st2 (by simp; omega)
          have rt2 := rt1.kept st2 (by simp; omega)
          have c2 : Chg (fun _ => False) w2 _ := c1.trans st2 (S := fun _ => False) (fun q hq hh => by simp at hh; omega)
          have aq1 := rq1.cell s (by rw [l1]; exact hs256)
          have fq1 := rq1.free s
          rw [hz] at aq1
          have eq1 : (giveN rs (j + 1) qb hd).1 = (giveN rs j qb hd).1.set s (z + 1) := by rw [hgn]
          have eq2 : (giveN rs (j + 1) qb hd).2 = (giveN rs j qb hd).2.set s true := by rw [hgn]
          rw [← eq1] at rq2
          rw [← eq2] at rt2
          have g3 := HGAVE.out (j + 1) (by have := HROOM.out; omega)
          have hsum3 := g3.sum
          rw [HTB.out] at hsum3
          have hs3 := rq2.sumAt
          rw [hsum3] at hs3
          rw [hn] at HNE
          have hlt : tB + (j : Int) < (S : Int) := by omega
          have RD := Lib.hid rd; have HS := Lib.hid hsum; have RQ2 := Lib.hid rq2; have RR2 := Lib.hid rr2; have RT2 := Lib.hid rt2; have C2 := Lib.hid c2; have HS1 := Lib.hid hs1; have HS3 := Lib.hid hs3
          have hsI : (s : Int) < 256 := by omega
          obtain ⟨hz0, hz1⟩ := hzb
          generalize (giveN rs j qb hd).2.getD s false = ob at at1
          have L1000 := Lib.hid (show (giveN rs j qb hd).1.length ≤ 1000 by rw [l1]; omega)
          clear rd hsum rq2 rr2 rt2 c2 hs1 hs3 rq rr rt hc g g2 g3 hgn eq1 eq2 rq1 rr1 rt1 st1 st2 c1 hsum3 hn hz l1 hps
          go_wp2_with fail
          refine (r8sum_any _ _ wr RD.out BND.out L1000.out).mono ?_
          rintro e w6 ⟨rfl, rfl⟩
          rw [HS.out]
          go_wp2_with fail
          refine HNE.out.mono ?_
          rintro e w7 ⟨rfl, m, rfl⟩
          simp only [idx]
          clear HNE
          go_wp2
          go_roundw
          case rel => exact ⟨j + 1, by omega, RowI.kept (w := (w6.setCell ⟨gh, s, none⟩ (.bool true)).setCell ⟨gq, s, none⟩ (.int .i64 (z + 1))) RQ2.out ((Chg.refl (fun _ => False) _).drewN m) (by simp), RowI.kept (w := (w6.setCell ⟨gh, s, none⟩ (.bool true)).setCell ⟨gq, s, none⟩ (.int .i64 (z + 1))) RR2.out ((Chg.refl (fun _ => False) _).drewN m) (by simp), RowT.kept (w := (w6.setCell ⟨gh, s, none⟩ (.bool true)).setCell ⟨gq, s, none⟩ (.int .i64 (z + 1))) RT2.out ((Chg.refl (fun _ => False) _).drewN m) (by simp), C2.out.drewN m⟩
          case measure =>
            show ((S : Int) - sumAt ((w6.setCell ⟨gh, s, none⟩ (.bool true)).setCell ⟨gq, s, none⟩ (.int .i64 (z + 1))) gq).toNat < ((S : Int) - sumAt w6 gq).toNat
            rw [HS1.out, HS3.out]; omega
        · obtain rfl : j = D := by omega
          have hge : ¬ tB + (j : Int) < (S : Int) := by omega
          have BND := Lib.hid (HBND.out j (by have := HROOM.out; omega))
          have L1000 := Lib.hid (show (giveN rs j qb hd).1.length ≤ 1000 by rw [g.len1]; omega)
          have RD := Lib.hid rd; have HS := Lib.hid hsum
          have eg : (giveN rs j qb hd).1 = gaveC c S (tot c) := HGC.out.symm
          have RQ := Lib.hid rq; have CC := Lib.hid hc; have HGE := Lib.hid hge; have EG := Lib.hid eg
          clear rd hsum rq rr rt hc g hs1 eg
          go_wp2_with fail
          refine (r8sum_any _ _ wr RD.out BND.out L1000.out).mono ?_
          rintro e w6 ⟨rfl, rfl⟩
          rw [HS.out]
          have hfit := HFIT.out
          have hgs := HGS.out
          have hmn := hfit.many
          obtain ⟨G, hG⟩ : ∃ G, gaveC c S (tot c) = G := ⟨_, rfl⟩
          have htook : ∀ i : Nat, (i : Int) ≤ tot G - (S : Int) → Took c G i (takeN c i G) := fun i hi => by
            have t0 := hfit.took0
            rw [hG] at t0
            exact Go.Proofs.YtokeoebhmjefoaaGreat.took hfit.len t0 i (by omega)
          have hnc : normC c (S : Int) = takeN c (tot G - (S : Int)).toNat G := by unfold normC; rw [hG]
          have hGb : ∀ s, s < 256 → G.getD s 0 ≤ 4294967296 := fun s hs => by
            have h1 := EG.out
            rw [hG] at h1
            have h2 := BND.out _ (getD_mem (cs := (giveN rs j qb hd).1) (k := s) (by have := (HGAVE.out j HROOM.out).len1; omega))
            rw [h1] at h2
            exact h2.2
          have rq := RQ.out
          rw [EG.out, hG] at rq
          rw [hG] at hgs
          obtain ⟨tG, htG⟩ : ∃ tG, tot G = tG := ⟨_, rfl⟩
          rw [htG] at hgs htook hnc
          obtain ⟨T, hT⟩ : ∃ T, (tG - (S : Int)).toNat = T := ⟨_, rfl⟩
          rw [hT] at hnc
          have HTOOK := Lib.hid htook; have HNC := Lib.hid hnc; have HGB := Lib.hid hGb; have HTG := Lib.hid htG; have HTT := Lib.hid (show (T : Int) = tG - (S : Int) by omega); have RQ2 := Lib.hid rq
          clear htook hnc hGb rq hG htG hT hgs hmn hfit HGC RQ RD BND L1000 HS HGAVE HBND HGS EG HROOM HD hDe hjD hj
          obtain ⟨g0, o0, rfl, hx0⟩ := H.out.at 0 (by rw [HLEN.out]; omega)
          clear hx0
          go_wp2
          go_loopw [92] (fun _ wr => ∃ i : Nat, i ≤ T ∧ RowI wr gq 3 (takeN c i G) ∧ Chg (fun _ => False) w2 wr) (fun _ wr => (sumAt wr gq - (S : Int)).toNat)
          case atStart => exact ⟨0, Nat.zero_le _, RQ2.out, CC.out⟩
          case round =>
            obtain ⟨i, hi, rq, hc⟩ := hrel
            clear RQ2 CC
            have htt := HTT.out
            have t := HTOOK.out i (by omega)
            have hsum := t.sum
            rw [HTG.out] at hsum
            have rd := rq.rd 256
            rw [t.len] at rd
            have hs1 := rq.sumAt
            rw [hsum] at hs1
            have BND := Lib.hid (mem_bound (lo := 0) (hi := 4294967296) t.len (fun s hs => ⟨(t.low s hs).1, Int.le_trans (t.top s hs) (HGB.out s hs)⟩))
            have L1000 := Lib.hid (show (takeN c i G).length ≤ 1000 by rw [t.len]; omega)
            have RD := Lib.hid rd; have HS := Lib.hid hsum
            by_cases hiT : i < T
            · have hmany2 := HFIT.out.many
              obtain ⟨hb256, hz1, t2⟩ := took_step HLEN.out t (by rw [hsum]; omega)
              have HRI := Lib.hid (r8richest_l gq g0 o0 cap 3 (takeN c i G) c wr rq (H.out.kept hc (by simp)) t.len HLEN.out)
              have hst : takeN c (i + 1) G = (takeN c i G).set (richTo (takeN c i G) c 255) ((takeN c i G).getD (richTo (takeN c i G) c 255) 0 - 1) := by rw [takeN_succ]; rfl
              have hzt := t.top (richTo (takeN c i G) c 255) hb256
              have hzg := HGB.out (richTo (takeN c i G) c 255) hb256
              obtain ⟨b, hb⟩ : ∃ b, richTo (takeN c i G) c 255 = b := ⟨_, rfl⟩
              rw [hb] at hb256 hz1 hst HRI hzt hzg
              have aq := rq.cell b (by rw [t.len]; exact hb256)
              have fq := rq.free b
              obtain ⟨z, hz⟩ : ∃ z, (takeN c i G).getD b 0 = z := ⟨_, rfl⟩
              rw [hz] at hz1 hst aq hzt
              have rq1 := rq.set b (z - 1)
              rw [← hst] at rq1
              have c1 : Chg (fun _ => False) w2 (wr.setCell ⟨gq, b, none⟩ (.int .i64 (z - 1))) := hc.trans (Chg.setCell wr ⟨gq, b, none⟩ _) (fun q hq hh => by have := LQ.out; simp at hh; omega)
              have t3 := HTOOK.out (i + 1) (by omega)
              have hsum3 := t3.sum
              rw [HTG.out] at hsum3
              have hs3 := rq1.sumAt
              rw [hsum3] at hs3
              have hgt : (S : Int) < tG - (i : Int) := by omega
              have hbI : (b : Int) < 256 := by omega
              have hz2 : z ≤ 4294967296 := by omega
              have RQ1 := Lib.hid rq1; have C1 := Lib.hid c1; have HS1 := Lib.hid hs1; have HS3 := Lib.hid hs3; have HTT2 := Lib.hid htt
              clear rq1 c1 hs1 hs3 t3 hsum3 t t2 hst hz hb rq hc rd hsum hzt hzg hmany2
              go_wp2_with fail
              refine (r8sum_any _ _ wr RD.out BND.out L1000.out).mono ?_
              rintro e w7 ⟨rfl, rfl⟩
              rw [HS.out]
              clear htt
              go_wp2_with fail
              refine HRI.out.mono ?_
              rintro e w8 ⟨rfl, m, rfl⟩
              clear HRI
              go_wp2
              go_roundw
              case rel => exact ⟨i + 1, by omega, RowI.kept (w := w7.setCell ⟨gq, b, none⟩ (.int .i64 (z - 1))) RQ1.out ((Chg.refl (fun _ => False) _).drewN m) (by simp), C1.out.drewN m⟩
              case measure =>
                show (sumAt (w7.setCell ⟨gq, b, none⟩ (.int .i64 (z - 1))) gq - (S : Int)).toNat < (sumAt w7 gq - (S : Int)).toNat
                have := HTT2.out
                rw [HS1.out, HS3.out]; omega
            · obtain rfl : i = T := by omega
              have hle : ¬ (S : Int) < tG - (i : Int) := by omega
              rw [← HNC.out] at rq
              have hnl := norm_len HFIT.out
              have own := rq.own 256 w2.heap.size LQ.out
              rw [hnl, ← HNR.out] at own
              have OWN := Lib.hid own; have CC := Lib.hid hc
              clear rq own hnl hc t hs1 htt rd hsum
              go_wp2_with fail
              refine (r8sum_any _ _ wr RD.out BND.out L1000.out).mono ?_
              rintro e w7 ⟨rfl, rfl⟩
              rw [HS.out]
              go_wp2
              go_ret2
              exact ⟨⟨_, by rw [if_pos HOK.out]; rfl, fun _ => OWN.out, fun hk => absurd HOK.out hk, CC.out⟩, .of (Nat.le_refl _)⟩

theorem r8counts_any (v : Value) (c : List Int) (r : Int) (w : World) (h : RdI w v c) (hb : ∀ z ∈ c, -9223372036854775808 ≤ z ∧ z ≤ 9223372036854775807) (hl : c.length < 100000000000) (hr : -9223372036854775808 ≤ r ∧ r ≤ 9223372036854775807) :
    Calls Tryz.prog 29 #[v, .int .i64 r] w fun e w' => NormSays w c r e w' := (r8counts_room v c r w h hb hl hr).mono fun _ _ h => h.1

end Go.Proofs.YtokeoebhmjefoaaGreat

/- What the document's own Widest (puncheonref06) tells. -/
namespace Go.Proofs.YtokeoebhmjefoaaGreat
open Go.RowKit

set_option maxHeartbeats 1000000 in
set_option maxRecDepth 100000 in
theorem r6widest_any (v : Value) (xs : List Nat) (w : World) (h : RdB w v xs) (hx : ∀ x ∈ xs, x < 256) (hl : xs.length < 10000000000) :
    Calls Tryz.prog 30 #[v] w fun e w' => e = .returned (.int .i64 ((widest xs : Nat) : Int)) ∧ Chg (fun _ => False) w w' := by
  obtain ⟨ao, cap, rfl⟩ := h.form
  have H := Lib.hid h; have HX := Lib.hid hx
  clear h hx
  obtain ⟨W, hW⟩ : ∃ W, widest xs = W := ⟨_, rfl⟩
  rw [hW]
  have HW := Lib.hid hW
  clear hW
  go_enter Tryz.func30, Tryz.ntmps30
  go_wp2
  go_loopw [3, 4] (fun o3 o4 wr => ∃ c : Nat, c ≤ 256 ∧ o4 = .int .i64 (c : Int) ∧ o3 = .int .i64 ((wid xs c : Nat) : Int) ∧ Chg (fun _ => False) w wr) (fun _ o4 _ => 256 - (intOf o4).toNat)
  case atStart => exact ⟨0, Nat.zero_le _, rfl, rfl, Chg.refl _ _⟩
  case round =>
    obtain ⟨c, hcc, rfl, rfl, hc⟩ := hrel
    by_cases hlt : c < 256
    · have hwd : wid xs (c + 1) = max (wid xs c) (manyI (cnt (sel xs (c : Int)))) := rfl
      have hml := manyI_le (cnt (sel xs (c : Int)))
      have hwl := wid_le xs c
      obtain ⟨m, hm⟩ : ∃ m, manyI (cnt (sel xs (c : Int))) = m := ⟨_, rfl⟩
      obtain ⟨q, hq⟩ : ∃ q, wid xs c = q := ⟨_, rfl⟩
      rw [hm] at hwd hml
      rw [hq] at hwd hwl ⊢
      have HWD := Lib.hid hwd; have HM := Lib.hid hm
      have HML := Lib.hid hml; have HWL := Lib.hid hwl; have HC := Lib.hid hc
      clear hwd hm hq hml hwl hc
      have d8 : decide ((c : Int) < 256) = true := by simp; omega
      go_wp2_with fail
      refine (r6for_any _ xs (c : Int) wr (H.out.kept HC.out (by simp)) HX.out hl).mono ?_
      rintro e w2 ⟨v2, rfl, ho2, hc2⟩
      have hc2' := HC.out.trans hc2 (fun _ _ h => h)
      clear HC hc2
      go_wp2_with fail
      refine (r5many_any _ _ w2 ho2.rd (fun z hz => ?_) (by rw [cnt_length]; omega)).mono ?_
      · obtain ⟨i, hi, rfl⟩ := List.mem_iff_getElem.1 hz
        rw [cnt_length] at hi
        have h1 := cnt_getD (sel xs (c : Int)) i hi
        rw [List.getD_eq_getElem?_getD, List.getElem?_eq_getElem (by rw [cnt_length]; exact hi)] at h1
        simp only [Option.getD_some] at h1
        have h2 := List.count_le_length (l := sel xs (c : Int)) (a := i)
        have h3 := sel_len xs (c : Int)
        rw [h1]; omega
      rintro e w3 ⟨rfl, rfl⟩
      rw [HM.out]
      clear ho2 HM
      have hml := HML.out; have hwl := HWL.out
      have hmx : max (q : Int) (m : Int) = ((max q m : Nat) : Int) := by omega
      by_cases hqm : q ≤ m
      · have d1 : max q m = m := by omega
        rw [d1] at HWD
        clear d1 hmx
        go_wp2
        all_goals first
          | (go_roundw
             case rel => exact ⟨c + 1, by omega, by go_num, by rw [HWD.out]; go_num, hc2'⟩
             case measure => simp [intOf]; omega)
          | (exfalso; omega)
      · have d1 : max q m = q := by omega
        rw [d1] at HWD
        clear d1 hmx
        go_wp2
        all_goals first
          | (go_roundw
             case rel => exact ⟨c + 1, by omega, by go_num, by rw [HWD.out]; go_num, hc2'⟩
             case measure => simp [intOf]; omega)
          | (exfalso; omega)
    · obtain rfl : c = 256 := by omega
      rw [show wid xs 256 = W from HW.out]
      go_wp2
      go_ret
      exact ⟨rfl, hc⟩

end Go.Proofs.YtokeoebhmjefoaaGreat

/- What the document's own model (puncheonref16) tells: Zero. -/
namespace Go.Proofs.YtokeoebhmjefoaaGreat
open Go.RowKit

/-- a model is laid into a block -/
def W3 (w : World) (g : Nat) (log : Int) (one : Bool) (cv : Value) : World := ((w.setCell ⟨g, 0, none⟩ (.int .i64 log)).setCell ⟨g, 1, none⟩ (.bool one)).setCell ⟨g, 2, none⟩ cv
theorem W3_chg (w : World) (g : Nat) (log : Int) (one : Bool) (cv : Value) : Chg (fun q => q = g) w (W3 w g log one cv) :=
  ((Chg.setCell w ⟨g, 0, none⟩ _).trans (Chg.setCell _ ⟨g, 1, none⟩ _) fun _ _ h => h).trans (Chg.setCell _ ⟨g, 2, none⟩ _) fun _ _ h => h
theorem W3_cells {w : World} {g : Nat} {log0 : Int} {one0 : Bool} {cv0 : Value} (h : Mb w g log0 one0 cv0) (log : Int) (one : Bool) (cv : Value) :
    (w.setCell ⟨g, 0, none⟩ (.int .i64 log)).cell? ⟨g, 0, none⟩ = some (.int .i64 log) ∧ ((w.setCell ⟨g, 0, none⟩ (.int .i64 log)).setCell ⟨g, 1, none⟩ (.bool one)).cell? ⟨g, 1, none⟩ = some (.bool one) ∧ (W3 w g log one cv).cell? ⟨g, 2, none⟩ = some cv ∧ Mb (W3 w g log one cv) g log one cv := by
  have h1 := heap_setCell_same w g 0 _ _ (.int .i64 log) h
  have h2 := heap_setCell_same _ g 1 _ _ (.bool one) h1
  have h3 := heap_setCell_same _ g 2 _ _ cv h2
  exact ⟨by rw [cell_of_row _ _ 0 _ _ _ h1]; rfl, by rw [cell_of_row _ _ 1 _ _ _ h2]; rfl, by unfold W3; rw [cell_of_row _ _ 2 _ _ _ h3]; rfl, h3⟩
theorem zeroModel (W : World) : (zeroValue 26).run Tryz.prog W = .ok (.agg #[.int .i64 0, .bool false, .slice none 0 0]) W := by kernel_rfl

theorem mem_le_total (l : List Int) (h : isRight l) : ∀ z ∈ l, z ≤ 1073741824 := by
  intro z hz
  obtain ⟨i, hi, rfl⟩ := List.mem_iff_getElem.1 hz
  have := (h.one i hi).2
  rwa [List.getD_eq_getElem?_getD, List.getElem?_eq_getElem hi] at this

set_option maxHeartbeats 2000000 in
theorem r16zero_any (v : Value) (xs : List Nat) (w : World) (h : RdB w v xs) (hx : ∀ x ∈ xs, x < 256) (hl : xs.length ≤ 1000000) (h0 : 0 < xs.length) :
    Calls Tryz.prog 10 #[v] w fun e w' => ∃ u, e = .returned u ∧ RdM w' u (zeroM xs) ∧ Chg (fun _ => False) w w' := by
  obtain ⟨ao, cap, rfl⟩ := h.form
  have hca := Chg.alloc (fun _ => False) w (.cells #[.int .i64 0, .bool false, .slice none 0 0] 26)
  have hnew : Mb _ _ 0 false (.slice none 0 0) := heap_alloc_new w (.cells #[.int .i64 0, .bool false, .slice none 0 0] 26)
  have hrd := h.kept hca (by simp)
  have hof := r5of_any _ xs _ hrd hx (by omega)
  have hz := zeroModel
  obtain ⟨hok, hz1, hz2⟩ := zero_ok xs hx (by omega) h0
  obtain ⟨n, hn⟩ : ∃ n, xs.length = n := ⟨_, rfl⟩
  have hzl : zeroLog xs = pickI (n : Int) ((manyI (cnt xs) : Nat) : Int) 11 := by rw [← hn]; rfl
  have hml := manyI_le (cnt xs)
  have hcr := cnt_right xs hx (by omega)
  rw [hn] at hof hl ⊢
  have HOF := Lib.hid hof; have HCA := Lib.hid hca; have HNEW := Lib.hid hnew; have HOK := Lib.hid hok; have HZL := Lib.hid hzl; have HCR := Lib.hid hcr
  obtain ⟨M, hM⟩ : ∃ M, manyI (cnt xs) = M := ⟨_, rfl⟩
  rw [hM] at HZL hml
  have HM := Lib.hid hM
  obtain ⟨R, hR⟩ : ∃ R, zeroLog xs = R := ⟨_, rfl⟩
  rw [hR] at HZL HOK hz1 hz2
  have HR := Lib.hid hR
  have hnI : (n : Int) ≤ 1000000 := by omega
  have hMI : (M : Int) ≤ 256 := by omega
  clear h hca hnew hrd hof hok hzl hcr hM hR hn hx hl h0 hml
  go_enter Tryz.func10, Tryz.ntmps10
  go_wp2_with fail
  refine HOF.out.mono ?_
  rintro e w2 ⟨c, rfl, hc2, hg2⟩
  have hmb2 := HNEW.out.kept hg2 (by simp)
  have hw2 := HCA.out.trans hg2 fun _ _ h => h
  have hbn : ∀ z ∈ cnt xs, -9223372036854775808 ≤ z ∧ z ≤ 9223372036854775807 := fun z hz => by
    have h1 := cnt_nonneg xs z hz
    have h2 := mem_le_total (cnt xs) HCR.out z hz
    omega
  have hmn := r5many_any c (cnt xs) w2 hc2.rd hbn (by rw [cnt_length]; omega)
  rw [HM.out] at hmn
  have hpk := r7pick_any (n : Int) (M : Int) 11 w2 (by omega) (by omega) (by omega) (by omega) (by omega) (by omega)
  rw [← HZL.out] at hpk
  have hct := r8counts_room c (cnt xs) R w2 hc2.rd hbn (by rw [cnt_length]; omega) (by omega)
  have HMN := Lib.hid hmn; have HPK := Lib.hid hpk; have HCT := Lib.hid hct; have HMB2 := Lib.hid hmb2; have HW2 := Lib.hid hw2
  obtain ⟨ac, lc, hcf⟩ : ∃ ac lc, c = .slice ac 256 lc := by obtain ⟨g, off, cc, he, _⟩ := hc2; exact ⟨_, _, by rw [he, cnt_length]⟩
  subst hcf
  clear hbn hmn hpk hct hmb2 hw2 hc2 hg2 HOF HCA HNEW
  go_wp2_with fail
  refine HMN.out.mono ?_
  rintro e w3 ⟨rfl, rfl⟩
  go_wp2_with fail
  refine HPK.out.mono ?_
  rintro e w4 ⟨rfl, rfl⟩
  go_wp2_with fail
  refine HCT.out.mono ?_
  rintro e w5 ⟨⟨q, rfl, hq5, -, hc5⟩, hrm⟩
  have hrm := hrm _ _ rfl
  rw [if_pos HOK.out]
  have hq5 := hq5 HOK.out
  have hmb5 := HMB2.out.kept hc5 (by simp)
  have hw5 := HW2.out.trans hc5 fun _ _ h => h
  obtain ⟨aq, lq, hqf⟩ : ∃ aq lq, q = .slice aq 256 lq := by obtain ⟨g, off, cc, he, _⟩ := hq5; exact ⟨_, _, by rw [he, (normR_right HOK.out).1.1]⟩
  subst hqf
  have hca6 := Chg.alloc (fun _ => False) w5 (.cells #[.slice aq 256 lq] 34)
  have hnew6 := heap_alloc_new w5 (.cells #[.slice aq 256 lq] 34)
  obtain ⟨W6, hW6⟩ : ∃ W6, w5.alloc (.cells #[.slice aq 256 lq] 34) = W6 := ⟨_, rfl⟩
  rw [hW6] at hca6 hnew6
  have hmb6 := hmb5.kept hca6 (by simp)
  obtain ⟨y0, y1, y2, hmb7⟩ := W3_cells hmb6 R true (.slice (some ⟨w5.heap.size, 0, none⟩) 1 1)
  have hc7 := W3_chg W6 w.heap.size R true (.slice (some ⟨w5.heap.size, 0, none⟩) 1 1)
  have hlt5 : w.heap.size < w5.heap.size := hmb5.lt
  have hrow7 : (W3 W6 w.heap.size R true (.slice (some ⟨w5.heap.size, 0, none⟩) 1 1)).heap[w5.heap.size]? = _ := (hc7.block w5.heap.size (lt_of_block hnew6) (by omega)).trans hnew6
  have hq7 : RdI (W3 W6 w.heap.size R true (.slice (some ⟨w5.heap.size, 0, none⟩) 1 1)) (.slice aq 256 lq) (normR (cnt xs) R) := ((hq5.rd.kept hca6 (by simp)).kept hc7 (fun k hk he => by
    obtain ⟨g, off, cc, he2, hg, _⟩ := hq5
    rw [he2] at hk
    simp only [Value.ownBlock, Option.some.injEq] at hk
    have := HMB2.out.lt
    omega))
  have hrd7 : RdM (W3 W6 w.heap.size R true (.slice (some ⟨w5.heap.size, 0, none⟩) 1 1)) (.agg #[.int .i64 R, .bool true, .slice (some ⟨w5.heap.size, 0, none⟩) 1 1]) (zeroM xs) := by
    refine ⟨.slice (some ⟨w5.heap.size, 0, none⟩) 1 1, ?_, .inr ⟨w5.heap.size, 0, 1, rfl, fun j hj => ?_⟩⟩
    · show _ = Value.agg #[.int .i64 (zeroLog xs), .bool true, _]
      rw [HR.out]
    · have hj0 : j = 0 := by have : (zeroM xs).cs.length = 1 := rfl; omega
      subst hj0
      refine ⟨.slice aq 256 lq, by rw [cell_of_row _ _ _ _ _ _ hrow7]; rfl, ?_⟩
      show RdIr _ _ ([normR (cnt xs) (zeroLog xs)].getD 0 [])
      rw [HR.out, List.getD_cons_zero]
      exact ⟨hq7, hrm⟩
  have hc8 : Chg (fun _ => False) w (W3 W6 w.heap.size R true (.slice (some ⟨w5.heap.size, 0, none⟩) 1 1)) := (hw5.trans hca6 fun _ _ h => h).trans hc7 fun k hk he => by omega
  obtain ⟨z0, z1, z2⟩ := hmb6.cells
  have f0 := frozen_of_row W6 w.heap.size 0 _ _ hmb6
  have f1 := frozen_of_row W6 w.heap.size 1 _ _ hmb6
  have f2 := frozen_of_row W6 w.heap.size 2 _ _ hmb6
  have HRD7 := Lib.hid hrd7; have HC8 := Lib.hid hc8
  unfold W3 at y2 HRD7 HC8
  clear hrm hq5 hmb5 hw5 hca6 hnew6 hmb6 hmb7 hc7 hlt5 hrow7 hq7 hrd7 hc8 hc5 HMN HPK HCT HMB2 HW2 HOK HCR HM
  go_wp2
  refine bodyPost_ret (v := .agg #[.int .i64 R, .bool true, .slice (some ⟨w5.heap.size, 0, none⟩) 1 1]) (by simp [results, Tryz.results10, go_sem, y0, y1, y2]; try rfl) rfl ?_
  exact ⟨_, rfl, HRD7.out, HC8.out⟩

end Go.Proofs.YtokeoebhmjefoaaGreat

/- Plain: all contexts' counts, added, are the bytes' counts. -/
namespace Go.Proofs.YtokeoebhmjefoaaGreat
open Go

/-- bytes whose context is in L -/
def selLP (P : List (Nat × Nat)) (L : List Int) : List Nat := (P.filter fun p => decide ((p.1 : Int) ∈ L)).map (·.2)
def selL (xs : List Nat) (L : List Int) : List Nat := selLP (prs 0 xs) L

theorem selLP_cons (p : Nat × Nat) (P : List (Nat × Nat)) (L : List Int) : selLP (p :: P) L = (if (p.1 : Int) ∈ L then [p.2] else []) ++ selLP P L := by
  unfold selLP
  rw [List.filter_cons]
  by_cases h : (p.1 : Int) ∈ L
  · rw [if_pos h, if_pos (decide_eq_true h)]; rfl
  · rw [if_neg h, if_neg (by simp [h])]; rfl

theorem selLP_count (P : List (Nat × Nat)) (L : List Int) (c : Int) (hc : c ∉ L) (v : Nat) : (selLP P (L ++ [c])).count v = (selLP P L).count v + (selP P c).count v := by
  induction P with
  | nil => rfl
  | cons p P ih =>
    rw [selLP_cons, selLP_cons, selP_cons, List.count_append, List.count_append, List.count_append, ih]
    by_cases h1 : (p.1 : Int) ∈ L
    · have h2 : ¬ (p.1 : Int) = c := fun h => hc (h ▸ h1)
      rw [if_pos h1, if_pos (by simp [h1]), if_neg h2]; simp; omega
    · by_cases h2 : (p.1 : Int) = c
      · rw [if_neg h1, if_pos (by simp [h2]), if_pos h2]; simp; omega
      · rw [if_neg h1, if_neg (by simp [h1, h2]), if_neg h2]; simp

theorem selL_nil (xs : List Nat) : selL xs [] = [] := by
  unfold selL selLP
  simp
theorem selL_snoc (xs : List Nat) (L : List Int) (c : Int) (hc : c ∉ L) : cnt (selL xs (L ++ [c])) = addL (cnt (selL xs L)) (cnt (sel xs c)) := by
  apply ext_getD
  · rw [addL_length _ _ (by rw [cnt_length, cnt_length]), cnt_length, cnt_length]
  · intro k hk
    rw [cnt_length] at hk
    rw [addL_getD _ _ k (by rw [cnt_length]; exact hk) (by rw [cnt_length]; exact hk), cnt_getD _ k hk, cnt_getD _ k hk, cnt_getD _ k hk]
    unfold selL sel
    rw [selLP_count _ _ _ hc]; omega

theorem selL_sub (xs : List Nat) (L : List Int) : List.Sublist (selL xs L) xs := by
  have h : List.Sublist ((prs 0 xs).filter fun p => decide ((p.1 : Int) ∈ L)) (prs 0 xs) := List.filter_sublist
  have := h.map (·.2)
  rw [prs_snd] at this
  exact this
theorem selL_lt {xs : List Nat} (hx : ∀ x ∈ xs, x < 256) (L : List Int) : ∀ x ∈ selL xs L, x < 256 := fun x h => hx x ((selL_sub xs L).subset h)

theorem selL_pres (xs : List Nat) (hx : ∀ x ∈ xs, x < 256) : selL xs (pres xs) = xs := by
  unfold selL selLP
  rw [List.filter_eq_self.2, prs_snd]
  intro p hp
  have h1 := prs_fst_lt 0 xs (by omega) hx p hp
  rw [decide_eq_true_iff, pres_mem]
  refine ⟨by omega, by omega, ?_⟩
  have : p.2 ∈ sel xs (p.1 : Int) := by
    unfold sel selP
    rw [List.mem_map]
    exact ⟨p, List.mem_filter.2 ⟨hp, by simp⟩, rfl⟩
  exact List.length_pos_of_mem this

theorem pres_new (xs : List Nat) (i : Nat) (hi : i < (pres xs).length) : (pres xs).getD i 0 ∉ (pres xs).take i := by
  intro hm
  obtain ⟨j, hj, he⟩ := List.mem_iff_getElem.1 hm
  have hj2 : j < i ∧ j < (pres xs).length := by rw [List.length_take] at hj; omega
  have := List.pairwise_iff_getElem.1 (pres_rise xs) j i hj2.2 hi hj2.1
  rw [List.getElem_take] at he
  rw [List.getD_eq_getElem?_getD, List.getElem?_eq_getElem hi] at he
  simp only [Option.getD_some] at he
  omega

/-- one context more -/
theorem whole_step (xs : List Nat) (i : Nat) (hi : i < (pres xs).length) : cnt (selL xs ((pres xs).take (i + 1))) = addL (cnt (selL xs ((pres xs).take i))) (cnt (sel xs ((pres xs).getD i 0))) := by
  rw [take_snoc _ i hi, selL_snoc _ _ _ (pres_new xs i hi)]

theorem whole_ok (xs : List Nat) (hx : ∀ x ∈ xs, x < 256) (hl : xs.length ≤ 1000) (L : List Int) (c : Int) : addOk (cnt (selL xs L)) (cnt (sel xs c)) :=
  addOk_cnt _ _ (selL_lt hx L) (sel_lt hx c) (by have := (selL_sub xs L).length_le; have := sel_len xs c; omega)

theorem whole_some (xs : List Nat) (hx : ∀ x ∈ xs, x < 256) (hl : xs.length ≤ 1000) (i : Nat) (hi : i < (pres xs).length) : 1 ≤ totalI (cnt (sel xs ((pres xs).getD i 0))) ∧ totalI (cnt (sel xs ((pres xs).getD i 0))) ≤ 1000 := by
  have h1 := (pres_mem.1 (getD_mem hi)).2.2
  have h2 := sel_len xs ((pres xs).getD i 0)
  rw [total_cnt _ (sel_lt hx _) (by omega)]
  omega

theorem pres_range (xs : List Nat) (i : Nat) (hi : i < (pres xs).length) : 0 ≤ (pres xs).getD i 0 ∧ (pres xs).getD i 0 < 256 := by
  have := pres_mem.1 (getD_mem hi)
  exact ⟨this.1, this.2.1⟩

end Go.Proofs.YtokeoebhmjefoaaGreat
