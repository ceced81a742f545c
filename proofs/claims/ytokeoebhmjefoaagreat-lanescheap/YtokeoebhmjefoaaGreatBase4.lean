/- Texts that other texts of this claim rest on, one behind the other (DtProgA DtOnce DtProgB DtProgC ApCells DtProg LnLs LnOfT CxRef MdRef MdRefB MdRefC EtRef BwLawPut BwBytes BwAwake BwFoot BwMark BwRef LnBits LnBkA CxProg EtProgA EtProg LnBk). -/
import Derived.Test.YtokeoebhmjefoaaGreatBase3
import Derived.Handy
import Derived.BigQuiet
import Derived.Deep.CutRange
import Derived.Deep.LoopGhost
import Derived.WalkMore
import Derived.Deep.OwnRows
import Derived.Deep.RegionHeld3
/- What dtab's cell, mayBeMany, fitted and Step tell. THIS SPEAKS OF THE PROGRAM'S OWN TEXT. -/
namespace Go.Proofs.YtokeoebhmjefoaaGreat
open Go.RowKit

/-- may it be gone on from x with more? -/
def canC (l : List Cl) (x : Int) (more : Nat) : Prop := 0 ≤ x ∧ x < (l.length : Int) ∧ 0 ≤ (l.getD x.toNat cl0).Bits ∧ (l.getD x.toNat cl0).Bits ≤ 24 ∧ more < 2 ^ (l.getD x.toNat cl0).Bits.toNat
instance (l : List Cl) (x : Int) (more : Nat) : Decidable (canC l x more) := by unfold canC; infer_instance
def stepS (l : List Cl) (x : Int) (more : Nat) : Nat := if canC l x more then (l.getD x.toNat cl0).Sym else 0
def stepN (l : List Cl) (x : Int) (more : Nat) : Int := if canC l x more then (l.getD x.toNat cl0).Base + (more : Int) else 0
/-- no base is out of what is promised -/
def baseOk (l : List Cl) (x : Int) : Prop := 0 ≤ x → x < (l.length : Int) → -1099511627776 ≤ (l.getD x.toNat cl0).Base ∧ (l.getD x.toNat cl0).Base ≤ 1099511627776

/-- a block that holds a cell -/
def Cb (w : World) (g : Nat) (c : Cl) : Prop := w.heap[g]? = some (.cells #[.int .u8 (c.Sym : Int), .int .i64 c.Bits, .int .i64 c.Base] 94 (0, 0))
theorem Cb.cells {w : World} {g : Nat} {c : Cl} (h : Cb w g c) : w.cell? ⟨g, 0, none⟩ = some (.int .u8 (c.Sym : Int)) ∧ w.cell? ⟨g, 1, none⟩ = some (.int .i64 c.Bits) ∧ w.cell? ⟨g, 2, none⟩ = some (.int .i64 c.Base) := by
  refine ⟨?_, ?_, ?_⟩
  · rw [cell_of_row _ _ 0 _ _ _ h]; rfl
  · rw [cell_of_row _ _ 1 _ _ _ h]; rfl
  · rw [cell_of_row _ _ 2 _ _ _ h]; rfl
theorem Cb.kept {S : Nat → Prop} {w w' : World} {g : Nat} {c : Cl} (h : Cb w g c) (hc : Chg S w w') (hS : ¬ S g) : Cb w' g c := (hc.block g (lt_of_block h) hS).trans h
theorem Cb.free {w : World} {g : Nat} {c : Cl} (h : Cb w g c) (k : Nat) : w.frozen? ⟨g, k, none⟩ = false := frozen_of_row w g k _ _ h
/-- a cell is laid into a block -/
def C3 (w : World) (g : Nat) (c : Cl) : World := ((w.setCell ⟨g, 0, none⟩ (.int .u8 (c.Sym : Int))).setCell ⟨g, 1, none⟩ (.int .i64 c.Bits)).setCell ⟨g, 2, none⟩ (.int .i64 c.Base)
theorem C3_chg (w : World) (g : Nat) (c : Cl) : Chg (fun q => q = g) w (C3 w g c) :=
  ((Chg.setCell w ⟨g, 0, none⟩ _).trans (Chg.setCell _ ⟨g, 1, none⟩ _) fun _ _ h => h).trans (Chg.setCell _ ⟨g, 2, none⟩ _) fun _ _ h => h
theorem C3_cb {w : World} {g : Nat} {c0 : Cl} (h : Cb w g c0) (c : Cl) : Cb (C3 w g c) g c := by
  have h1 := heap_setCell_same w g 0 _ _ (.int .u8 (c.Sym : Int)) h
  have h2 := heap_setCell_same _ g 1 _ _ (.int .i64 c.Bits) h1
  have h3 := heap_setCell_same _ g 2 _ _ (.int .i64 c.Base) h2
  exact h3
theorem C3_cells {w : World} {g : Nat} {c0 : Cl} (h : Cb w g c0) (S : Nat) (I B : Int) :
    (w.setCell ⟨g, 0, none⟩ (.int .u8 (S : Int))).cell? ⟨g, 0, none⟩ = some (.int .u8 (S : Int)) ∧ ((w.setCell ⟨g, 0, none⟩ (.int .u8 (S : Int))).setCell ⟨g, 1, none⟩ (.int .i64 I)).cell? ⟨g, 1, none⟩ = some (.int .i64 I) ∧ (C3 w g ⟨S, I, B⟩).cell? ⟨g, 2, none⟩ = some (.int .i64 B) := by
  have h1 := heap_setCell_same w g 0 _ _ (.int .u8 (S : Int)) h
  have h2 := heap_setCell_same _ g 1 _ _ (.int .i64 I) h1
  have h3 := heap_setCell_same _ g 2 _ _ (.int .i64 B) h2
  exact ⟨by rw [cell_of_row _ _ 0 _ _ _ h1]; rfl, by rw [cell_of_row _ _ 1 _ _ _ h2]; rfl, by unfold C3; rw [cell_of_row _ _ 2 _ _ _ h3]; rfl⟩
theorem zeroCell (W : World) : (zeroValue 94).run Tryz.prog W = .ok (.agg #[.int .u8 0, .int .i64 0, .int .i64 0]) W := by kernel_rfl

set_option maxHeartbeats 600000 in
theorem dcell_any (s i k : Nat) (w : World) (h1 : 1 ≤ i) (h2 : i < 2 ^ (k + 1)) (hk : k ≤ 12) :
    Calls Tryz.prog 48 #[.int .u8 (s : Int), .int .i64 (i : Int), .int .i64 (k : Int)] w fun e w' => e = .returned (.agg #[.int .u8 ((cellOf k s i).Sym : Int), .int .i64 (cellOf k s i).Bits, .int .i64 (cellOf k s i).Base]) ∧ Chg (fun _ => False) w w' := by
  have hlg : Nat.log2 i ≤ k := log2_lt h1 h2
  have hi8 : i ≤ 8192 := by
    have : 2 ^ (k + 1) ≤ 2 ^ 13 := Nat.pow_le_pow_right (by decide) (by omega)
    omega
  have hfl := fun W => lfloor_w (i : Int) W (by omega) (by omega)
  have hfi : floorI (i : Int) = Nat.log2 i := by unfold floorI; rw [Int.toNat_natCast]
  rw [hfi] at hfl
  obtain ⟨lj, hlj⟩ : ∃ lj, Nat.log2 i = lj := ⟨_, rfl⟩
  obtain ⟨b, hb⟩ : ∃ b, bitsN k i = b := ⟨_, rfl⟩
  have hbI : (k : Int) - ((lj : Nat) : Int) = (b : Int) := by rw [← hb, ← hlj]; unfold bitsN; omega
  have hb12 : b ≤ 12 := by rw [← hb]; unfold bitsN; omega
  obtain ⟨B, hB⟩ : ∃ B, 2 ^ b = B := ⟨_, rfl⟩
  have hBI : (2 : Int) ^ b = (B : Int) := by rw [← hB]; simp
  obtain ⟨L, hL⟩ : ∃ L, 2 ^ k = L := ⟨_, rfl⟩
  have hLI : (2 : Int) ^ k = (L : Int) := by rw [← hL]; simp
  have hL4 : L ≤ 4096 := by rw [← hL]; exact pow12 hk
  obtain ⟨X, hX⟩ : ∃ X, i * B = X := ⟨_, rfl⟩
  have hXI : (i : Int) * (B : Int) = (X : Int) := by rw [← hX]; simp
  have hB4 : B ≤ 4096 := by rw [← hB]; exact pow12 hb12
  have hX4 : X ≤ 33554432 := by rw [← hX]; exact Nat.le_trans (Nat.mul_le_mul hi8 hB4) (by decide)
  have hcl : cellOf k s i = ⟨s, (b : Int), (X : Int) - (L : Int)⟩ := by unfold cellOf; rw [hb, hB, hX, hL]
  rw [hcl]
  simp only []
  rw [hlj] at hfl
  have hcb : Cb (w.alloc (.cells #[.int .u8 0, .int .i64 0, .int .i64 0] 94)) w.heap.size cl0 := heap_alloc_new w _
  have hc0 := Chg.alloc (fun _ => False) w (.cells #[.int .u8 0, .int .i64 0, .int .i64 0] 94)
  have hz := zeroCell
  obtain ⟨W0, hW0⟩ : ∃ W0, w.alloc (.cells #[.int .u8 0, .int .i64 0, .int .i64 0] 94) = W0 := ⟨_, rfl⟩
  rw [hW0] at hcb hc0
  obtain ⟨G, hG⟩ : ∃ G, w.heap.size = G := ⟨_, rfl⟩
  rw [hG] at hcb
  have h3 := C3_cb hcb ⟨s, (b : Int), (X : Int) - (L : Int)⟩
  have hcc : Chg (fun _ => False) w (C3 W0 G ⟨s, (b : Int), (X : Int) - (L : Int)⟩) := hc0.trans (C3_chg W0 G ⟨s, (b : Int), (X : Int) - (L : Int)⟩) fun q hq he => by omega
  obtain ⟨u0, u1, u2⟩ := h3.cells
  obtain ⟨y0, y1, y2⟩ := C3_cells hcb s (b : Int) ((X : Int) - (L : Int))
  obtain ⟨z0, z1, z2⟩ := hcb.cells
  have f0 := hcb.free 0
  have f1 := hcb.free 1
  have f2 := hcb.free 2
  unfold C3 at u0 u1 u2 hcc y2
  simp only [] at u0 u1 u2 hcc z0 z1 z2 y2
  have HCC := Lib.hid hcc
  have hb64 : (b : Int) < 64 := by omega
  have hk64 : (k : Int) < 64 := by omega
  have hw0 : IntKind.i64.wrap (b : Int) = (b : Int) := by rw [IntKind.wrap_i64]; omega
  have hw2 : IntKind.i64.wrap (B : Int) = (B : Int) := by rw [IntKind.wrap_i64]; omega
  have hw5 : IntKind.i64.wrap (L : Int) = (L : Int) := by rw [IntKind.wrap_i64]; omega
  have hw3 : IntKind.i64.wrap (X : Int) = (X : Int) := by rw [IntKind.wrap_i64]; omega
  have hw4 : IntKind.i64.wrap ((X : Int) - (L : Int)) = (X : Int) - (L : Int) := by rw [IntKind.wrap_i64]; omega
  have HFL := Lib.hid hfl
  have hljI : (lj : Int) ≤ 12 := by omega
  have hkI : (k : Int) ≤ 12 := by omega
  have hbI0 : (b : Int) ≤ 12 := by omega
  have hiI : (i : Int) ≤ 8192 := by omega
  clear hcc h3 hcb hc0 hcl hX hB hL hb hlj hfl hfi hlg hi8 h1 h2 hk hb12 hL4 hB4 hX4
  go_enter Tryz.func48, Tryz.ntmps48
  go_wp2_with fail
  refine (HFL.out _).mono ?_
  rintro e w1 ⟨rfl, rfl⟩
  go_wp2
  go_region
  go_wp2
  refine bodyPost_ret (v := .agg #[.int .u8 (s : Int), .int .i64 (b : Int), .int .i64 ((X : Int) - (L : Int))]) (by simp [results, Tryz.results48, go_sem, y0, y1, y2]; try rfl) rfl ?_
  exact ⟨rfl, HCC.out.drew⟩

/-- there is a table of so many states -/
def IsPow (n : Int) : Prop := ∃ R, 1 ≤ R ∧ R ≤ 12 ∧ n = ((2 ^ R : Nat) : Int)
theorem IsPow.iff {n : Int} (h2 : 2 ≤ n) (h4 : n ≤ 4096) : floorI n = ceilI n ↔ IsPow n := by
  have hbo := both_at (n := n) (by omega)
  rw [eq_comm, hbo]
  refine ⟨fun h => ⟨floorI n, ?_, ?_, h⟩, fun ⟨R, hR, _, he⟩ => ?_⟩
  · have h1 : floorI n ≠ 0 := fun h0 => by rw [h0] at h; simp at h; omega
    omega
  · have : floorI n < 13 := lt_of_pow (a := floorI n) (b := 13) (by have : (2:Nat) ^ 13 = 8192 := rfl; omega)
    omega
  · rw [he, floor_at]
theorem IsPow.bnd {n : Int} (h : IsPow n) : 2 ≤ n ∧ n ≤ 4096 := by
  obtain ⟨R, h1, h2, rfl⟩ := h
  have := pow12 h2
  have : 2 ^ 1 ≤ 2 ^ R := Nat.pow_le_pow_right (by decide) h1
  omega

set_option maxHeartbeats 600000 in
theorem dstep_any (v : Value) (l : List Cl) (x : Int) (more : Nat) (w : World) (h : RdC w v l) (hf : ∀ c ∈ l, c.fits) (_hl : l.length < 100000000000) (hx : -9223372036854775808 ≤ x ∧ x ≤ 9223372036854775807) (hm : more < 4294967296) (hb : baseOk l x) :
    Calls Tryz.prog 50 #[v, .int .i64 x, .int .u32 (more : Int)] w fun e w' => e = .returned (.tuple #[.int .u8 ((stepS l x more : Nat) : Int), .int .i64 (stepN l x more), .bool (decide (canC l x more))]) ∧ Chg (fun _ => False) w w' := by
  obtain ⟨ao, cap, rfl⟩ := h.form
  by_cases h0 : x < 0
  · have hn : ¬ canC l x more := fun hc => by have := hc.1; omega
    unfold stepS stepN
    rw [if_neg hn, if_neg hn, decide_eq_false hn]
    have d0 : decide (x < 0) = true := decide_eq_true h0
    clear hf _hl h hb hn hx
    go_enter Tryz.func50, Tryz.ntmps50
    go_wp2
    go_returns
    exact ⟨rfl, Chg.refl _ _⟩
  · have d0 : decide (x < 0) = false := decide_eq_false h0
    by_cases h1 : (l.length : Int) ≤ x
    · have hn : ¬ canC l x more := fun hc => by have := hc.2.1; omega
      unfold stepS stepN
      rw [if_neg hn, if_neg hn, decide_eq_false hn]
      have d1 : decide ((l.length : Int) ≤ x) = true := decide_eq_true h1
      clear hf _hl h hb hn hx
      go_enter Tryz.func50, Tryz.ntmps50
      go_wp2
      go_returns
      exact ⟨rfl, Chg.refl _ _⟩
    · obtain ⟨j, rfl⟩ : ∃ j : Nat, x = (j : Int) := ⟨x.toNat, by omega⟩
      have hj : j < l.length := by omega
      have d1 : decide ((l.length : Int) ≤ (j : Int)) = false := decide_eq_false h1
      obtain ⟨g, off, rfl, a0, a1, a2⟩ := h.at j hj
      have hbj := hb (by omega) (by omega)
      rw [Int.toNat_natCast] at hbj
      have hcan : canC l (j : Int) more ↔ (0 ≤ (l.getD j cl0).Bits ∧ (l.getD j cl0).Bits ≤ 24 ∧ more < 2 ^ (l.getD j cl0).Bits.toNat) := by
        unfold canC
        rw [Int.toNat_natCast]
        exact ⟨fun h => h.2.2, fun h => ⟨by omega, by omega, h⟩⟩
      have hfit := hf (l.getD j cl0) (by rw [List.getD_eq_getElem?_getD, List.getElem?_eq_getElem hj]; exact List.getElem_mem hj)
      obtain ⟨D, hD⟩ : ∃ D, decide (canC l (j : Int) more) = D := ⟨_, rfl⟩
      obtain ⟨P, hP⟩ : ∃ P, stepS l (j : Int) more = P := ⟨_, rfl⟩
      obtain ⟨N, hN⟩ : ∃ N, stepN l (j : Int) more = N := ⟨_, rfl⟩
      rw [hD, hP, hN]
      have hno : ¬ (0 ≤ (l.getD j cl0).Bits ∧ (l.getD j cl0).Bits ≤ 24 ∧ more < 2 ^ (l.getD j cl0).Bits.toNat) → D = false ∧ P = 0 ∧ N = 0 := fun hn => by
        rw [← hD, ← hP, ← hN]
        unfold stepS stepN
        rw [← hcan] at hn
        rw [if_neg hn, if_neg hn]
        exact ⟨decide_eq_false hn, rfl, rfl⟩
      have hyes : (0 ≤ (l.getD j cl0).Bits ∧ (l.getD j cl0).Bits ≤ 24 ∧ more < 2 ^ (l.getD j cl0).Bits.toNat) → D = true ∧ P = (l.getD j cl0).Sym ∧ N = (l.getD j cl0).Base + (more : Int) := fun hn => by
        rw [← hD, ← hP, ← hN]
        unfold stepS stepN
        rw [← hcan] at hn
        rw [if_pos hn, if_pos hn, Int.toNat_natCast]
        exact ⟨decide_eq_true hn, rfl, rfl⟩
      clear hcan hb hf hD hP hN
      obtain ⟨c, hc⟩ : ∃ c, l.getD j cl0 = c := ⟨_, rfl⟩
      rw [hc] at a0 a1 a2 hbj hfit hno hyes
      clear hc
      obtain ⟨s, bi, ba⟩ := c
      unfold Cl.fits at hfit
      simp only [] at a0 a1 a2 hbj hfit hno hyes
      obtain ⟨-, ⟨fb0, fb1⟩, -⟩ := hfit
      obtain ⟨W1, hW1⟩ : ∃ W1, w.alloc (.cells #[.int .u8 (s : Int), .int .i64 bi, .int .i64 ba] 94) = W1 := ⟨_, rfl⟩
      have c1 : Chg (fun _ => False) w W1 := by rw [← hW1]; exact Chg.alloc _ _ _
      have n1 : Cb W1 w.heap.size ⟨s, bi, ba⟩ := by rw [← hW1]; exact heap_alloc_new _ _
      obtain ⟨b0, b1, b2⟩ := n1.cells
      simp only [] at b0 b1 b2
      obtain ⟨gx, hgx⟩ : ∃ gx, w.heap.size = gx := ⟨_, rfl⟩
      rw [hgx] at b0 b1 b2
      have HC := Lib.hid c1
      have hjl : (j : Int) < (l.length : Int) := by omega
      have hjn : ¬ l.length ≤ j := by omega
      obtain ⟨n, hn⟩ : ∃ n, l.length = n := ⟨_, rfl⟩
      rw [hn] at d1 hjl hjn ⊢
      clear c1 n1 h hj _hl hn h1 h0
      by_cases e0 : bi < 0
      · obtain ⟨rfl, rfl, rfl⟩ := hno fun hc => by omega
        have d2 : decide (bi < 0) = true := decide_eq_true e0
        clear hx hbj hno hyes
        go_enter Tryz.func50, Tryz.ntmps50
        go_wp2
        go_returns
        exact ⟨rfl, HC.out⟩
      · have d2 : decide (bi < 0) = false := decide_eq_false e0
        by_cases e1 : 24 < bi
        · obtain ⟨rfl, rfl, rfl⟩ := hno fun hc => by omega
          have d3 : decide (24 < bi) = true := decide_eq_true e1
          clear hx hbj hno hyes
          go_enter Tryz.func50, Tryz.ntmps50
          go_wp2
          go_returns
          exact ⟨rfl, HC.out⟩
        · have d3 : decide (24 < bi) = false := decide_eq_false e1
          obtain ⟨b, rfl⟩ : ∃ b : Nat, bi = (b : Int) := ⟨bi.toNat, by omega⟩
          rw [Int.toNat_natCast] at hno hyes
          have hb24 : b ≤ 24 := by omega
          have hbI : (b : Int) ≤ 24 := by omega
          obtain ⟨B, hB⟩ : ∃ B, 2 ^ b = B := ⟨_, rfl⟩
          have hBI : (2 : Int) ^ b = (B : Int) := by rw [← hB]; simp
          have hB24 : B ≤ 16777216 := by rw [← hB]; exact Nat.pow_le_pow_right (n := 2) (by decide) hb24
          have hBl : (B : Int) ≤ 16777216 := by omega
          rw [hB] at hno hyes
          clear hB
          by_cases e2 : more < B
          · obtain ⟨rfl, rfl, rfl⟩ := hyes ⟨by omega, hbI, e2⟩
            have d4 : decide ((B : Int) ≤ (more : Int)) = false := decide_eq_false (by omega)
            have e3 : ¬ B ≤ more := by omega
            have hw1 : IntKind.i64.wrap (more : Int) = (more : Int) := by rw [IntKind.wrap_i64]; omega
            have hw2 : IntKind.i64.wrap (ba + (more : Int)) = ba + (more : Int) := by rw [IntKind.wrap_i64]; omega
            have hw3 : IntKind.u32.wrap (B : Int) = (B : Int) := by rw [IntKind.wrap_u32]; omega
            clear hno hyes hx hb24 hB24
            go_enter Tryz.func50, Tryz.ntmps50
            go_wp2
            go_quiet (fail)
            go_wp2
            go_returns
            exact ⟨rfl, HC.out.drewN _⟩
          · obtain ⟨rfl, rfl, rfl⟩ := hno fun hc => e2 hc.2.2
            have e3 : B ≤ more := by omega
            have d4 : decide ((B : Int) ≤ (more : Int)) = true := decide_eq_true (by omega)
            have hw3 : IntKind.u32.wrap (B : Int) = (B : Int) := by rw [IntKind.wrap_u32]; omega
            clear hx hbj hno hyes hb24 hB24
            go_enter Tryz.func50, Tryz.ntmps50
            go_wp2
            go_returns
            exact ⟨rfl, HC.out⟩

end Go.Proofs.YtokeoebhmjefoaaGreat

/- Plain mathematics of dtab's marks: rows of marks, a row for each symbol that is there; how many are not set yet. -/
namespace Go.Proofs.YtokeoebhmjefoaaGreat
open Go

def falses : List Bool → Nat
  | [] => 0
  | b :: r => (if b then 0 else 1) + falses r
theorem falses_set : ∀ (r : List Bool) (x : Nat), x < r.length → r.getD x false = false → falses (r.set x true) + 1 = falses r
  | [], x, h, _ => by simp at h
  | b :: r, 0, _, h => by
    have : b = false := by simpa using h
    subst this
    simp [falses]; omega
  | b :: r, x + 1, h, h2 => by
    have := falses_set r x (by simpa using h) (by simpa using h2)
    simp only [List.set_cons_succ, falses]
    omega
theorem falses_rep (n : Nat) : falses (List.replicate n false) = n := by
  induction n with
  | zero => rfl
  | succ n ih => rw [List.replicate_succ, falses, ih]; simp; omega
theorem falses_le : ∀ r : List Bool, falses r ≤ r.length
  | [] => Nat.le_refl _
  | b :: r => by
    have := falses_le r
    simp only [falses, List.length_cons]
    split <;> omega
theorem falses_zero : ∀ r : List Bool, falses r = 0 ↔ ∀ x, x < r.length → r.getD x false = true
  | [] => by simp [falses]
  | b :: r => by
    have ih := falses_zero r
    constructor
    · intro h x hx
      simp only [falses] at h
      cases x with
      | zero => cases b <;> simp_all
      | succ x => simpa using ih.1 (by omega) x (by simpa using hx)
    · intro h
      have h0 := h 0 (by simp)
      have hb : b = true := by simpa using h0
      have : falses r = 0 := ih.2 fun x hx => by simpa using h (x + 1) (by simpa using hx)
      simp only [falses, hb, this]
      simp

def updM (M : Nat → List Bool) (s : Nat) (r : List Bool) : Nat → List Bool := fun t => if t = s then r else M t
theorem updM_self (M : Nat → List Bool) (s : Nat) (r : List Bool) : updM M s r s = r := by unfold updM; rw [if_pos rfl]
theorem updM_other (M : Nat → List Bool) {s t : Nat} (r : List Bool) (h : t ≠ s) : updM M s r t = M t := by unfold updM; rw [if_neg h]
def miss (M : Nat → List Bool) : Nat := sumTo (fun s => falses (M s)) 256
theorem sumTo_upd (f g : Nat → Nat) (s v : Nat) (hg : g s = v) (ho : ∀ t, t ≠ s → g t = f t) : ∀ n, s < n → sumTo g n + f s = sumTo f n + v
  | 0, h => by omega
  | n + 1, h => by
    simp only [sumTo]
    by_cases hn : s = n
    · subst hn
      rw [sumTo_congr s (g := g) (h := f) fun a ha => ho a (by omega), hg]; omega
    · have := sumTo_upd f g s v hg ho n (by omega)
      rw [ho n (by omega)]; omega
theorem miss_upd (M : Nat → List Bool) (s : Nat) (r : List Bool) (h : s < 256) : miss (updM M s r) + falses (M s) = miss M + falses r := by
  unfold miss
  exact sumTo_upd (fun t => falses (M t)) (fun t => falses (updM M s r t)) s (falses r) (by simp only [updM_self]) (fun t ht => by simp only [updM_other M r ht]) 256 h
theorem miss_zero (M : Nat → List Bool) : miss M = 0 ↔ ∀ s, s < 256 → falses (M s) = 0 := by
  unfold miss
  constructor
  · intro h s hs
    have := sumTo_at (fun s => falses (M s)) 256 s hs
    exact Nat.le_zero.1 (h ▸ this)
  · intro h
    have := sumTo_congr (g := fun s => falses (M s)) (h := fun _ => 0) 256 h
    rw [this, sumTo_zero]

/-- what is marked: P; of which symbols there is a row: S -/
structure Inv (n : Nat) (P : Nat → Nat → Prop) (S : Nat → Prop) (M : Nat → List Bool) : Prop where
  len : ∀ s, s < 256 → M s = [] ∨ (M s).length = n
  seen : ∀ s, s < 256 → (M s ≠ [] ↔ S s)
  at' : ∀ s x, s < 256 → x < n → ((M s).getD x false = true ↔ P s x)

/-- no two of the first k cells hold one state of one symbol -/
def Apart (l : List Cl) (k : Nat) : Prop := ∀ a b, a < k → b < k → ∀ s x, inC (l.getD a cl0) s x → inC (l.getD b cl0) s x → a = b
def MarkD (l : List Cl) (k s x : Nat) : Prop := ∃ b, b < k ∧ inC (l.getD b cl0) s x
def Seen (l : List Cl) (k s : Nat) : Prop := ∃ b, b < k ∧ (l.getD b cl0).Sym = s
/-- .. and the first t states of the cell k -/
def MarkDT (l : List Cl) (k t s x : Nat) : Prop := MarkD l k s x ∨ (s = (l.getD k cl0).Sym ∧ (l.getD k cl0).Base ≤ (x : Int) ∧ (x : Int) < (l.getD k cl0).Base + (t : Int))

theorem inv_start (n : Nat) (l : List Cl) : Inv n (MarkD l 0) (Seen l 0) (fun _ => []) :=
  ⟨fun _ _ => .inl rfl, fun s _ => ⟨fun h => absurd rfl h, fun ⟨b, hb, _⟩ => by omega⟩, fun s x _ _ => ⟨fun h => by simp at h, fun ⟨b, hb, _⟩ => by omega⟩⟩
theorem apart_start (l : List Cl) : Apart l 0 := fun a b ha => by omega
theorem miss_start : miss (fun _ => []) = 0 := sumTo_zero 256

theorem Seen.succ {l : List Cl} {k s : Nat} : Seen l (k + 1) s ↔ Seen l k s ∨ s = (l.getD k cl0).Sym := by
  constructor
  · rintro ⟨b, hb, h⟩
    by_cases hbk : b = k
    · subst hbk; exact .inr h.symm
    · exact .inl ⟨b, by omega, h⟩
  · rintro (⟨b, hb, h⟩ | h)
    · exact ⟨b, by omega, h⟩
    · exact ⟨k, by omega, h.symm⟩
/-- a row is made for the symbol of the cell k, if there is none -/
theorem Inv.make {n : Nat} {l : List Cl} {k : Nat} {M : Nat → List Bool} (h : Inv n (MarkD l k) (Seen l k) M) (hn : 0 < n) (h0 : M (l.getD k cl0).Sym = []) (hs : (l.getD k cl0).Sym < 256) :
    Inv n (MarkDT l k 0) (Seen l (k + 1)) (updM M (l.getD k cl0).Sym (List.replicate n false)) := by
  refine ⟨fun s hsl => ?_, fun s hsl => ?_, fun s x hsl hx => ?_⟩
  · by_cases he : s = (l.getD k cl0).Sym
    · rw [he, updM_self]; exact .inr List.length_replicate
    · rw [updM_other _ _ he]; exact h.len s hsl
  · rw [Seen.succ]
    by_cases he : s = (l.getD k cl0).Sym
    · rw [he, updM_self]
      refine ⟨fun _ => .inr rfl, fun _ hh => ?_⟩
      have := congrArg List.length hh
      simp at this; omega
    · rw [updM_other _ _ he, h.seen s hsl]
      exact ⟨.inl, fun h => h.resolve_right he⟩
  · have hM : ¬ MarkD l k (l.getD k cl0).Sym x := fun hm => by
      have := (h.at' _ x hs hx).2 hm
      rw [h0] at this; simp at this
    by_cases he : s = (l.getD k cl0).Sym
    · rw [he, updM_self]
      refine ⟨fun hh => by simp [List.getD_eq_getElem?_getD, hx] at hh, fun hh => ?_⟩
      rcases hh with hh | ⟨_, h1, h2⟩
      · exact absurd hh hM
      · omega
    · rw [updM_other _ _ he, h.at' s x hsl hx]
      refine ⟨.inl, fun hh => ?_⟩
      rcases hh with hh | ⟨h1, _⟩
      · exact hh
      · exact absurd h1 he
theorem Inv.has {n : Nat} {l : List Cl} {k : Nat} {M : Nat → List Bool} (h : Inv n (MarkD l k) (Seen l k) M) (h0 : M (l.getD k cl0).Sym ≠ []) (hs : (l.getD k cl0).Sym < 256) :
    Inv n (MarkDT l k 0) (Seen l (k + 1)) M := by
  refine ⟨h.len, fun s hsl => ?_, fun s x hsl hx => ?_⟩
  · rw [Seen.succ, h.seen s hsl]
    exact ⟨.inl, fun hh => hh.elim id fun he => by rw [he, ← h.seen _ hs]; exact h0⟩
  · rw [h.at' s x hsl hx]
    refine ⟨.inl, fun hh => ?_⟩
    rcases hh with hh | ⟨_, h1, h2⟩
    · exact hh
    · omega
/-- a mark more -/
theorem Inv.mark {n : Nat} {l : List Cl} {k t : Nat} {M : Nat → List Bool} (h : Inv n (MarkDT l k t) (Seen l (k + 1)) M) (_hs : (l.getD k cl0).Sym < 256) {x : Nat} (hx : x < n) (he : (x : Int) = (l.getD k cl0).Base + (t : Int)) (hl : (M (l.getD k cl0).Sym).length = n) :
    Inv n (MarkDT l k (t + 1)) (Seen l (k + 1)) (updM M (l.getD k cl0).Sym ((M (l.getD k cl0).Sym).set x true)) := by
  refine ⟨fun s hsl => ?_, fun s hsl => ?_, fun s y hsl hy => ?_⟩
  · by_cases hes : s = (l.getD k cl0).Sym
    · rw [hes, updM_self, List.length_set]; exact .inr hl
    · rw [updM_other _ _ hes]; exact h.len s hsl
  · rw [← h.seen s hsl]
    by_cases hes : s = (l.getD k cl0).Sym
    · rw [hes, updM_self]
      constructor
      · intro _ hh; rw [hh] at hl; simp at hl; omega
      · intro _ hh
        have h2 := congrArg List.length hh
        rw [List.length_set, hl] at h2
        simp at h2; omega
    · rw [updM_other _ _ hes]
  · have hat := h.at' s y hsl hy
    have hstep : MarkDT l k (t + 1) s y ↔ MarkDT l k t s y ∨ (s = (l.getD k cl0).Sym ∧ y = x) := by
      unfold MarkDT
      constructor
      · rintro (hh | ⟨h1, h2, h3⟩)
        · exact .inl (.inl hh)
        · by_cases hyx : y = x
          · exact .inr ⟨h1, hyx⟩
          · exact .inl (.inr ⟨h1, h2, by omega⟩)
      · rintro ((hh | ⟨h1, h2, h3⟩) | ⟨h1, h2⟩)
        · exact .inl hh
        · exact .inr ⟨h1, h2, by omega⟩
        · exact .inr ⟨h1, by omega, by omega⟩
    rw [hstep, ← hat]
    by_cases hes : s = (l.getD k cl0).Sym
    · rw [hes, updM_self]
      by_cases hyx : y = x
      · subst hyx
        rw [List.getD_eq_getElem?_getD, List.getElem?_set_self (by omega)]
        simp
      · rw [List.getD_eq_getElem?_getD, List.getElem?_set_ne (by omega), ← List.getD_eq_getElem?_getD]
        exact ⟨.inl, fun hh => hh.elim id fun h => absurd h.2 hyx⟩
    · rw [updM_other _ _ hes]
      exact ⟨.inl, fun hh => hh.elim id fun h => absurd h.1 hes⟩
/-- none of the first t states of the cell k was marked -/
def ApartT (l : List Cl) (k t : Nat) : Prop := Apart l k ∧ ∀ b (x : Nat), b < k → (l.getD k cl0).Base ≤ (x : Int) → (x : Int) < (l.getD k cl0).Base + (t : Int) → ¬ inC (l.getD b cl0) (l.getD k cl0).Sym x
theorem Apart.zero {l : List Cl} {k : Nat} (h : Apart l k) : ApartT l k 0 := ⟨h, fun b x _ h1 h2 => by omega⟩
theorem ApartT.step {l : List Cl} {k t : Nat} (h : ApartT l k t) {x : Nat} (he : (x : Int) = (l.getD k cl0).Base + (t : Int)) (hm : ¬ MarkDT l k t (l.getD k cl0).Sym x) : ApartT l k (t + 1) := by
  refine ⟨h.1, fun b y hb h1 h2 hin => ?_⟩
  by_cases hyx : y = x
  · subst hyx; exact hm (.inl ⟨b, hb, hin⟩)
  · exact h.2 b y hb h1 (by omega) hin
theorem ApartT.all {l : List Cl} {k t : Nat} (h : ApartT l k t) (ht : t = 2 ^ (l.getD k cl0).Bits.toNat) : Apart l (k + 1) := by
  have key : ∀ b s x, b < k → inC (l.getD k cl0) s x → ¬ inC (l.getD b cl0) s x := fun b s x hb hk hin => by
    obtain ⟨h1, h2, h3⟩ := hk
    rw [← h1] at hin
    exact h.2 b x hb h2 (by rw [ht]; exact h3) hin
  intro a b ha hb s x h1 h2
  by_cases hak : a = k
  · by_cases hbk : b = k
    · omega
    · rw [hak] at h1; exact absurd h2 (key b s x (by omega) h1)
  · by_cases hbk : b = k
    · rw [hbk] at h2; exact absurd h1 (key a s x (by omega) h2)
    · exact h.1 a b (by omega) (by omega) s x h1 h2
theorem Inv.all {n : Nat} {l : List Cl} {k t : Nat} {M : Nat → List Bool} (h : Inv n (MarkDT l k t) (Seen l (k + 1)) M) (ht : t = 2 ^ (l.getD k cl0).Bits.toNat) : Inv n (MarkD l (k + 1)) (Seen l (k + 1)) M := by
  refine ⟨h.len, h.seen, fun s x hs hx => ?_⟩
  rw [h.at' s x hs hx]
  constructor
  · rintro (⟨b, hb, hin⟩ | ⟨h1, h2, h3⟩)
    · exact ⟨b, by omega, hin⟩
    · exact ⟨k, by omega, h1.symm, h2, by rw [← ht]; exact h3⟩
  · rintro ⟨b, hb, hin⟩
    by_cases hbk : b = k
    · subst hbk
      obtain ⟨h1, h2, h3⟩ := hin
      exact .inr ⟨h1.symm, h2, by rw [ht]; exact h3⟩
    · exact .inl ⟨b, by omega, hin⟩

/-- of each symbol that is there each state comes once -/
def OnceL (l : List Cl) (n : Nat) : Prop := ∀ a x, a < n → x < n → countTo (fun b => decide (inC (l.getD b cl0) (l.getD a cl0).Sym x)) n = 1
/-- a state that is marked twice -/
theorem not_once {l : List Cl} {n k t : Nat} (hk : k < n) {x : Nat} (hx : x < n) (he : (x : Int) = (l.getD k cl0).Base + (t : Int)) (ht : t < 2 ^ (l.getD k cl0).Bits.toNat) (hm : MarkDT l k t (l.getD k cl0).Sym x) : ¬ OnceL l n := by
  intro h
  have h1 := h k x hk hx
  rcases hm with ⟨b, hb, hin⟩ | ⟨_, h2, h3⟩
  · have hin2 : inC (l.getD k cl0) (l.getD k cl0).Sym x := ⟨rfl, by omega, by omega⟩
    have := countTo_unique h1 (show b < n by omega) hk (decide_eq_true hin) (decide_eq_true hin2)
    omega
  · omega
theorem once_iff {l : List Cl} {n : Nat} {M : Nat → List Bool} (h : Inv n (MarkD l n) (Seen l n) M) (ha : Apart l n) (hs : ∀ a, a < n → (l.getD a cl0).Sym < 256) : miss M = 0 ↔ OnceL l n := by
  rw [miss_zero]
  constructor
  · intro h0 a x hal hx
    have hsa := hs a hal
    have hne := (h.seen _ hsa).2 ⟨a, hal, rfl⟩
    have hl := (h.len _ hsa).resolve_left hne
    have hall := (falses_zero _).1 (h0 _ hsa)
    obtain ⟨b, hb, hin⟩ := (h.at' _ x hsa hx).1 (hall x (by omega))
    refine countTo_exact hb (decide_eq_true hin) fun c hc hin2 => ?_
    rw [decide_eq_true_eq] at hin2
    exact ha c b hc hb _ x hin2 hin
  · intro h0 s hsl
    rw [falses_zero]
    intro x hx
    by_cases he : M s = []
    · rw [he] at hx; simp at hx
    · have hl := (h.len s hsl).resolve_left he
      obtain ⟨a, hal, hae⟩ := (h.seen s hsl).1 he
      have h1 := h0 a x hal (by omega)
      obtain ⟨b, hb, hin⟩ := countTo_pos (p := fun b => decide (inC (l.getD b cl0) (l.getD a cl0).Sym x)) n (by omega)
      rw [decide_eq_true_eq, hae] at hin
      exact (h.at' s x hsl (by omega)).2 ⟨b, hb, hin⟩
theorem miss_le {n : Nat} {P : Nat → Nat → Prop} {S : Nat → Prop} {M : Nat → List Bool} (h : Inv n P S M) : miss M ≤ 256 * n := by
  have h1 : ∀ a, a < 256 → falses (M a) ≤ n := fun a ha => by
    have := falses_le (M a)
    rcases h.len a ha with h0 | h0
    · rw [h0]; simp [falses]
    · omega
  have h2 := sumTo_le (g := fun s => falses (M s)) (h := fun _ => n) 256 h1
  have h3 : ∀ k, sumTo (fun _ => n) k = k * n := fun k => by
    induction k with
    | zero => simp [sumTo]
    | succ k ih => rw [sumTo, ih, Nat.add_mul, Nat.one_mul]
  rw [h3] at h2
  exact h2
theorem WholeL.iff {l : List Cl} {R : Nat} (h1 : 1 ≤ R) (h2 : R ≤ 12) (hl : l.length = 2 ^ R) (hc : ∀ a, a < l.length → 0 ≤ (l.getD a cl0).Bits ∧ (l.getD a cl0).Bits ≤ 12 ∧ 0 ≤ (l.getD a cl0).Base ∧ (l.getD a cl0).Base ≤ (l.length : Int) - ((2 ^ (l.getD a cl0).Bits.toNat : Nat) : Int)) : WholeL l ↔ OnceL l l.length :=
  ⟨fun h => h.2.2, fun h => ⟨⟨R, h1, h2, hl⟩, hc, h⟩⟩

end Go.Proofs.YtokeoebhmjefoaaGreat

/- What dtab's eachOnce tells. THIS SPEAKS OF THE PROGRAM'S OWN TEXT. -/
namespace Go.Proofs.YtokeoebhmjefoaaGreat
open Go.RowKit

theorem slice_ne {g n : Nat} : (Value.slice (some ⟨g, 0, none⟩) n n) ≠ .slice none 0 0 := fun h => by simp at h
theorem eqlBools (W : World) (a : Addr) (n c : Nat) : (binOp .eql 102 (.slice (some a) n c) (.slice none 0 0)).run Tryz.prog W = .ok (.bool false) W := by kernel_rfl
theorem eqlBools0 (W : World) (n c : Nat) : (binOp .eql 102 (.slice none n c) (.slice none 0 0)).run Tryz.prog W = .ok (.bool true) W := by kernel_rfl
theorem made_bools (w : World) (n : Nat) : RowT (w.alloc (.cells (madeCells #[.bool false] n) 4)) w.heap.size 4 (List.replicate n false) := by
  have : madeCells #[.bool false] n = (bl (List.replicate n false)).toArray := by
    apply Array.ext'
    rw [madeCells, Array.toList_map, Array.toList_range]
    refine List.ext_getElem (by simp [bl]) fun i h1 h2 => ?_
    simp [bl, Nat.mod_one]
  unfold RowT
  rw [← this]
  exact heap_alloc_new w _

end Go.Proofs.YtokeoebhmjefoaaGreat

/- What dtab's fitted and Whole tell. THIS SPEAKS OF THE PROGRAM'S OWN TEXT. -/
namespace Go.Proofs.YtokeoebhmjefoaaGreat
open Go.RowKit

/-- the cell next to c that leads to none but a table's states -/
def clampI (x m : Int) : Int := if m < (if x < 0 then 0 else x) then m else (if x < 0 then 0 else x)
def fitC (c : Cl) (R : Nat) : Cl := ⟨c.Sym, clampI c.Bits (R : Int), clampI c.Base (((2 ^ R : Nat) : Int) - ((2 ^ (clampI c.Bits (R : Int)).toNat : Nat) : Int))⟩
theorem clamp_range {x m : Int} (h : 0 ≤ m) : 0 ≤ clampI x m ∧ clampI x m ≤ m := by
  unfold clampI; split <;> split at * <;> omega
theorem clamp_eq {x m : Int} (h : 0 ≤ m) : x = clampI x m ↔ 0 ≤ x ∧ x ≤ m := by
  unfold clampI; split <;> split at * <;> omega

theorem fit_ok {c : Cl} {R : Nat} : c = fitC c R ↔ 0 ≤ c.Bits ∧ c.Bits ≤ (R : Int) ∧ 0 ≤ c.Base ∧ c.Base ≤ ((2 ^ R : Nat) : Int) - ((2 ^ c.Bits.toNat : Nat) : Int) := by
  obtain ⟨S, bi, ba⟩ := c
  unfold fitC
  simp only [Cl.mk.injEq, true_and]
  have h1 := clamp_eq (x := bi) (m := (R : Int)) (by omega)
  constructor
  · rintro ⟨e1, e2⟩
    have hb := h1.1 e1
    rw [← e1] at e2
    have hle : 2 ^ bi.toNat ≤ 2 ^ R := Nat.pow_le_pow_right (by decide) (by omega)
    have := (clamp_eq (by omega)).1 e2
    exact ⟨hb.1, hb.2, this.1, this.2⟩
  · rintro ⟨a1, a2, a3, a4⟩
    have e1 := h1.2 ⟨a1, a2⟩
    have hle : 2 ^ bi.toNat ≤ 2 ^ R := Nat.pow_le_pow_right (by decide) (by omega)
    refine ⟨e1, ?_⟩
    rw [← e1]
    exact (clamp_eq (by omega)).2 ⟨a3, a4⟩

theorem whole_fit {l : List Cl} {n R : Nat} (hn : n = 2 ^ R) (hl : l.length = n) (h : WholeL l) (a : Nat) (ha : a < n) : l.getD a cl0 = fitC (l.getD a cl0) R := by
  obtain ⟨h0, h1, h2, h3⟩ := h.2.1 a (by rw [hl]; exact ha)
  rw [hl] at h3
  refine fit_ok.2 ⟨h0, ?_, h2, by rw [← hn]; exact h3⟩
  have : 2 ^ (l.getD a cl0).Bits.toNat ≤ 2 ^ R := by omega
  have : (l.getD a cl0).Bits.toNat < R + 1 := lt_of_pow (by rw [Nat.pow_succ]; have := Nat.two_pow_pos R; omega)
  omega

end Go.Proofs.YtokeoebhmjefoaaGreat

/- append(s, x...): cells x that are read, onto a row of cells of the call's own; cells that may be written. -/
namespace Go.Proofs.YtokeoebhmjefoaaGreat
open Go.RowKit

theorem RdC.news {w : World} {a : Addr} {n cap : Nat} {xs : List Cl} (h : RdC w (.slice (some a) n cap) xs) : ∀ j u, (cvs xs)[j]? = some u → w.cell? (a.add j) = some u := by
  intro j u hu
  rcases h with ⟨rfl, _⟩ | ⟨g, off, cap', he, hc⟩
  · simp [cvs] at hu
  · simp only [Value.slice.injEq, Option.some.injEq] at he
    obtain ⟨rfl, rfl, rfl⟩ := he
    have hj : j < xs.length * 3 := by rw [← cvs_length]; exact (List.getElem?_eq_some_iff.1 hu).1
    obtain ⟨i, r, hr, rfl⟩ : ∃ i r, r < 3 ∧ j = i * 3 + r := ⟨j / 3, j % 3, Nat.mod_lt _ (by decide), by omega⟩
    have hg := cvs_get xs i (by omega)
    have hcc := hc i (by omega)
    rw [add_lit]
    obtain rfl | rfl | rfl : r = 0 ∨ r = 1 ∨ r = 2 := by omega
    · have := hg.1; rw [Nat.add_zero] at hu ⊢; rw [this] at hu; rw [← Option.some.inj hu]; exact hcc.1
    · rw [hg.2.1] at hu; rw [← Option.some.inj hu, ← Nat.add_assoc]; exact hcc.2.1
    · rw [hg.2.2] at hu; rw [← Option.some.inj hu, ← Nat.add_assoc]; exact hcc.2.2
theorem cvs_one (xs : List Cl) : ∀ u ∈ cvs xs, u.oneCell' = true := by
  intro u hu
  simp only [cvs, List.mem_flatMap, cv] at hu
  obtain ⟨x, _, hx⟩ := hu
  simp at hx
  rcases hx with rfl | rfl | rfl <;> rfl
theorem run_appendC_nil (w : World) (ty : TypeId) (base n c : Nat) (v : Value) (ys : List Value) (hown : w.ownsRow base 94 3 v n ys) :
    (Builtin.append_ #[55, 55] ty #[v, .slice none 0 c]).run Tryz.prog w = .ok v w := by
  obtain ⟨i, hi, hz0, hz1, hz2⟩ := info_parts Tryz.infoCell
  rcases hown.2 with ⟨rfl, _⟩ | ⟨g, cap, cur, rfl, _, hg, hn, _⟩
  · simp [Builtin.append_, run_underlying Tryz.underlying55, sizeOf, typeInfo, hi, Builtin.lenOf, Builtin.firstCells]
  · simp [Builtin.append_, run_underlying Tryz.underlying55, sizeOf, typeInfo, hi, Builtin.lenOf, Builtin.firstCells, hn, storeCells]

theorem wp_append_cells {o : Oper} {a : Act} {w : World} {K : Act → World → Prop} {Q : Exit → Act → World → Prop} (s x : Operand)
    (ho : o.op = .call { callee := .builtin .append, args := #[s, x], argTypes := #[55, 55] })
    (base : Nat) (v : Value) (ys : List Cl) (hs : a.eval s = v) (hown : w.ownsRow base 94 3 v ys.length (cvs ys))
    (u : Value) (xs : List Cl) (hx : a.eval x = u) (hr : RdC w u xs) (hb : base ≤ w.heap.size) (hl : ys.length + xs.length < 10000000000)
    (h : ∀ v' w', w'.ownsRow base 94 3 v' (ys ++ xs).length (cvs (ys ++ xs)) → Chg (fun k => some k = v.ownBlock) w w' → K (a.put o.dst v') w') : o.wp Tryz.prog a w K Q := by
  obtain ⟨i, hi, hz0, hz1, hz2⟩ := info_parts Tryz.infoCell
  obtain ⟨ao, cap, hu⟩ := hr.form
  subst hu
  cases ao with
  | none =>
    have h0 : xs = [] := by
      rcases hr with ⟨h0, _⟩ | ⟨g, off, cap', he, _⟩
      · exact h0
      · simp at he
    subst h0
    have hrun := run_appendC_nil w o.type base ys.length cap v (cvs ys) hown
    rw [List.length_nil] at hx
    unfold Oper.wp execOp
    simp only [ho, resolve, invoke, builtin, Sem.run_bind, Sem.run_pure, Result.andThen_ok, List.map_toArray, List.map_cons, List.map_nil, hs, hx, hrun]
    exact h v w (by rw [List.append_nil]; exact hown) (Chg.refl _ _)
  | some ad =>
    refine wp_append_own w s x 55 ho base 94 i (.agg #[.int .u8 0, .int .i64 0, .int .i64 0]) 3 24 Tryz.underlying55 hi hz0 hz1 hz2 rfl (by decide) v ys.length (cvs ys) hs hown ad xs.length cap (cvs xs) hx (by rw [cvs_length]) (RdC.news hr) (cvs_one xs) (by unfold maxLen; omega) (by omega) hb fun v' w' h2 h3 _ => ?_
    exact h v' w' (by rw [List.length_append, cvs_append]; exact h2) (Chg.of_grown h3)

theorem wpList_append_cells {ops : Array Oper} {rest : List Oper} {o : Oper} {a : Act} {w : World} {Q : Exit → Act → World → Prop} (hgd : o.guard = none) (s x : Operand)
    (ho : o.op = .call { callee := .builtin .append, args := #[s, x], argTypes := #[55, 55] })
    (base : Nat) (v : Value) (ys : List Cl) (hs : a.eval s = v) (hown : w.ownsRow base 94 3 v ys.length (cvs ys))
    (u : Value) (xs : List Cl) (hx : a.eval x = u) (hr : RdC w u xs) (hb : base ≤ w.heap.size) (hl : ys.length + xs.length < 10000000000)
    (h : ∀ v' w', w'.ownsRow base 94 3 v' (ys ++ xs).length (cvs (ys ++ xs)) → Chg (fun k => some k = v.ownBlock) w w' → wpList Tryz.prog ops Q rest (a.put o.dst v') w') :
    wpList Tryz.prog ops Q (o :: rest) a w :=
  wpList_plain hgd fun _ hK => wp_append_cells s x ho base v ys hs hown u xs hx hr hb hl fun v' w' h2 h3 => hK _ _ (h v' w' h2 h3)

/-- The value v is a slice of the cells l, in memory from block base on, that may be written. -/
def OwnC (w : World) (base : Nat) (v : Value) (l : List Cl) : Prop :=
  ∃ g off cap, v = .slice (some ⟨g, off, none⟩) l.length cap ∧ base ≤ g ∧ g < w.heap.size ∧ (∀ j, j < l.length →
    w.cell? ⟨g, off + j * 3, none⟩ = some (.int .u8 ((l.getD j cl0).Sym : Int)) ∧ w.cell? ⟨g, off + j * 3 + 1, none⟩ = some (.int .i64 (l.getD j cl0).Bits) ∧ w.cell? ⟨g, off + j * 3 + 2, none⟩ = some (.int .i64 (l.getD j cl0).Base)) ∧ ∀ j, w.frozen? ⟨g, off + j, none⟩ = false
theorem OwnC.rd {w : World} {base : Nat} {v : Value} {l : List Cl} (h : OwnC w base v l) : RdC w v l := by
  obtain ⟨g, off, cap, rfl, _, _, hc, _⟩ := h
  exact .inr ⟨g, off, cap, rfl, hc⟩
theorem OwnC.kept {S : Nat → Prop} {w w' : World} {base : Nat} {v : Value} {l : List Cl} (h : OwnC w base v l) (hc : Chg S w w') (hS : ∀ k, v.ownBlock = some k → ¬ S k) : OwnC w' base v l := by
  obtain ⟨g, off, cap, rfl, hb, hl, hcell, hf⟩ := h
  have hblk := hc.block g hl (hS g rfl)
  refine ⟨g, off, cap, rfl, hb, Nat.lt_of_lt_of_le hl hc.size, fun j hj => ?_, fun j => ?_⟩
  · rw [World.cell?_of_block (w := w) (a := ⟨g, off + j * 3, none⟩) hblk, World.cell?_of_block (w := w) (a := ⟨g, off + j * 3 + 1, none⟩) hblk, World.cell?_of_block (w := w) (a := ⟨g, off + j * 3 + 2, none⟩) hblk]; exact hcell j hj
  · have := hf j
    unfold World.frozen? at this ⊢
    simp only [hblk]; exact this
theorem OwnC.of_own {w : World} {base : Nat} {v : Value} {l : List Cl} (h : w.ownsRow base 94 3 v l.length (cvs l)) (h0 : 0 < l.length) : OwnC w base v l := by
  rcases h.2 with ⟨rfl, h1⟩ | ⟨g, cap, cur, rfl, hb, hg, h3⟩
  · omega
  · refine ⟨g, 0, cap, rfl, hb, lt_of_block hg, fun j hj => ?_, fun j => frozen_of_row w g _ _ _ hg⟩
    have hh := cvs_get l j hj
    rw [Nat.zero_add, h.cellAt (j * 3) (by omega), h.cellAt (j * 3 + 1) (by omega), h.cellAt (j * 3 + 2) (by omega)]
    exact hh
theorem getD_setC (l : List Cl) (i j : Nat) (c : Cl) (hi : i < l.length) : (l.set i c).getD j cl0 = if i = j then c else l.getD j cl0 := by
  by_cases h : i = j
  · subst h; rw [if_pos rfl, getD_set_self hi]
  · rw [if_neg h, getD_set_other h]
theorem OwnC.storeBase {w : World} {base g off n cap : Nat} {l : List Cl} (h : OwnC w base (.slice (some ⟨g, off, none⟩) n cap) l) (i : Nat) (hi : i < l.length) (z : Int) :
    OwnC (w.setCell ⟨g, off + i * 3 + 2, none⟩ (.int .i64 z)) base (.slice (some ⟨g, off, none⟩) n cap) (l.set i ⟨(l.getD i cl0).Sym, (l.getD i cl0).Bits, z⟩) := by
  obtain ⟨g', off', cap', he, hb, hl, hcell, hf⟩ := h
  simp only [Value.slice.injEq, Option.some.injEq, Addr.mk.injEq] at he
  obtain ⟨⟨rfl, rfl, -⟩, rfl, rfl⟩ := he
  refine ⟨g, off, cap, by simp, hb, by simpa [World.setCell] using hl, fun j hj => ?_, fun j => ?_⟩
  · rw [List.length_set] at hj
    have hcj := hcell j hj
    rw [getD_setC _ _ _ _ hi, World.cell?_setCell_other _ _ _ _ (fun hh => by simp only [Addr.mk.injEq] at hh; omega), World.cell?_setCell_other _ _ _ _ (fun hh => by simp only [Addr.mk.injEq] at hh; omega)]
    by_cases hij : i = j
    · subst hij
      rw [if_pos rfl, World.cell?_setCell_same _ _ _ hcj.2.2]
      exact ⟨hcj.1, hcj.2.1, rfl⟩
    · rw [if_neg hij, World.cell?_setCell_other _ _ _ _ (fun hh => by simp only [Addr.mk.injEq] at hh; omega)]
      exact hcj
  · rw [World.frozen?_setCell]; exact hf j
theorem OwnC.storeBits {w : World} {base g off n cap : Nat} {l : List Cl} (h : OwnC w base (.slice (some ⟨g, off, none⟩) n cap) l) (i : Nat) (hi : i < l.length) (z : Int) :
    OwnC (w.setCell ⟨g, off + i * 3 + 1, none⟩ (.int .i64 z)) base (.slice (some ⟨g, off, none⟩) n cap) (l.set i ⟨(l.getD i cl0).Sym, z, (l.getD i cl0).Base⟩) := by
  obtain ⟨g', off', cap', he, hb, hl, hcell, hf⟩ := h
  simp only [Value.slice.injEq, Option.some.injEq, Addr.mk.injEq] at he
  obtain ⟨⟨rfl, rfl, -⟩, rfl, rfl⟩ := he
  refine ⟨g, off, cap, by simp, hb, by simpa [World.setCell] using hl, fun j hj => ?_, fun j => ?_⟩
  · rw [List.length_set] at hj
    have hcj := hcell j hj
    rw [getD_setC _ _ _ _ hi, World.cell?_setCell_other _ _ _ _ (fun hh => by simp only [Addr.mk.injEq] at hh; omega), World.cell?_setCell_other (a := ⟨g, off + i * 3 + 1, none⟩) (b := ⟨g, off + j * 3 + 2, none⟩) _ _ (fun hh => by simp only [Addr.mk.injEq] at hh; omega)]
    by_cases hij : i = j
    · subst hij
      rw [if_pos rfl, World.cell?_setCell_same _ _ _ hcj.2.1]
      exact ⟨hcj.1, rfl, hcj.2.2⟩
    · rw [if_neg hij, World.cell?_setCell_other _ _ _ _ (fun hh => by simp only [Addr.mk.injEq] at hh; omega)]
      exact hcj
  · rw [World.frozen?_setCell]; exact hf j

end Go.Proofs.YtokeoebhmjefoaaGreat

/- What dtab's Of, Step and Whole tell. THIS SPEAKS OF THE PROGRAM'S OWN TEXT. -/
namespace Go.Proofs.YtokeoebhmjefoaaGreat
open Go.RowKit

theorem cown_ne {w : World} {B b : Nat} {v : Value} {n : Nat} {xs : List Value} {cs : Array Value} {fr : Nat × Nat} (h : w.ownsRow B 94 3 v n xs) (hb : w.heap[b]? = some (.cells cs 92 fr)) : v.ownBlock ≠ some b := by
  intro he
  rcases h.2 with ⟨rfl, rfl⟩ | ⟨g, cap, cur, rfl, _, hg, _⟩
  · cases he
  · simp only [Value.ownBlock, Option.some.injEq] at he
    subst he
    rw [hb] at hg
    simp at hg

/-- append of one cell, in a region that draws -/
theorem step_append_cell {ops : Array Oper} {o : Oper} {a : Act} {W : World} {K : Act → World → Prop} {Q : Exit → Act → World → Prop} {E : Prop} (hgd : o.guard = none) (s x : Operand)
    (ho : o.op = .call { callee := .builtin .append, args := #[s, x], argTypes := #[55, 55] })
    (B : Nat) (v : Value) (l : List Cl) (y : Cl) (hs : a.eval s = v) (hown : W.ownsRow B 94 3 v l.length (cvs l)) (G : Nat) (hx : a.eval x = .slice (some ⟨G, 0, none⟩) 1 1)
    (hblk : W.heap[G]? = some (.cells (cv y).toArray 94 (0, 0))) (hl : l.length ≤ 100000) (hB : B ≤ W.heap.size)
    (n1 : Nat) (hn1 : n1 = l.length + 1) (h : ∀ g cap w', w'.ownsRow B 94 3 (.slice (some ⟨g, 0, none⟩) n1 cap) (l ++ [y]).length (cvs (l ++ [y])) → Chg (fun k => some k = v.ownBlock) W w' → K (a.put o.dst (.slice (some ⟨g, 0, none⟩) n1 cap)) w') :
    if Region.wanted o (yielded ops a.tmps) = true then Oper.wp Tryz.prog o a W K Q else E := by
  subst hn1
  obtain ⟨i, hi, hz0, hz1, hz2⟩ := info_parts Tryz.infoCell
  refine step_append_lies W hgd s x 55 ho B 94 i (.agg #[.int .u8 0, .int .i64 0, .int .i64 0]) 3 24 Tryz.underlying55 hi hz0 hz1 hz2 rfl (by decide) v l.length (cvs l) hs hown ⟨G, 0, none⟩ 1 1 (cv y) hx rfl (World.news_of_block hblk)
    (fun u hu => cvs_one [y] u (by simpa [cvs] using hu)) (by decide) (by unfold maxLen; omega) (by omega) hB _ rfl fun g cap w' h2 h3 _ _ => ?_
  exact h g cap w' (by rw [List.length_append, cvs_append, List.length_singleton]; simpa [cvs] using h2) (Chg.of_grown h3)

theorem count_take (xs : List Nat) (u : Nat) : ∀ p, p ≤ xs.length → countTo (fun a => decide (xs.getD a 0 = u)) p = (xs.take p).count u
  | 0, _ => by simp [countTo]
  | p + 1, h => by
    have ih := count_take xs u p (by omega)
    have ht : xs.take (p + 1) = xs.take p ++ [xs.getD p 0] := by
      rw [List.take_succ_eq_append_getElem (by omega), List.getD_eq_getElem?_getD, List.getElem?_eq_getElem (by omega)]; rfl
    rw [countTo, ih, ht, List.count_append]
    by_cases he : xs.getD p 0 = u
    · rw [he]; simp
    · simp only [decide_eq_true_eq, he, if_false]
      rw [List.count_singleton]
      simpa [List.getD_eq_getElem?_getD] using he

/-- the cells of the first p places -/
def OutD (f : Nat → Nat) (k p : Nat) (out : List Cl) : Prop := out.length = p ∧ ∀ a, a < p → ∃ s d, s < 256 ∧ d < f s ∧ placeF f 256 s (f s + d) = a ∧ out.getD a cl0 = cellOf k s (f s + d)
theorem OutD.step {f : Nat → Nat} {k p : Nat} {out : List Cl} (h : OutD f k p out) {s d : Nat} (hs : s < 256) (hd : d < f s) (hp : placeF f 256 s (f s + d) = p) : OutD f k (p + 1) (out ++ [cellOf k s (f s + d)]) := by
  refine ⟨by rw [List.length_append, h.1]; rfl, fun a ha => ?_⟩
  by_cases hap : a = p
  · subst hap
    refine ⟨s, d, hs, hd, hp, ?_⟩
    rw [List.getD_eq_getElem?_getD, List.getElem?_append_right (by rw [h.1]; exact Nat.le_refl _), h.1, Nat.sub_self]; rfl
  · obtain ⟨t, e, h1, h2, h3, h4⟩ := h.2 a (by omega)
    refine ⟨t, e, h1, h2, h3, ?_⟩
    rw [← h4, List.getD_eq_getElem?_getD, List.getElem?_append_left (by rw [h.1]; omega), ← List.getD_eq_getElem?_getD]
theorem OutD.all {f : Nat → Nat} {k : Nat} {out : List Cl} (hs : sumTo f 256 = 2 ^ k) (h : OutD f k (2 ^ k) out) : IsDtab f k out := by
  refine ⟨h.1, fun s d hs1 hd => ?_⟩
  have hr := place_room (f := f) (N := 256) hs1 hd
  rw [hs] at hr
  obtain ⟨t, e, h1, h2, h3, h4⟩ := h.2 _ hr
  obtain ⟨rfl, rfl⟩ := place_inj h1 hs1 h2 hd h3
  exact h4

theorem OwnC.mono {w : World} {base base' : Nat} {v : Value} {l : List Cl} (h : OwnC w base v l) (hb : base' ≤ base) : OwnC w base' v l := by
  obtain ⟨g, off, cap, rfl, h1, h2⟩ := h
  exact ⟨g, off, cap, rfl, Nat.le_trans hb h1, h2⟩
/-- Of tells its cells, in memory of their own -/
def DtabNew (w : World) (q : List Int) (e : Ending) (w' : World) : Prop :=
  ∃ v', e = .returned (.tuple #[v', .int .i64 (if logI (totalI q) = 0 then 1 else 0)]) ∧ (logI (totalI q) ≠ 0 → ∃ l, OwnC w' w.heap.size v' l ∧ IsDtab (fq q) (logI (totalI q)) l) ∧ (logI (totalI q) = 0 → RdC w' v' []) ∧ Chg (fun _ => False) w w'

set_option maxRecDepth 100000 in
set_option maxHeartbeats 1000000 in
theorem dof_new (v : Value) (q : List Int) (w : World) (h : RdI w v q) (hb : ∀ z ∈ q, -9223372036854775808 ≤ z ∧ z ≤ 9223372036854775807) (hl : q.length < 100000000000) :
    Calls Tryz.prog 23 #[v] w fun e w' => DtabNew w q e w' := by
  have hsp := sof_any v q w h hb hl
  unfold SpreadSays at hsp
  by_cases hk : logI (totalI q) = 0
  · obtain ⟨ao, cap, rfl⟩ := h.form
    have HSP := Lib.hid hsp; have HK := Lib.hid hk
    clear hb hl hk h hsp
    go_enter Tryz.func23, Tryz.ntmps23
    go_wp2_with fail
    refine HSP.out.mono ?_
    rintro e w1 ⟨v1, rfl, -, h2, hc⟩
    rw [if_pos HK.out]
    have HC := Lib.hid hc
    clear hc h2 HSP
    go_wp2
    go_ret2
    exact ⟨_, by rw [if_pos HK.out]; rfl, fun h => absurd HK.out h, fun _ => .inl ⟨rfl, none, 0, rfl⟩, HC.out⟩
  · have hq := normQ_of hk
    have hlog := fun W (hc : Chg (fun _ => False) w W) => slog_any v q W (h.kept hc (by simp)) hb hl
    obtain ⟨ao, cap, rfl⟩ := h.form
    obtain ⟨g, off, rfl, hcell⟩ := hq.cells h
    have HSP := Lib.hid hsp; have HK := Lib.hid hk; have HLOG := Lib.hid hlog; have HCELL := Lib.hid hcell
    obtain ⟨k, hke⟩ : ∃ k, logI (totalI q) = k := ⟨_, rfl⟩
    rw [hke] at hq HLOG HSP
    have hk12 : (k : Int) ≤ 12 := by have := hq.2.2.2.2; omega
    have hlenq : (q.length : Int) = 256 := by have := hq.1; omega
    have hsum := hq.sum
    have HQ := Lib.hid (show sumTo (fq q) 256 = 2 ^ k ∧ (∀ s, fq q s ≤ 4096) ∧ k ≤ 12 ∧ 2 ^ k ≤ 4096 ∧ 1 ≤ k from ⟨hsum, hq.le, hq.2.2.2.2, hq.size, hq.2.2.2.1⟩)
    obtain ⟨n, hn⟩ : ∃ n, q.length = n := ⟨_, rfl⟩
    rw [hn] at HSP HLOG hlenq ⊢
    obtain ⟨f, hf⟩ : ∃ f, fq q = f := ⟨_, rfl⟩
    rw [hf] at HSP HCELL HQ
    have HF := Lib.hid hf; have HKE := Lib.hid hke
    obtain ⟨L, hL⟩ : ∃ L, 2 ^ k = L := ⟨_, rfl⟩
    have HL := Lib.hid hL
    have hL4 : (L : Int) ≤ 4096 := by have := HQ.out.2.2.2.1; omega
    have hkk : ¬ k = 0 := by have := HQ.out.2.2.2.2; omega
    obtain ⟨Z, hZ, hzero⟩ := zeroCounts
    have HZ := Lib.hid hZ
    clear hb hl hk h hsp hlog hcell hq hsum hn hf hke hL hZ
    go_enter Tryz.func23, Tryz.ntmps23
    go_wp2_with fail
    refine HSP.out.mono ?_
    rintro e w1 ⟨v1, rfl, h1, -, hc1⟩
    obtain ⟨sl, hos, hsp⟩ := h1 hkk
    rw [if_neg hkk]
    obtain ⟨asl, psl, rfl⟩ := hos.rd.form
    have hsl : sl.length = L := by rw [hsp.len, HQ.out.1, HL.out]
    have HOS := Lib.hid hos.rd; have HSPR := Lib.hid hsp; have HC1 := Lib.hid hc1; have HSL := Lib.hid hsl
    rw [hsl] at HOS ⊢
    clear HSP hos hsp hc1 hsl hkk h1
    go_wp2_with fail
    refine (HLOG.out w1 HC1.out).mono ?_
    rintro e w2 ⟨rfl, hc2⟩
    have HC2 := Lib.hid (HC1.out.trans hc2 fun _ _ h => h)
    have HOS2 := Lib.hid (HOS.out.kept hc2 (by simp))
    clear HOS HLOG hc2
    obtain ⟨i, hi, hz0, hz1, hz2⟩ := info_parts Tryz.infoCell
    go_wp2_with (at_make; refine wpList_make_own w2 rfl _ _ 55 rfl w2.heap.size 94 i (.agg #[.int .u8 0, .int .i64 0, .int .i64 0]) 3 Tryz.underlying55 hi hz0 hz1 .i64 .i64 (L : Int) L rfl rfl rfl (by rw [hz2]; omega) (by unfold maxLen; omega) (Nat.le_refl _) ?_)
    intro w3 ho hg3
    have hc3 : Chg (fun _ => False) w2 w3 := (Chg.of_grown hg3).mono fun k _ hk => by simp at hk
    have hm4 : RowI (w3.alloc (.cells Z.toArray 92)) w3.heap.size 92 (cnt (sl.take 0)) := by
      rw [List.take_zero, cnt_nil]; unfold RowI; rw [← HZ.out]; exact heap_alloc_new w3 _
    have hc4 := Chg.alloc (fun _ => False) w3 (.cells Z.toArray 92)
    have ho4 := ho.alloc (.cells Z.toArray 92)
    obtain ⟨W4, hW4⟩ : ∃ W4, w3.alloc (.cells Z.toArray 92) = W4 := ⟨_, rfl⟩
    rw [hW4] at hm4 hc4 ho4
    have hlt4 := hm4.lt
    have hge4 := hc3.size
    obtain ⟨GM, hGM⟩ : ∃ GM, w3.heap.size = GM := ⟨_, rfl⟩
    rw [hGM] at hm4 hlt4 hge4
    obtain ⟨G0, hG0⟩ : ∃ G0, w2.heap.size = G0 := ⟨_, rfl⟩
    rw [hG0] at ho4 hge4 ⊢
    have ST := Lib.hid (show RowI W4 GM 92 (cnt (sl.take 0)) ∧ Chg (fun _ => False) w2 W4 ∧ W4.ownsRow G0 94 3 (.slice (some ⟨G0, 0, none⟩) 0 L) 0 [] from ⟨hm4, hc3.trans hc4 fun _ _ h => h, ho4⟩)
    have HG := Lib.hid (show w2.heap.size = G0 ∧ G0 ≤ GM from ⟨hG0, hge4⟩)
    have hsx : ∀ x ∈ sl, x < 256 := fun x hx => by
      obtain ⟨p, hp, rfl⟩ := List.getElem_of_mem hx
      have := HSPR.out.is (p := p) (s := sl.getD p 0) hp rfl
      rw [List.getD_eq_getElem?_getD, List.getElem?_eq_getElem hp] at this
      exact this.1
    have HSX := Lib.hid hsx
    clear hm4 hc4 ho4 hc3 ho hg3 hlt4 hge4 hG0 hsx
    go_wp2
    clear hGM hW4
    go_loopw [7, 26] (fun o7 o26 wr => ∃ (p : Nat) (out : List Cl), p ≤ L ∧ o26 = .int .i64 (p : Int) ∧ wr.ownsRow G0 94 3 o7 p (cvs out) ∧ OutD f k p out ∧ RowI wr GM 92 (cnt (sl.take p)) ∧ (∃ gg cc, o7 = .slice (some ⟨gg, 0, none⟩) p cc) ∧ Chg (fun _ => False) w2 wr) (fun _ o26 _ => L - (intOf o26).toNat)
    case atStart => exact ⟨0, [], Nat.zero_le _, rfl, ST.out.2.2, ⟨rfl, fun a ha => by omega⟩, ST.out.1, ⟨G0, L, rfl⟩, ST.out.2.1⟩
    case round =>
      obtain ⟨p, out, hp, rfl, hown, hout, hmet, ⟨gg, cc, rfl⟩, hc⟩ := hrel
      clear ST
      by_cases hlt : p < L
      · have hltI : (p : Int) < (L : Int) := by omega
        obtain ⟨gs, offs, rfl, hscell⟩ := (HOS2.out.kept hc (by simp)).at p (by rw [HSL.out]; exact hlt)
        have hsp := HSPR.out.is (p := p) (s := sl.getD p 0) (by rw [HSL.out]; exact hlt) rfl
        have hts := cnt_take_succ sl p (by rw [HSL.out]; exact hlt) hsp.1
        have hgd := cnt_getD (sl.take p) (sl.getD p 0) hsp.1
        obtain ⟨s, hse⟩ : ∃ s, sl.getD p 0 = s := ⟨_, rfl⟩
        rw [hse] at hscell hsp hts hgd
        obtain ⟨hs, d, hd, hpl⟩ := hsp
        have hnth := HSPR.out.nth hs hd
        rw [hpl, count_take sl s p (by rw [HSL.out]; exact hp)] at hnth
        rw [hnth] at hgd
        have hF4 := HQ.out.2.1 s
        have hqc := fun W (hcw : Chg (fun _ => False) w2 W) => HCELL.out W (HC2.out.trans hcw fun _ _ h => h) s hs
        have hsle := f_le (f := f) (R := k) HQ.out.1 hs
        have hcl := fun W => dcell_any s (f s + d) k W (by omega) (by rw [Nat.pow_succ]; omega) HQ.out.2.2.1
        have hout2 := hout.step hs hd hpl
        obtain ⟨F, hF⟩ : ∃ F, f s = F := ⟨_, rfl⟩
        rw [hF] at hqc hcl hout2 hd hF4
        obtain ⟨J, hJ⟩ : ∃ J, F + d = J := ⟨_, rfl⟩
        have hJI : (F : Int) + (d : Int) = (J : Int) := by omega
        rw [hJ] at hcl hout2
        obtain ⟨y, hy⟩ : ∃ y, cellOf k s J = y := ⟨_, rfl⟩
        rw [hy] at hcl hout2
        have hmc := hmet.cell s (by rw [cnt_length]; exact hs)
        rw [hgd] at hmc
        have hmf := hmet.free s
        have hm2 := hmet.set s ((d : Int) + 1)
        rw [hgd] at hts
        rw [← hts] at hm2
        have hqw := hqc wr hc
        have hwJ : IntKind.i64.wrap (J : Int) = (J : Int) := by rw [IntKind.wrap_i64]; omega
        have hsn : (s : Int) < (n : Int) := by omega
        have hsI : (s : Int) < 256 := by omega
        have hdI : (d : Int) ≤ 4096 := by omega
        have hFI : (F : Int) ≤ 4096 := by omega
        obtain ⟨S, I, Ba⟩ := y
        simp only [] at hcl
        have HCL := Lib.hid hcl; have HOWN := Lib.hid hown; have HMET := Lib.hid hmet; have HC := Lib.hid hc; have HQC := Lib.hid hqc; have HO2 := Lib.hid hout2; have HM2 := Lib.hid hm2; have HS := Lib.hid hs; have HOL := Lib.hid hout.1; have HGD := Lib.hid hgd; have HTS := Lib.hid hts
        obtain ⟨p1, hp1⟩ : ∃ p1, p1 = out.length + 1 := ⟨_, rfl⟩
        have HP1 := Lib.hid hp1
        have hp1I : (p : Int) + 1 = (p1 : Int) := by rw [hp1, hout.1]; omega
        clear hcl hown hmet hc hqc hout2 hm2 hs hout hgd hts hnth hd hpl hse hF hJ hy hp hF4 hsle hp1
        go_wp2
        go_region_held3 (fun W => W.cell? ⟨g, off + s, none⟩ = some (.int .i64 (F : Int)) ∧ W.cell? ⟨GM, s, none⟩ = some (.int .i64 (d : Int))) (first | exact ⟨hqw, hmc⟩ | exact ⟨z0, z1⟩ | exact ⟨z4 _, z5 _⟩ | exact ⟨z2, z3⟩) (first
          | (go_at_call 48; refine (HCL.out _).mono ?_; rintro e w5 ⟨rfl, hc5⟩; have hc6 := (Chg.refl (fun _ => False) wr).drew.trans hc5 fun _ _ h => h; have hm5 := HMET.out.kept hc6 (fun h => h); have z0 := HQC.out w5 (HC.out.trans hc6 fun _ _ h => h); have z1 := hm5.cell s (by rw [cnt_length]; exact HS.out); rw [HGD.out] at z1; have z4 := fun ob => HQC.out (w5.alloc ob) ((HC.out.trans hc6 fun _ _ h => h).trans (Chg.alloc (fun _ => False) w5 ob) fun _ _ h => h); have z5 := fun ob => (hm5.kept (Chg.alloc (fun _ => False) w5 ob) (fun h => h)).cell s (by rw [cnt_length]; exact HS.out); rw [HGD.out] at z5; have HO5 := Lib.hid (hc6.own HOWN.out (fun _ _ h => h)); have HM5 := Lib.hid hm5; have HC5 := Lib.hid (HC.out.trans hc6 fun _ _ h => h); clear hc5 hc6 hm5)
          | (refine step_append_cell rfl (.tmp 30) (.tmp 42) rfl G0 (.slice (some ⟨gg, 0, none⟩) p cc) out ⟨S, I, Ba⟩ rfl (by rw [HOL.out]; exact HO5.out.alloc _) w5.heap.size rfl (heap_alloc_new w5 _) (by rw [HOL.out]; omega) (by have h1 := HC5.out.size; have h2 := HG.out.1; have h3 := (Chg.alloc (fun _ => False) w5 (.cells #[.int .u8 (S : Int), .int .i64 I, .int .i64 Ba] 94)).size; omega) p1 HP1.out ?_; intro g8 c8 w8 ho8 hc8; have hn8 : gg ≠ GM := (fun he => cown_ne HO5.out HM5.out (by rw [he]; rfl)); have hge := (HO5.out.lt gg rfl).1; have hm8 := (HM5.out.kept (Chg.alloc (fun _ => False) w5 _) (fun h => h)).kept hc8 (fun he => by simp only [Value.ownBlock, Option.some.injEq] at he; omega); have hc9 := ((HC5.out.trans (Chg.alloc (fun _ => False) w5 _) fun _ _ h => h).trans hc8 fun q hq he => by simp only [Value.ownBlock, Option.some.injEq] at he; have h2 := HG.out.1; omega); have z2 := HQC.out w8 hc9; have z3 := hm8.cell s (by rw [cnt_length]; exact HS.out); rw [HGD.out] at z3; have HO8 := Lib.hid ho8; have HM8 := Lib.hid hm8; have HC9 := Lib.hid hc9; clear ho8 hc8 hm8 hc9 hge hn8))
        have hmf8 := HM8.out.free s
        have hm9 := HM8.out.set s ((d : Int) + 1)
        rw [← HTS.out] at hm9
        have hc10 := HC9.out.trans (Chg.setCell w8 ⟨GM, s, none⟩ (.int .i64 ((d : Int) + 1))) fun q hq he => by simp only [] at he; have h2 := HG.out; omega
        have ho10 := (Chg.setCell w8 ⟨GM, s, none⟩ (.int .i64 ((d : Int) + 1))).own HO8.out (fun k hk he => by
          have := cown_ne HO8.out HM8.out
          simp only [] at he
          rw [he] at hk
          exact this hk)
        have HM9 := Lib.hid hm9; have HC10 := Lib.hid hc10; have HO10 := Lib.hid ho10
        clear hm9 hc10 ho10
        go_wp2
        go_roundw
        case rel =>
          refine ⟨p + 1, out ++ [⟨S, I, Ba⟩], by omega, by go_num, ?_, HO2.out, HM9.out, ⟨g8, c8, by rw [HP1.out, HOL.out]⟩, HC10.out⟩
          have h9 := HO10.out
          rw [List.length_append, HOL.out] at h9
          exact h9
        case measure => simp [intOf]; omega
      · obtain rfl : p = L := by omega
        have hdt : IsDtab f k out := OutD.all HQ.out.1 (by rw [HL.out]; exact hout)
        have hL0 : 0 < p := by rw [← HL.out]; exact Nat.two_pow_pos k
        have how : OwnC wr w.heap.size (.slice (some ⟨gg, 0, none⟩) p cc) out := by
          have h9 := hown
          rw [← hout.1] at h9
          have h10 := OwnC.of_own h9 (by rw [hout.1]; exact hL0)
          rw [hout.1] at h10
          exact h10.mono (by have := HC2.out.size; have := HG.out.1; omega)
        have HD := Lib.hid hdt; have HW := Lib.hid how; have HC9 := Lib.hid (HC2.out.trans hc fun _ _ h => h)
        have hltp : ¬ p < p := by omega
        clear hdt how hown hout hmet hc hlt
        go_wp2
        go_ret2
        exact ⟨_, by rw [if_neg HK.out]; rfl, fun _ => ⟨out, HW.out, by rw [HKE.out, HF.out]; exact HD.out⟩, fun h => absurd h HK.out, HC9.out⟩

theorem dof_any (v : Value) (q : List Int) (w : World) (h : RdI w v q) (hb : ∀ z ∈ q, -9223372036854775808 ≤ z ∧ z ≤ 9223372036854775807) (hl : q.length < 100000000000) :
    Calls Tryz.prog 23 #[v] w fun e w' => DtabSays w q e w' :=
  (dof_new v q w h hb hl).mono fun e w' ⟨v', h1, h2, h3, h4⟩ => ⟨v', h1, fun hk => by
    obtain ⟨l, ho, hd⟩ := h2 hk
    exact ⟨l, ho.rd, hd⟩, h3, h4⟩

end Go.Proofs.YtokeoebhmjefoaaGreat

/- What is built of a model's lists, of each when it is asked for, in memory: a model, a function, 256 values, 256 marks. -/
namespace Go.Proofs.YtokeoebhmjefoaaGreat
open Go.RowKit

/-- the cells of the structure: the model, what builds, what was built, what was asked -/
def lsRow (fn : Nat) (m : Md) (cv : Value) (vs qs : List Value) : Array Value := (.int .i64 m.log :: .bool m.one :: cv :: .func (.func fn) #[] #[] :: (vs ++ qs)).toArray
theorem lsRow_v {fn : Nat} {m : Md} {cv : Value} {vs qs : List Value} (hv : vs.length = 256) (c : Nat) (hc : c < 256) : (lsRow fn m cv vs qs)[4 + c]? = some (vs.getD c undef) := by
  unfold lsRow
  rw [List.getElem?_toArray, show 4 + c = c + 1 + 1 + 1 + 1 by omega, List.getElem?_cons_succ, List.getElem?_cons_succ, List.getElem?_cons_succ, List.getElem?_cons_succ, List.getElem?_append_left (by omega), List.getD_eq_getElem?_getD, List.getElem?_eq_getElem (by omega)]; rfl
theorem lsRow_q {fn : Nat} {m : Md} {cv : Value} {vs qs : List Value} (hv : vs.length = 256) (hq : qs.length = 256) (c : Nat) (hc : c < 256) : (lsRow fn m cv vs qs)[260 + c]? = some (qs.getD c undef) := by
  unfold lsRow
  rw [List.getElem?_toArray, show 260 + c = c + 256 + 1 + 1 + 1 + 1 by omega, List.getElem?_cons_succ, List.getElem?_cons_succ, List.getElem?_cons_succ, List.getElem?_cons_succ, List.getElem?_append_right (by omega), hv, Nat.add_sub_cancel, List.getD_eq_getElem?_getD, List.getElem?_eq_getElem (by omega)]; rfl
theorem lsRow_set_v {fn : Nat} {m : Md} {cv : Value} {vs qs : List Value} (hv : vs.length = 256) (c : Nat) (hc : c < 256) (u : Value) : (lsRow fn m cv vs qs).setIfInBounds (4 + c) u = lsRow fn m cv (vs.set c u) qs := by
  unfold lsRow
  rw [List.setIfInBounds_toArray, show 4 + c = c + 1 + 1 + 1 + 1 by omega, List.set_cons_succ, List.set_cons_succ, List.set_cons_succ, List.set_cons_succ, List.set_append_left _ _ (by omega)]
theorem lsRow_set_q {fn : Nat} {m : Md} {cv : Value} {vs qs : List Value} (hv : vs.length = 256) (c : Nat) (u : Value) : (lsRow fn m cv vs qs).setIfInBounds (260 + c) u = lsRow fn m cv vs (qs.set c u) := by
  unfold lsRow
  rw [List.setIfInBounds_toArray, show 260 + c = c + 256 + 1 + 1 + 1 + 1 by omega, List.set_cons_succ, List.set_cons_succ, List.set_cons_succ, List.set_cons_succ, List.set_append_right _ _ (by omega), hv, Nat.add_sub_cancel]

/-- the structure's block -/
def Lsb (w : World) (G : Nat) (t : TypeId) (fn : Nat) (m : Md) (cv : Value) (vs qs : List Value) : Prop := w.heap[G]? = some (.cells (lsRow fn m cv vs qs) t (0, 0)) ∧ vs.length = 256 ∧ qs.length = 256
theorem Lsb.head {w : World} {G : Nat} {t : TypeId} {fn : Nat} {m : Md} {cv : Value} {vs qs : List Value} (h : Lsb w G t fn m cv vs qs) : w.cell? ⟨G, 1, none⟩ = some (.bool m.one) ∧ w.cell? ⟨G, 2, none⟩ = some cv ∧ w.cell? ⟨G, 3, none⟩ = some (.func (.func fn) #[] #[]) := by
  refine ⟨?_, ?_, ?_⟩
  · rw [cell_of_row w G 1 _ _ _ h.1]; rfl
  · rw [cell_of_row w G 2 _ _ _ h.1]; rfl
  · rw [cell_of_row w G 3 _ _ _ h.1]; rfl
theorem Lsb.v {w : World} {G : Nat} {t : TypeId} {fn : Nat} {m : Md} {cv : Value} {vs qs : List Value} (h : Lsb w G t fn m cv vs qs) (c : Nat) (hc : c < 256) : w.cell? ⟨G, 4 + c, none⟩ = some (vs.getD c undef) ∧ w.frozen? ⟨G, 4 + c, none⟩ = false :=
  ⟨by rw [cell_of_row w G _ _ _ _ h.1]; exact lsRow_v h.2.1 c hc, frozen_of_row w G _ _ _ h.1⟩
theorem Lsb.q {w : World} {G : Nat} {t : TypeId} {fn : Nat} {m : Md} {cv : Value} {vs qs : List Value} (h : Lsb w G t fn m cv vs qs) (c : Nat) (hc : c < 256) : w.cell? ⟨G, 260 + c, none⟩ = some (qs.getD c undef) ∧ w.frozen? ⟨G, 260 + c, none⟩ = false :=
  ⟨by rw [cell_of_row w G _ _ _ _ h.1]; exact lsRow_q h.2.1 h.2.2 c hc, frozen_of_row w G _ _ _ h.1⟩
theorem Lsb.kept {S : Nat → Prop} {w w' : World} {G : Nat} {t : TypeId} {fn : Nat} {m : Md} {cv : Value} {vs qs : List Value} (h : Lsb w G t fn m cv vs qs) (hc : Chg S w w') (hS : ¬ S G) : Lsb w' G t fn m cv vs qs := ⟨(hc.block G (lt_of_block h.1) hS).trans h.1, h.2⟩
theorem Lsb.set_v {w : World} {G : Nat} {t : TypeId} {fn : Nat} {m : Md} {cv : Value} {vs qs : List Value} (h : Lsb w G t fn m cv vs qs) (c : Nat) (hc : c < 256) (u : Value) : Lsb (w.setCell ⟨G, 4 + c, none⟩ u) G t fn m cv (vs.set c u) qs :=
  ⟨by rw [heap_setCell_same w G _ _ _ u h.1, lsRow_set_v h.2.1 c hc], by rw [List.length_set]; exact h.2.1, h.2.2⟩
theorem Lsb.set_q {w : World} {G : Nat} {t : TypeId} {fn : Nat} {m : Md} {cv : Value} {vs qs : List Value} (h : Lsb w G t fn m cv vs qs) (c : Nat) (u : Value) : Lsb (w.setCell ⟨G, 260 + c, none⟩ u) G t fn m cv vs (qs.set c u) :=
  ⟨by rw [heap_setCell_same w G _ _ _ u h.1, lsRow_set_q h.2.1 c], h.2.1, by rw [List.length_set]; exact h.2.2⟩
theorem lsv_self {vs : List Value} (c : Nat) (u : Value) (hc : c < vs.length) : (vs.set c u).getD c undef = u := by
  rw [List.getD_eq_getElem?_getD, List.getElem?_set_self hc]; rfl
theorem lsv_other {vs : List Value} (c d : Nat) (u : Value) (hd : d ≠ c) : (vs.set c u).getD d undef = vs.getD d undef := by
  rw [List.getD_eq_getElem?_getD, List.getElem?_set_ne (Ne.symm hd), ← List.getD_eq_getElem?_getD]

/-- what is said of a value that was built stays, as long as its own blocks do -/
def AtKept (At : (Nat → Prop) → World → Value → Nat → Prop) : Prop := ∀ (S T : Nat → Prop) (w w' : World) (v : Value) (c : Nat), At S w v c → Chg T w w' → (∀ k, S k → ¬ T k) → At S w' v c
/-- a context's value: not asked for; or built, in blocks that are none of X -/
def LsAt (At : (Nat → Prop) → World → Value → Nat → Prop) (G : Nat) (W : World) (X : Nat → Prop) (vs qs : List Value) (c : Nat) : Prop :=
  qs.getD c undef = .bool false ∨ (qs.getD c undef = .bool true ∧ ∃ S, At S W (vs.getD c undef) c ∧ ∀ k, S k → k < W.heap.size ∧ ¬ X k ∧ k ≠ G)
/-- the structure at block G, since the world w; blocks of X are others', and may turn -/
structure LsJ (t : TypeId) (fn : Nat) (At : (Nat → Prop) → World → Value → Nat → Prop) (w : World) (G : Nat) (m : Md) (cv : Value) (W : World) (X : Nat → Prop) : Prop where
  low : w.heap.size ≤ G
  chg : Chg (fun _ => False) w W
  lt : ∀ k, X k → w.heap.size ≤ k ∧ k < W.heap.size ∧ k ≠ G
  row : ∃ vs qs : List Value, Lsb W G t fn m cv vs qs ∧ ∀ c, c < 256 → LsAt At G W X vs qs c
theorem LsJ.inn {t : TypeId} {fn : Nat} {At : (Nat → Prop) → World → Value → Nat → Prop} {w : World} {G : Nat} {m : Md} {cv : Value} {W : World} {X : Nat → Prop} (h : LsJ t fn At w G m cv W X) : G < W.heap.size := by
  obtain ⟨vs, qs, h1, _⟩ := h.row
  exact lt_of_block h1.1
theorem LsJ.kept {t : TypeId} {fn : Nat} {At : (Nat → Prop) → World → Value → Nat → Prop} (hAt : AtKept At) {w : World} {G : Nat} {m : Md} {cv : Value} {W W' : World} {X X' : Nat → Prop} (h : LsJ t fn At w G m cv W X) (hc : Chg X W W') (hX : ∀ k, X' k → k < W'.heap.size ∧ (X k ∨ W.heap.size ≤ k)) : LsJ t fn At w G m cv W' X' := by
  have hG := h.inn
  have hlo := h.low
  refine ⟨h.low, h.chg.trans hc fun k hk hx => absurd (h.lt k hx).1 (by omega), fun k hk => ?_, ?_⟩
  · obtain ⟨h1, h2 | h2⟩ := hX k hk
    · exact ⟨(h.lt k h2).1, h1, (h.lt k h2).2.2⟩
    · exact ⟨by omega, h1, by omega⟩
  · obtain ⟨vs, qs, h1, h2⟩ := h.row
    refine ⟨vs, qs, h1.kept hc fun hx => (h.lt G hx).2.2 rfl, fun c hc' => ?_⟩
    rcases h2 c hc' with h4 | ⟨e1, S, e2, e3⟩
    · exact .inl h4
    · refine .inr ⟨e1, S, hAt S X W W' _ c e2 hc fun k hk => (e3 k hk).2.1, fun k hk => ⟨Nat.lt_of_lt_of_le (e3 k hk).1 hc.size, fun hx => ?_, (e3 k hk).2.2⟩⟩
      obtain ⟨-, h5 | h5⟩ := hX k hx
      · exact (e3 k hk).2.1 h5
      · have := (e3 k hk).1; omega
theorem LsJ.still {t : TypeId} {fn : Nat} {At : (Nat → Prop) → World → Value → Nat → Prop} (hAt : AtKept At) {w : World} {G : Nat} {m : Md} {cv : Value} {W W' : World} {X : Nat → Prop} (h : LsJ t fn At w G m cv W X) (hc : Chg (fun _ => False) W W') : LsJ t fn At w G m cv W' X :=
  h.kept hAt (hc.mono fun _ _ h => h.elim) fun k hk => ⟨Nat.lt_of_lt_of_le (h.lt k hk).2.1 hc.size, .inl hk⟩
/-- one more is built, in memory that is new -/
theorem LsJ.fill {t : TypeId} {fn : Nat} {At : (Nat → Prop) → World → Value → Nat → Prop} (hAt : AtKept At) {w : World} {G : Nat} {m : Md} {cv : Value} {W V : World} {X : Nat → Prop} (h : LsJ t fn At w G m cv W X) {vs qs : List Value} (hall : ∀ c, c < 256 → LsAt At G W X vs qs c) (hv : vs.length = 256) (hq : qs.length = 256) (hc : Chg (fun k => k = G) W V) (j : Nat) (hj : j < 256) {u : Value}
    (hrow : Lsb V G t fn m cv (vs.set j u) (qs.set j (.bool true))) {S : Nat → Prop} (hu : At S V u j) (hS : ∀ k, S k → W.heap.size ≤ k ∧ k < V.heap.size) : LsJ t fn At w G m cv V X := by
  have hG := h.inn
  have hlo := h.low
  refine ⟨h.low, h.chg.trans hc fun k hk hx => by omega, fun k hk => ⟨(h.lt k hk).1, Nat.lt_of_lt_of_le (h.lt k hk).2.1 hc.size, (h.lt k hk).2.2⟩, _, _, hrow, fun c hc' => ?_⟩
  by_cases hcj : c = j
  · subst hcj
    refine .inr ⟨lsv_self c _ (by omega), S, by rw [lsv_self c _ (by omega)]; exact hu, fun k hk => ⟨(hS k hk).2, fun hx => ?_, ?_⟩⟩
    · have := (h.lt k hx).2.1; have := (hS k hk).1; omega
    · have := (hS k hk).1; omega
  · unfold LsAt
    rw [lsv_other j c _ hcj, lsv_other j c _ hcj]
    rcases hall c hc' with h4 | ⟨e1, S', e2, e3⟩
    · exact .inl h4
    · exact .inr ⟨e1, S', hAt S' _ W V _ c e2 hc fun k hk => (e3 k hk).2.2, fun k hk => ⟨Nat.lt_of_lt_of_le (e3 k hk).1 hc.size, (e3 k hk).2⟩⟩

/-- a context's Table -/
def AtT (m : Md) (S : Nat → Prop) (W : World) (v : Value) (c : Nat) : Prop := ∃ a lo hi, v = .pointer (some a) ∧ EtIn lo hi W a (m.atL (c : Int)) ∧ ∀ k, lo ≤ k → k < hi → S k
theorem AtT.kept (m : Md) : AtKept (AtT m) := by
  rintro S T w w' v c ⟨a, lo, hi, h1, h2, h3⟩ hc hST
  exact ⟨a, lo, hi, h1, h2.kept hc fun k k1 k2 => hST k (h3 k k1 k2), h3⟩
/-- a context's cells, or none -/
def CelsOf (m : Md) (c : Nat) (l : List Cl) : Prop := (m.atL (c : Int) = [] → l = []) ∧ (m.atL (c : Int) ≠ [] → IsDtab (fM m c) (RM m) l)
def AtC (m : Md) (S : Nat → Prop) (W : World) (v : Value) (c : Nat) : Prop := ∃ l, CelsOf m c l ∧ RdC W v l ∧ (l = [] ∨ ∀ k, v.ownBlock = some k → S k)
theorem AtC.kept (m : Md) : AtKept (AtC m) := by
  rintro S T w w' v c ⟨l, h1, h2, h3⟩ hc hST
  refine ⟨l, h1, ?_, h3⟩
  rcases h3 with rfl | h3
  · obtain ⟨ao, cap, rfl⟩ := h2.form
    exact .inl ⟨rfl, ao, cap, rfl⟩
  · exact h2.kept hc fun k hk => hST k (h3 k hk)

/-- which list a context has -/
def lsAt (m : Md) (c : Nat) : Nat := if m.one then 0 else c
theorem lsAt_list {m : Md} (hr : m.right) {c : Nat} (hc : c < 256) : lsAt m c < 256 ∧ lsAt m c < m.cs.length ∧ m.cs.getD (lsAt m c) [] = m.atL (c : Int) ∧ m.atL ((lsAt m c : Nat) : Int) = m.atL (c : Int) := by
  have h2 := hr.2.1
  unfold lsAt Md.atL
  cases ho : m.one with
  | true =>
    rw [ho] at h2
    simp only [if_true] at h2 ⊢
    rw [if_pos ⟨hr, by omega, by omega⟩, if_pos ⟨hr, by omega, by omega⟩]
    exact ⟨by omega, by omega, rfl, rfl⟩
  | false =>
    rw [ho] at h2
    simp only [Bool.false_eq_true, if_false] at h2 ⊢
    rw [if_pos ⟨hr, by omega, by omega⟩, Int.toNat_natCast]
    exact ⟨hc, by omega, rfl, trivial⟩
theorem fM_lsAt {m : Md} (hr : m.right) {c : Nat} (hc : c < 256) : fM m (lsAt m c) = fM m c := by
  funext s
  unfold fM
  rw [(lsAt_list hr hc).2.2.2]

end Go.Proofs.YtokeoebhmjefoaaGreat

/- What the structure's of tells, whose lists' Tables are built: a context's Table, built when it is first asked for. THIS SPEAKS OF THE PROGRAM'S OWN TEXT. -/
namespace Go.Proofs.YtokeoebhmjefoaaGreat
open Go.RowKit

theorem Tryz.entersEt (args : Array Value) (w : World) : (callFunc 35 args).run Tryz.prog w = .ok (.enter 35 args) w := by kernel_rfl
abbrev LsT (w : World) (G : Nat) (m : Md) (cv : Value) (W : World) (X : Nat → Prop) : Prop := LsJ 74 35 (AtT m) w G m cv W X

set_option maxRecDepth 100000 in
set_option maxHeartbeats 4000000 in
theorem lofT_each (w : World) (G : Nat) (m : Md) (cv : Value) (W : World) (X : Nat → Prop) (c : Nat) (h : LsT w G m cv W X) (hl : RdLL w cv m.cs) (hr : m.right) (hone : m.one = false) (hc : c < 256) (hne : m.atL (c : Int) ≠ []) :
    Calls Tryz.prog 38 #[.pointer (some ⟨G, 0, none⟩), .int .i64 (c : Int)] W fun e W' => ∃ a, e = .returned (.pointer (some a)) ∧ EtOk W' a (m.atL (c : Int)) ∧ LsT w G m cv W' X ∧ Chg (fun k => k = G) W W' := by
  obtain ⟨vs, qs, hb, hall⟩ := h.row
  obtain ⟨hj1, hj2, hj3, hj4⟩ := lsAt_list hr hc
  have hjc : lsAt m c = c := by unfold lsAt; rw [hone]; rfl
  rw [hjc] at hj1 hj2 hj3 hj4
  obtain ⟨b1, b2, b3⟩ := hb.head
  obtain ⟨v1, v2⟩ := hb.v c hj1
  obtain ⟨q1, q2⟩ := hb.q c hj1
  have hent := Tryz.entersEt
  have hcI : (c : Int) < 256 := by omega
  have hc0 : (0 : Int) ≤ (c : Int) := by omega
  rw [hone] at b1
  have H := Lib.hid h; have HB := Lib.hid hb; have HALL := Lib.hid hall; have HJ4 := Lib.hid hj4; have HR := Lib.hid hr
  rcases hall c hj1 with hq | ⟨hq, S, ⟨a, lo, hi, hv, het, hS⟩, hX⟩
  · have hnq := norm_at hr _ hne
    have hlog : logI (totalI (m.atL (c : Int))) ≠ 0 := by rw [hnq.log]; have := hnq.2.2.2.1; omega
    have HLOG := Lib.hid hlog
    clear hnq hlog
    rw [hq] at q1
    obtain ⟨ao, cap, rfl⟩ := hl.form
    obtain ⟨g, off, u, rfl, hcell, hu⟩ := hl.room c hj2
    rw [hj3] at hu
    obtain ⟨W1, hW1⟩ : ∃ V, W.setCell ⟨G, 260 + c, none⟩ (.bool true) = V := ⟨_, rfl⟩
    have hb1 := hb.set_q c (.bool true)
    have hch1 := Chg.setCell W ⟨G, 260 + c, none⟩ (.bool true)
    rw [hW1] at hb1 hch1
    have hlow := h.low
    have hc1 : Chg (fun _ => False) w W1 := h.chg.trans hch1 fun k hk he => by simp only [] at he; omega
    obtain ⟨c1, c2, c3⟩ := hb1.head
    have hgl := block_lt_of_cell hcell
    have hcell1 : W1.cell? ⟨g, off + c, none⟩ = some u := by
      rw [World.cell?_of_block (w := w) (a := ⟨g, off + c, none⟩) (hc1.block g hgl (by simp))]; exact hcell
    obtain ⟨n, hn⟩ : ∃ n, m.cs.length = n := ⟨_, rfl⟩
    have hfit := hr.fit64.at c (by omega)
    rw [hj3] at hfit
    have HE := Lib.hid (enew_in u (m.atL (c : Int)) W1.drew (hu.1.kept hc1.drew (by simp)) hfit.2 hfit.1)
    have HU := Lib.hid hu; have HB1 := Lib.hid hb1; have HCH1 := Lib.hid hch1; have HC1 := Lib.hid hc1; have HGL := Lib.hid hgl; have HLOW := Lib.hid hlow; have HW1 := Lib.hid hW1; have HJ1 := Lib.hid hj1; have HN := Lib.hid hn
    have hun : u.oneCell' = true := by obtain ⟨au, cu, rfl⟩ := hu.1.form; rfl
    obtain ⟨au, cu, hue⟩ := hu.1.form
    have hncI : (c : Int) < (n : Int) := by omega
    have hn0 : 0 < n := by omega
    rw [hn] at b2 c2 ⊢
    clear h hb hall hl hr hj2 hj3 hj4 hjc hq hu hb1 hch1 hc1 hcell hgl hlow hn hfit hone v1 v2 hW1
    skip
    rw [hue] at hcell1
    go_enter Tryz.func38, Tryz.ntmps38
    go_wp2
    rw [HW1.out]
    go_region_held3 (fun V => V.cell? ⟨G, 3, none⟩ = some (.func (.func 35) #[] #[]) ∧ V.cell? ⟨G, 2, none⟩ = some (.slice (some ⟨g, off, none⟩) n cap) ∧ V.cell? ⟨g, off + c, none⟩ = some (.slice au (m.atL (c : Int)).length cu)) (first | exact ⟨c3, c2, hcell1⟩ | exact ⟨d3, d2, dc⟩ | exact ⟨f3, f2, fc⟩) (first
      | (go_at_call 35; rw [← hue]; refine HE.out.mono ?_; rintro e V2 ⟨-, hy, hcv⟩; obtain ⟨a, rfl, hin⟩ := hy HLOG.out; have hb2 := HB1.out.kept ((Chg.refl (fun _ => False) W1).drew.trans hcv fun _ _ h => h) (by simp); obtain ⟨-, d2, d3⟩ := hb2.head; rw [HN.out] at d2; have dc : V2.cell? ⟨g, off + c, none⟩ = some (.slice au (m.atL (c : Int)).length cu) := (World.cell?_of_block (w := W1) (a := ⟨g, off + c, none⟩) (((Chg.refl (fun _ => False) W1).drew.trans hcv fun _ _ h => h).block g (block_lt_of_cell hcell1) (by simp))).trans hcell1; obtain ⟨d4, d5⟩ := hb2.v c HJ1.out; have hb3 := hb2.set_v c HJ1.out (.pointer (some a)); obtain ⟨-, f2, f3⟩ := hb3.head; rw [HN.out] at f2; obtain ⟨f4, -⟩ := hb3.v c HJ1.out; rw [lsv_self _ _ (by rw [hb2.2.1]; exact HJ1.out)] at f4; skip; have fc : (V2.setCell ⟨G, 4 + c, none⟩ (.pointer (some a))).cell? ⟨g, off + c, none⟩ = some (.slice au (m.atL (c : Int)).length cu) := (World.cell?_of_block (w := V2) (a := ⟨g, off + c, none⟩) ((Chg.setCell V2 ⟨G, 4 + c, none⟩ (.pointer (some a))).block g (block_lt_of_cell dc) (by simp only []; have := HGL.out; have := HLOW.out; omega))).trans dc; have HIN := Lib.hid hin; have HB3 := Lib.hid hb3; have HCV := Lib.hid hcv; clear hin hb3 hcv hb2))
    go_wp2
    go_ret
    have hcv3 : Chg (fun k => k = G) W1 _ := ((Chg.refl (fun k => k = G) W1).drew.trans HCV.out fun _ _ h => h.elim).trans (Chg.setCell V2 ⟨G, 4 + c, none⟩ (.pointer (some a))) fun _ _ h => h
    have hw3 := HCH1.out.trans hcv3 fun _ _ h => h
    rw [← HN.out]
    exact ⟨a, rfl, (HIN.out.kept (Chg.setCell V2 ⟨G, 4 + c, none⟩ (.pointer (some a))) fun k k1 k2 hk => by
        simp only [] at hk
        have := lt_of_block HB1.out.1
        have := HC1.out.size
        replace k1 : W1.heap.size ≤ k := k1
        omega).ok, H.out.fill (AtT.kept m) HALL.out HB.out.2.1 HB.out.2.2 hw3 c HJ1.out HB3.out (S := fun k => W1.heap.size ≤ k ∧ k < V2.heap.size) ⟨a, _, _, rfl, HIN.out.kept (Chg.setCell V2 ⟨G, 4 + c, none⟩ (.pointer (some a))) (fun k k1 k2 hk => by
        simp only [] at hk
        have := lt_of_block HB1.out.1
        replace k1 : W1.heap.size ≤ k := k1
        omega) |> fun hh => by exact hh, fun k k1 k2 => ⟨k1, k2⟩⟩ fun k hk => ⟨Nat.le_trans HCH1.out.size hk.1, Nat.lt_of_lt_of_le hk.2 (Chg.setCell V2 ⟨G, 4 + c, none⟩ (.pointer (some a))).size⟩, hw3⟩
  ·
    rw [hq] at q1
    rw [hv] at v1
    have HET := Lib.hid het
    clear h hb hall hl hr hj2 hj3 hj4 hjc hq hone
    skip
    clear het hS hX hne hv
    go_enter Tryz.func38, Tryz.ntmps38
    go_wp2
    go_ret
    exact ⟨a, rfl, by have hh := HET.out.ok; exact hh, H.out, Chg.refl _ _⟩

set_option maxRecDepth 100000 in
set_option maxHeartbeats 4000000 in
theorem lofT_one (w : World) (G : Nat) (m : Md) (cv : Value) (W : World) (X : Nat → Prop) (c : Nat) (h : LsT w G m cv W X) (hl : RdLL w cv m.cs) (hr : m.right) (hone : m.one = true) (hc : c < 256) (hne : m.atL (c : Int) ≠ []) :
    Calls Tryz.prog 38 #[.pointer (some ⟨G, 0, none⟩), .int .i64 (c : Int)] W fun e W' => ∃ a, e = .returned (.pointer (some a)) ∧ EtOk W' a (m.atL (c : Int)) ∧ LsT w G m cv W' X ∧ Chg (fun k => k = G) W W' := by
  obtain ⟨vs, qs, hb, hall⟩ := h.row
  obtain ⟨hj1, hj2, hj3, hj4⟩ := lsAt_list hr hc
  have hjc : lsAt m c = 0 := by unfold lsAt; rw [hone]; rfl
  rw [hjc] at hj1 hj2 hj3 hj4
  obtain ⟨b1, b2, b3⟩ := hb.head
  obtain ⟨v1, v2⟩ := hb.v 0 hj1
  obtain ⟨q1, q2⟩ := hb.q 0 hj1
  have hent := Tryz.entersEt
  have hcI : (c : Int) < 256 := by omega
  have hc0 : (0 : Int) ≤ (c : Int) := by omega
  rw [hone] at b1
  have H := Lib.hid h; have HB := Lib.hid hb; have HALL := Lib.hid hall; have HJ4 := Lib.hid hj4; have HR := Lib.hid hr
  rcases hall 0 hj1 with hq | ⟨hq, S, ⟨a, lo, hi, hv, het, hS⟩, hX⟩
  · have hnq := norm_at hr _ hne
    have hlog : logI (totalI (m.atL (c : Int))) ≠ 0 := by rw [hnq.log]; have := hnq.2.2.2.1; omega
    have HLOG := Lib.hid hlog
    clear hnq hlog
    rw [hq] at q1
    obtain ⟨ao, cap, rfl⟩ := hl.form
    obtain ⟨g, off, u, rfl, hcell, hu⟩ := hl.room 0 hj2
    rw [hj3] at hu
    obtain ⟨W1, hW1⟩ : ∃ V, W.setCell ⟨G, 260 + 0, none⟩ (.bool true) = V := ⟨_, rfl⟩
    have hb1 := hb.set_q 0 (.bool true)
    have hch1 := Chg.setCell W ⟨G, 260 + 0, none⟩ (.bool true)
    rw [hW1] at hb1 hch1
    have hlow := h.low
    have hc1 : Chg (fun _ => False) w W1 := h.chg.trans hch1 fun k hk he => by simp only [] at he; omega
    obtain ⟨c1, c2, c3⟩ := hb1.head
    have hgl := block_lt_of_cell hcell
    have hcell1 : W1.cell? ⟨g, off + 0, none⟩ = some u := by
      rw [World.cell?_of_block (w := w) (a := ⟨g, off + 0, none⟩) (hc1.block g hgl (by simp))]; exact hcell
    obtain ⟨n, hn⟩ : ∃ n, m.cs.length = n := ⟨_, rfl⟩
    have hfit := hr.fit64.at 0 (by omega)
    rw [hj3] at hfit
    have HE := Lib.hid (enew_in u (m.atL (c : Int)) W1.drew (hu.1.kept hc1.drew (by simp)) hfit.2 hfit.1)
    have HU := Lib.hid hu; have HB1 := Lib.hid hb1; have HCH1 := Lib.hid hch1; have HC1 := Lib.hid hc1; have HGL := Lib.hid hgl; have HLOW := Lib.hid hlow; have HW1 := Lib.hid hW1; have HJ1 := Lib.hid hj1; have HN := Lib.hid hn
    have hun : u.oneCell' = true := by obtain ⟨au, cu, rfl⟩ := hu.1.form; rfl
    obtain ⟨au, cu, hue⟩ := hu.1.form
    have hncI : (0 : Int) < (n : Int) := by omega
    have hn0 : 0 < n := by omega
    rw [hn] at b2 c2 ⊢
    clear h hb hall hl hr hj2 hj3 hj4 hjc hq hu hb1 hch1 hc1 hcell hgl hlow hn hfit hone v1 v2 hW1
    simp only [Nat.add_zero] at q1 q2 hcell1
    rw [hue] at hcell1
    go_enter Tryz.func38, Tryz.ntmps38
    go_wp2
    rw [show W.setCell ⟨G, 260, none⟩ (.bool true) = W1 from HW1.out]
    go_region_held3 (fun V => V.cell? ⟨G, 3, none⟩ = some (.func (.func 35) #[] #[]) ∧ V.cell? ⟨G, 2, none⟩ = some (.slice (some ⟨g, off, none⟩) n cap) ∧ V.cell? ⟨g, off, none⟩ = some (.slice au (m.atL (c : Int)).length cu)) (first | exact ⟨c3, c2, hcell1⟩ | exact ⟨d3, d2, dc⟩ | exact ⟨f3, f2, fc⟩) (first
      | (go_at_call 35; rw [← hue]; refine HE.out.mono ?_; rintro e V2 ⟨-, hy, hcv⟩; obtain ⟨a, rfl, hin⟩ := hy HLOG.out; have hb2 := HB1.out.kept ((Chg.refl (fun _ => False) W1).drew.trans hcv fun _ _ h => h) (by simp); obtain ⟨-, d2, d3⟩ := hb2.head; rw [HN.out] at d2; have dc : V2.cell? ⟨g, off, none⟩ = some (.slice au (m.atL (c : Int)).length cu) := (World.cell?_of_block (w := W1) (a := ⟨g, off, none⟩) (((Chg.refl (fun _ => False) W1).drew.trans hcv fun _ _ h => h).block g (block_lt_of_cell hcell1) (by simp))).trans hcell1; obtain ⟨d4, d5⟩ := hb2.v 0 HJ1.out; have hb3 := hb2.set_v 0 HJ1.out (.pointer (some a)); obtain ⟨-, f2, f3⟩ := hb3.head; rw [HN.out] at f2; obtain ⟨f4, -⟩ := hb3.v 0 HJ1.out; rw [lsv_self _ _ (by rw [hb2.2.1]; exact HJ1.out)] at f4; simp only [Nat.add_zero] at d4 d5 f2 f3 f4; have fc : (V2.setCell ⟨G, 4, none⟩ (.pointer (some a))).cell? ⟨g, off, none⟩ = some (.slice au (m.atL (c : Int)).length cu) := (World.cell?_of_block (w := V2) (a := ⟨g, off, none⟩) ((Chg.setCell V2 ⟨G, 4, none⟩ (.pointer (some a))).block g (block_lt_of_cell dc) (by simp only []; have := HGL.out; have := HLOW.out; omega))).trans dc; have HIN := Lib.hid hin; have HB3 := Lib.hid hb3; have HCV := Lib.hid hcv; clear hin hb3 hcv hb2))
    go_wp2
    go_ret
    have hcv3 : Chg (fun k => k = G) W1 _ := ((Chg.refl (fun k => k = G) W1).drew.trans HCV.out fun _ _ h => h.elim).trans (Chg.setCell V2 ⟨G, 4 + 0, none⟩ (.pointer (some a))) fun _ _ h => h
    have hw3 := HCH1.out.trans hcv3 fun _ _ h => h
    rw [← HN.out]
    exact ⟨a, rfl, (HIN.out.kept (Chg.setCell V2 ⟨G, 4 + 0, none⟩ (.pointer (some a))) fun k k1 k2 hk => by
        simp only [] at hk
        have := lt_of_block HB1.out.1
        have := HC1.out.size
        replace k1 : W1.heap.size ≤ k := k1
        omega).ok, H.out.fill (AtT.kept m) HALL.out HB.out.2.1 HB.out.2.2 hw3 0 HJ1.out HB3.out (S := fun k => W1.heap.size ≤ k ∧ k < V2.heap.size) ⟨a, _, _, rfl, HIN.out.kept (Chg.setCell V2 ⟨G, 4 + 0, none⟩ (.pointer (some a))) (fun k k1 k2 hk => by
        simp only [] at hk
        have := lt_of_block HB1.out.1
        replace k1 : W1.heap.size ≤ k := k1
        omega) |> fun hh => by rw [HJ4.out]; exact hh, fun k k1 k2 => ⟨k1, k2⟩⟩ fun k hk => ⟨Nat.le_trans HCH1.out.size hk.1, Nat.lt_of_lt_of_le hk.2 (Chg.setCell V2 ⟨G, 4 + 0, none⟩ (.pointer (some a))).size⟩, hw3⟩
  ·
    rw [hq] at q1
    rw [hv] at v1
    have HET := Lib.hid het
    clear h hb hall hl hr hj2 hj3 hj4 hjc hq hone
    simp only [Nat.add_zero] at q1 q2 v1 v2
    clear het hS hX hne hv
    go_enter Tryz.func38, Tryz.ntmps38
    go_wp2
    go_ret
    exact ⟨a, rfl, by have hh := HET.out.ok; rw [HJ4.out] at hh; exact hh, H.out, Chg.refl _ _⟩

end Go.Proofs.YtokeoebhmjefoaaGreat

/- What the document's own ctx (puncheonref06) tells. -/
namespace Go.Proofs.YtokeoebhmjefoaaGreat
open Go.RowKit

theorem own_oneB (w : World) (x : Nat) : (w.alloc (.cells #[.int .u8 (x : Int)] 5)).ownsRow w.heap.size 5 1 (.slice (some ⟨w.heap.size, 0, none⟩) 1 1) [x].length (bv [x]) :=
  ⟨rfl, .inr ⟨w.heap.size, 1, #[.int .u8 (x : Int)], rfl, Nat.le_refl _, heap_alloc_new w _, Nat.le_refl _, by unfold maxLen; omega, rfl, rfl⟩⟩

set_option maxHeartbeats 1000000 in
theorem r6at_any (v : Value) (xs : List Nat) (i : Int) (w : World) (h : RdB w v xs) (hx : ∀ x ∈ xs, x < 256) (hl : xs.length < 10000000000) (hi : -9223372036854775808 ≤ i ∧ i ≤ 9223372036854775807) :
    Calls Tryz.prog 17 #[v, .int .i64 i] w fun e w' => e = .returned (.int .i64 (atI xs i)) ∧ Chg (fun _ => False) w w' := by
  obtain ⟨ao, cap, rfl⟩ := h.form
  have H := Lib.hid h; have HX := Lib.hid hx
  clear h hx
  by_cases hneg : i < 0
  · have d1 : decide (i < 0) = true := decide_eq_true hneg
    have HA := Lib.hid (atI_out xs i (.inl hneg))
    go_enter Tryz.func17, Tryz.ntmps17
    go_wp2
    go_ret
    rw [HA.out]
    exact ⟨rfl, Chg.refl _ _⟩
  · have d1 : decide (i < 0) = false := decide_eq_false hneg
    by_cases hbig : (xs.length : Int) ≤ i
    · have d2 : decide ((xs.length : Int) ≤ i) = true := decide_eq_true hbig
      have HA := Lib.hid (atI_out xs i (.inr hbig))
      go_enter Tryz.func17, Tryz.ntmps17
      go_wp2
      go_ret
      rw [HA.out]
      exact ⟨rfl, Chg.refl _ _⟩
    · have d2 : decide ((xs.length : Int) ≤ i) = false := decide_eq_false hbig
      obtain ⟨k, rfl⟩ : ∃ k : Nat, i = (k : Int) := ⟨i.toNat, by omega⟩
      have hk : k < xs.length := by omega
      have HA := Lib.hid (atI_nat xs k hk)
      have hca := Chg.alloc (fun _ => False) w (.cells #[.int .u8 ((0 : Nat) : Int)] 5)
      have hoA := own_oneB w 0
      have hrx := H.out.kept hca (by simp)
      have HRX := Lib.hid hrx; have HCA := Lib.hid hca; have HO := Lib.hid hoA
      clear hca hoA hrx hneg hbig hi
      go_enter Tryz.func17, Tryz.ntmps17
      go_wp2_with (at_builtin; refine wpList_append_bytes rfl (.tmp 14) (.tmp 15) rfl w.heap.size _ [0] rfl HO.out _ xs rfl HRX.out (by simp) (by simp; omega) ?_)
      intro v3 w3 ho3 hc3
      have hc3' : Chg (fun _ => False) w w3 := HCA.out.trans hc3 (fun k hk hx => by simp [Value.ownBlock] at hx; omega)
      have hrd := RdB.of_own ho3
      obtain ⟨ao3, cap3, rfl⟩ := hrd.form
      obtain ⟨g, off, rfl, hcell⟩ := hrd.at k (by simp; omega)
      have hy := getD_lt (0 :: xs) (fun x hx => by
        rcases List.mem_cons.1 hx with rfl | hx
        · omega
        · exact HX.out x hx) k
      obtain ⟨y, hye⟩ : ∃ y, (0 :: xs).getD k 0 = y := ⟨_, rfl⟩
      rw [hye] at hcell hy HA
      have hkl : k < (0 :: xs).length := by simp; omega
      obtain ⟨n, hn⟩ : ∃ n, (0 :: xs).length = n := ⟨_, rfl⟩
      rw [hn] at hkl ⊢
      clear hc3 HCA HRX HO hrd ho3 hn
      go_wp2
      go_ret
      rw [HA.out]
      exact ⟨rfl, hc3'⟩

set_option maxHeartbeats 1000000 in
set_option maxRecDepth 100000 in
theorem r6for_any (v : Value) (xs : List Nat) (c : Int) (w : World) (h : RdB w v xs) (hx : ∀ x ∈ xs, x < 256) (hl : xs.length < 10000000000) :
    Calls Tryz.prog 32 #[v, .int .i64 c] w fun e w' => ∃ v', e = .returned v' ∧ OwnI w' w.heap.size v' (cnt (sel xs c)) ∧ Chg (fun _ => False) w w' := by
  obtain ⟨ao, cap, rfl⟩ := h.form
  have H := Lib.hid h; have HX := Lib.hid hx
  clear h hx
  go_enter Tryz.func32, Tryz.ntmps32
  go_wp2_with (at_make; refine wpList_make_ints rfl _ _ rfl 256 256 256 rfl rfl rfl rfl (by omega) (cnt (sel (xs.take 0) c)) (by rw [List.take_zero, sel_nil, cnt_nil]) ?_)
  intro w1 h1 hc1
  have H1 := Lib.hid h1; have HC1 := Lib.hid hc1
  clear h1 hc1
  go_wp2
  go_loopw [6] (fun o6 wr => ∃ k : Nat, k ≤ xs.length ∧ o6 = .int .i64 (k : Int) ∧ RowI wr w.heap.size 3 (cnt (sel (xs.take k) c)) ∧ Chg (fun _ => False) w wr) (fun o6 _ => xs.length - (intOf o6).toNat)
  case atStart => exact ⟨0, Nat.zero_le _, rfl, H1.out, HC1.out⟩
  case round =>
    obtain ⟨k, hk, rfl, hrow, hc⟩ := hrel
    clear H1 HC1
    by_cases hlt : k < xs.length
    · have HROW := Lib.hid hrow; have HC := Lib.hid hc
      clear hrow hc
      go_wp2_with fail
      refine (r6at_any _ xs (k : Int) wr (H.out.kept HC.out (by simp)) HX.out hl (by omega)).mono ?_
      rintro e w2 ⟨rfl, hc2⟩
      rw [atI_nat xs k hlt]
      have hrow := HROW.out.kept hc2 (by simp)
      have hc := HC.out.trans hc2 (fun _ _ h => h)
      have hst := sel_take_succ xs k hlt c
      clear HROW HC hc2
      obtain ⟨y, hye⟩ : ∃ y, (0 :: xs).getD k 0 = y := ⟨_, rfl⟩
      rw [hye] at hst ⊢
      clear hye
      by_cases hyc : (y : Int) = c
      · subst hyc
        rw [if_pos rfl] at hst
        obtain ⟨g, off, rfl, hcell⟩ := (H.out.kept hc (by simp)).at k hlt
        have hx8 := getD_lt xs HX.out k
        obtain ⟨x, hxe⟩ : ∃ x, xs.getD k 0 = x := ⟨_, rfl⟩
        rw [hxe] at hcell hx8 hst
        have hcs := cnt_snoc (sel (xs.take k) (y : Int)) x hx8
        rw [← hst] at hcs
        have hcu := hrow.cell x (by rw [cnt_length]; exact hx8)
        have hfu := hrow.free x
        have hbd : 0 ≤ (cnt (sel (xs.take k) (y : Int))).getD x 0 ∧ (cnt (sel (xs.take k) (y : Int))).getD x 0 ≤ 10000000000 := by
          rw [cnt_getD _ _ hx8]
          have h1 := List.count_le_length (l := sel (xs.take k) (y : Int)) (a := x)
          have h2 := sel_len (xs.take k) (y : Int)
          rw [List.length_take] at h2
          omega
        have hr2 := hrow.set x ((cnt (sel (xs.take k) (y : Int))).getD x 0 + 1)
        rw [← hcs] at hr2
        have hc2 : Chg (fun _ => False) w (w2.setCell ⟨w.heap.size, x, none⟩ (.int .i64 ((cnt (sel (xs.take k) (y : Int))).getD x 0 + 1))) := hc.trans (Chg.setCell w2 ⟨w.heap.size, x, none⟩ _) (fun q hq h => by simp at h; omega)
        obtain ⟨z, hze⟩ : ∃ z, (cnt (sel (xs.take k) (y : Int))).getD x 0 = z := ⟨_, rfl⟩
        rw [hze] at hcu hbd hr2 hc2
        obtain ⟨hz0, hz1⟩ := hbd
        have HR2 := Lib.hid hr2; have HC2 := Lib.hid hc2
        clear hst hcs hr2 hc2 hrow hc hze hxe
        go_wp2
        go_roundw
        case rel => exact ⟨k + 1, by omega, by go_num, HR2.out, HC2.out⟩
        case measure => simp [intOf]; omega
      · rw [if_neg hyc, List.append_nil] at hst
        have hne : ((y : Int) == c) = false := by simp [hyc]
        have HST := Lib.hid hst; have HROW := Lib.hid hrow; have HC := Lib.hid hc
        clear hst hrow hc
        go_wp2
        go_roundw
        case rel => exact ⟨k + 1, by omega, by go_num, by rw [HST.out]; exact HROW.out, HC.out⟩
        case measure => simp [intOf]; omega
    · obtain rfl : k = xs.length := by omega
      rw [List.take_length] at hrow
      go_wp2
      go_ret
      exact ⟨_, rfl, by have := hrow.own 256 w.heap.size (Nat.le_refl _); rw [cnt_length] at this; exact this, hc⟩

set_option maxHeartbeats 1000000 in
set_option maxRecDepth 100000 in
theorem r6present_own (v : Value) (xs : List Nat) (w : World) (h : RdB w v xs) (hx : ∀ x ∈ xs, x < 256) (hl : xs.length < 10000000000) :
    Calls Tryz.prog 31 #[v] w fun e w' => ∃ v', e = .returned v' ∧ w'.ownsRow w.heap.size 3 1 v' (pres xs).length (iw (pres xs)) ∧ Chg (fun _ => False) w w' := by
  obtain ⟨ao, cap, rfl⟩ := h.form
  have H := Lib.hid h; have HX := Lib.hid hx
  clear h hx
  go_enter Tryz.func31, Tryz.ntmps31
  go_wp2
  go_loopw [3, 4] (fun o3 o4 wr => ∃ (c : Nat) (vo : Value), c ≤ 256 ∧ o4 = .int .i64 (c : Int) ∧ vo = o3 ∧ wr.ownsRow w.heap.size 3 1 vo (presTo xs c).length (iw (presTo xs c)) ∧ Chg (fun _ => False) w wr) (fun _ o4 _ => 256 - (intOf o4).toNat)
  case atStart => exact ⟨0, _, Nat.zero_le _, rfl, rfl, nil_owns w _, Chg.refl _ _⟩
  case round =>
    obtain ⟨c, vo, hcc, rfl, rfl, hown, hc⟩ := hrel
    have hpl := presTo_length xs c
    obtain ⟨wa, hwa⟩ : ∃ wa, wa = wr := ⟨_, rfl⟩
    subst hwa
    by_cases hlt : c < 256
    · have HOWN := Lib.hid hown; have HC := Lib.hid hc
      clear hown hc
      have d8 : decide ((c : Int) < 256) = true := by simp; omega
      go_wp2
      go_loopw [5, 6] (fun o5 o6 wr => ∃ k : Nat, k ≤ xs.length ∧ o6 = .int .i64 (k : Int) ∧ o5 = .int .i64 (((sel (xs.take k) (c : Int)).length : Nat) : Int) ∧ wr.ownsRow w.heap.size 3 1 vo (presTo xs c).length (iw (presTo xs c)) ∧ Chg (fun _ => False) w wr) (fun _ o6 _ => xs.length - (intOf o6).toNat)
      case atStart => exact ⟨0, Nat.zero_le _, rfl, rfl, HOWN.out, HC.out⟩
      case round =>
        obtain ⟨k, hk, rfl, rfl, hown, hc⟩ := hrel
        clear HOWN HC
        have hsl := sel_len (xs.take k) (c : Int)
        rw [List.length_take] at hsl
        have HOWN := Lib.hid hown; have HC := Lib.hid hc
        clear hown hc
        by_cases hkl : k < xs.length
        · have hst := sel_take_succ xs k hkl (c : Int)
          obtain ⟨n, hn⟩ : ∃ n, (sel (xs.take k) (c : Int)).length = n := ⟨_, rfl⟩
          rw [hn] at hsl ⊢
          have HN := Lib.hid hn
          clear hn
          go_wp2_with fail
          refine (r6at_any _ xs (k : Int) wr (H.out.kept HC.out (by simp)) HX.out hl (by omega)).mono ?_
          rintro e w2 ⟨rfl, hc2⟩
          rw [atI_nat xs k hkl]
          have HOWN2 := Lib.hid (hc2.own HOWN.out (by simp))
          have HC2 := Lib.hid (HC.out.trans hc2 (fun _ _ h => h))
          clear HOWN HC hc2
          obtain ⟨y, hye⟩ : ∃ y, (0 :: xs).getD k 0 = y := ⟨_, rfl⟩
          rw [hye] at hst ⊢
          clear hye
          by_cases hyc : (y : Int) = (c : Int)
          · rw [if_pos hyc] at hst
            have hq : ((y : Int) == (c : Int)) = true := by simp [hyc]
            have hst' : (sel (xs.take (k + 1)) (c : Int)).length = n + 1 := by rw [hst, List.length_append, HN.out]; rfl
            have HST := Lib.hid hst'
            clear hst hst'
            go_wp2
            go_roundw
            case rel => exact ⟨k + 1, by omega, by go_num, by rw [HST.out]; go_num, HOWN2.out, HC2.out⟩
            case measure => simp [intOf]; omega
          · rw [if_neg hyc, List.append_nil] at hst
            have hq : ((y : Int) == (c : Int)) = false := by simp; omega
            have hst' : (sel (xs.take (k + 1)) (c : Int)).length = n := by rw [hst, HN.out]
            have HST := Lib.hid hst'
            clear hst hst'
            go_wp2
            go_roundw
            case rel => exact ⟨k + 1, by omega, by go_num, by rw [HST.out], HOWN2.out, HC2.out⟩
            case measure => simp [intOf]; omega
        · obtain rfl : k = xs.length := by omega
          rw [List.take_length] at hsl ⊢
          have hps := presTo_succ xs c
          obtain ⟨n, hn⟩ : ∃ n, (sel xs (c : Int)).length = n := ⟨_, rfl⟩
          rw [hn] at hsl hps ⊢
          clear hn
          by_cases hpos : 0 < n
          · rw [if_pos hpos] at hps
            have hd : decide (0 < (n : Int)) = true := by simp; omega
            have hca := Chg.alloc (fun _ => False) wr (.cells #[.int .i64 (c : Int)] 3)
            have hrd := rdi_new wr [(c : Int)] #[.int .i64 (c : Int)] 1 (0, 0) rfl rfl
            have hoa := hca.own HOWN.out (by simp)
            have hz : w.heap.size ≤ (wr.alloc (.cells #[.int .i64 (c : Int)] 3)).heap.size := Nat.le_trans HC.out.size hca.size
            have hlt3 := HOWN.out.lt
            have HCA := Lib.hid hca; have HRD := Lib.hid hrd; have HOA := Lib.hid hoa; have HZ := Lib.hid hz; have HLT3 := Lib.hid hlt3
            have HPS := Lib.hid hps
            clear hca hrd hoa hz hlt3 hps
            go_wp2_with (at_builtin; refine wpList_append_ints rfl (.tmp 26) (.tmp 28) rfl w.heap.size vo (presTo xs c) rfl HOA.out _ [(c : Int)] rfl HRD.out HZ.out (by simp; omega) ?_)
            intro v4 w4 ho4 hc4
            have ho4 := (show w4.ownsRow w.heap.size 3 1 v4 (presTo xs c ++ [(c : Int)]).length (iw (presTo xs c ++ [(c : Int)])) by simpa using ho4)
            rw [← HPS.out] at ho4
            have hc4' : Chg (fun _ => False) w w4 := (HC.out.trans HCA.out (fun _ _ h => h)).trans hc4 (fun k hk hx => by have := (HLT3.out k hx.symm).1; omega)
            clear hc4 HCA HRD HOA HZ HLT3 HPS
            go_wp2
            go_roundw
            case rel => exact ⟨c + 1, _, by omega, by go_num, rfl, ho4, hc4'⟩
            case measure => simp [intOf]; omega
          · rw [if_neg hpos, List.append_nil] at hps
            have hd : decide (0 < (n : Int)) = false := by simp; omega
            have HPS := Lib.hid hps
            clear hps
            go_wp2
            go_roundw
            case rel => exact ⟨c + 1, _, by omega, by go_num, rfl, by rw [HPS.out]; exact HOWN.out, HC.out⟩
            case measure => simp [intOf]; omega
    · obtain rfl : c = 256 := by omega
      have HOWN := Lib.hid hown
      clear hown
      go_wp2
      go_ret
      exact ⟨_, rfl, HOWN.out, hc⟩
theorem r6present_any (v : Value) (xs : List Nat) (w : World) (h : RdB w v xs) (hx : ∀ x ∈ xs, x < 256) (hl : xs.length < 10000000000) :
    Calls Tryz.prog 31 #[v] w fun e w' => ∃ v', e = .returned v' ∧ RdI w' v' (pres xs) ∧ Chg (fun _ => False) w w' :=
  (r6present_own v xs w h hx hl).mono fun _ _ ⟨v', h1, h2, h3⟩ => ⟨v', h1, RdI.of_own h2, h3⟩

end Go.Proofs.YtokeoebhmjefoaaGreat

/- What the document's own model (puncheonref16) tells: Right, At, Few, Same, Fits. -/
namespace Go.Proofs.YtokeoebhmjefoaaGreat
open Go.RowKit

set_option maxHeartbeats 2000000 in
theorem r16right_t (log : Int) (cs : List (List Int)) (cv : Value) (w : World) (h : RdLL w cv cs) (hf : Md.fit64 ⟨log, true, cs⟩) :
    Calls Tryz.prog 40 #[.agg #[.int .i64 log, .bool true, cv]] w fun e w' => e = .returned (.bool (decide (Md.right ⟨log, true, cs⟩))) ∧ Chg (fun _ => False) w w' := by
  obtain ⟨D, hD⟩ : ∃ D, decide (Md.right ⟨log, true, cs⟩) = D := ⟨_, rfl⟩
  rw [hD]
  have HD := Lib.hid hD
  obtain ⟨ao, cap, rfl⟩ := h.form
  have hca := Chg.alloc (fun _ => False) w (.cells #[.int .i64 log, .bool true, .slice ao cs.length cap] 26)
  have hnew := heap_alloc_new w (.cells #[.int .i64 log, .bool true, .slice ao cs.length cap] 26)
  have HL := Lib.hid (h.kept hca)
  obtain ⟨n, hn⟩ : ∃ n, cs.length = n := ⟨_, rfl⟩
  have HN := Lib.hid hn; have HF := Lib.hid hf
  have hnb : (n : Int) < 100000000000 := by have := hf.2.1; simp only [] at this; omega
  rw [hn] at hca hnew HL ⊢
  obtain ⟨W, hW⟩ : ∃ W, w.alloc (.cells #[.int .i64 log, .bool true, .slice ao n cap] 26) = W := ⟨_, rfl⟩
  rw [hW] at hca hnew HL
  have HCA := Lib.hid hca
  have b0 : W.cell? ⟨w.heap.size, 0, none⟩ = some (.int .i64 log) := by rw [cell_of_row _ _ 0 _ _ _ hnew]; rfl
  have b1 : W.cell? ⟨w.heap.size, 1, none⟩ = some (.bool true) := by rw [cell_of_row _ _ 1 _ _ _ hnew]; rfl
  have b2 : W.cell? ⟨w.heap.size, 2, none⟩ = some (.slice ao n cap) := by rw [cell_of_row _ _ 2 _ _ _ hnew]; rfl
  clear hD h hf hca hnew hn
  by_cases h1 : log < 1
  · have hD1 : D = false := by rw [← HD.out]; exact decide_eq_false fun hh => by have := hh.1.1; simp only [] at this; omega
    subst hD1
    go_enter Tryz.func40, Tryz.ntmps40
    go_wp2
    go_ret
    exact ⟨rfl, HCA.out⟩
  · by_cases h2 : 12 < log
    · have hD1 : D = false := by rw [← HD.out]; exact decide_eq_false fun hh => by have := hh.1.2; simp only [] at this; omega
      subst hD1
      go_enter Tryz.func40, Tryz.ntmps40
      go_wp2
      go_ret
      exact ⟨rfl, HCA.out⟩
    · by_cases h3 : n = 1
      · have hnI : (n : Int) = 1 := by omega
        have h3b : ((n : Int) != 1) = false := by simp [hnI]
        have d1 : decide (log < 1) = false := decide_eq_false h1
        have d2 : decide (12 < log) = false := decide_eq_false h2
        have HNL := Lib.hid h3
        clear h3 hnI
        go_enter Tryz.func40, Tryz.ntmps40
        go_wp2
        go_loopw [3] (fun o3 wr => ∃ k : Nat, k ≤ n ∧ o3 = .int .i64 (k : Int) ∧ (∀ j, j < k → okL log true (cs.getD j [])) ∧ wr.cell? ⟨w.heap.size, 0, none⟩ = some (.int .i64 log) ∧ wr.cell? ⟨w.heap.size, 1, none⟩ = some (.bool true) ∧ wr.cell? ⟨w.heap.size, 2, none⟩ = some (.slice ao n cap) ∧ RdLL wr (.slice ao n cap) cs ∧ Chg (fun _ => False) w wr) (fun o3 _ => n - (intOf o3).toNat)
        case atStart => exact ⟨0, Nat.zero_le _, rfl, fun j hj => by omega, b0, b1, b2, HL.out, HCA.out⟩
        case round =>
          clear b0 b1 b2 HL HCA hW
          obtain ⟨k, hk, rfl, hok, b0, b1, b2, hl, hc⟩ := hrel
          have HOK := Lib.hid hok; have HL := Lib.hid hl; have HCA := Lib.hid hc
          clear hok hl hc
          by_cases hlt : k < n
          · obtain ⟨g, off, u, rfl, hu1, hu2⟩ := HL.out.at k (by rw [HN.out]; exact hlt)
            have hfa := HF.out.at k (by show k < cs.length; rw [HN.out]; exact hlt)
            simp only [] at hfa
            have hlg := fun m' => r8log_all u (cs.getD k []) (wr.drewN m') (hu2.kept ((Chg.refl (fun _ => False) wr).drewN m') (by simp)) hfa.2
            have hlb := logI_le (totalI (cs.getD k []))
            have hokk : okL log true (cs.getD k []) ↔ (cs.getD k [] = [] ∧ true = false) ∨ ((logI (totalI (cs.getD k [])) : Nat) : Int) = log := Iff.rfl
            obtain ⟨au, cu, rfl⟩ := hu2.form
            obtain ⟨q, hq⟩ : ∃ q, cs.getD k [] = q := ⟨_, rfl⟩
            rw [hq] at hlg hlb hu1 hfa hokk
            have HQ := Lib.hid hq
            obtain ⟨nu, hnu⟩ : ∃ nu, q.length = nu := ⟨_, rfl⟩
            rw [hnu] at hlg hu1 hfa
            obtain ⟨L, hL⟩ : ∃ L, logI (totalI q) = L := ⟨_, rfl⟩
            rw [hL] at hlg hlb hokk
            have HLG := Lib.hid hlg; have HOKK := Lib.hid hokk; have HNU := Lib.hid hnu
            have hLb : (L : Int) ≤ 12 := by omega
            have hnub : (nu : Int) < 100000000000 := by have := hfa.1; omega
            have hkn : (k : Int) < (n : Int) := by omega
            clear hlg hlb hokk hfa hu2 hq hnu hL
            by_cases hz : nu = 0
            · subst hz
              by_cases heq : (L : Int) = log
              · subst heq
                have hst : ∀ j, j < k + 1 → okL (L : Int) true (cs.getD j []) := fun j hj => by
                  by_cases hjk : j = k
                  · subst hjk; rw [HQ.out]; exact HOKK.out.2 (.inr rfl)
                  · exact HOK.out j (by omega)
                have HST := Lib.hid hst
                clear hst
                go_wp2
                go_quiet (first | (go_at_call 64; with_reducible exact Calls.quiet_of_same (HLG.out _)))
                go_wp2
                go_roundw
                case rel => exact ⟨k + 1, by omega, by go_num, HST.out, b0, b1, b2, HL.out.kept ((Chg.refl _ _).drewN nq), HCA.out.drewN nq⟩
                case measure => simp [intOf]; omega
              · have hne : ((L : Int) != log) = true := by simp [heq]
                have hD1 : D = false := by
                  rw [← HD.out]
                  refine decide_eq_false fun hh => ?_
                  have hat := hh.at k (by show k < cs.length; rw [HN.out]; exact hlt)
                  simp only [] at hat
                  rw [HQ.out] at hat
                  rcases HOKK.out.1 hat with h9 | h9
                  · exact absurd h9.2 (by simp)
                  · exact heq h9
                subst hD1
                go_wp2
                go_quiet (first | (go_at_call 64; with_reducible exact Calls.quiet_of_same (HLG.out _)))
                go_wp2
                go_ret
                exact ⟨rfl, HCA.out.drewN nq⟩
            · have hzb : ((nu : Int) == 0) = false := by simp; omega
              by_cases heq : (L : Int) = log
              · subst heq
                have hst : ∀ j, j < k + 1 → okL (L : Int) true (cs.getD j []) := fun j hj => by
                  by_cases hjk : j = k
                  · subst hjk; rw [HQ.out]; exact HOKK.out.2 (.inr rfl)
                  · exact HOK.out j (by omega)
                have HST := Lib.hid hst
                clear hst
                go_wp2
                go_quiet (first | (go_at_call 64; with_reducible exact Calls.quiet_of_same (HLG.out _)))
                go_wp2
                go_roundw
                case rel => exact ⟨k + 1, by omega, by go_num, HST.out, b0, b1, b2, HL.out.kept ((Chg.refl _ _).drewN nq), HCA.out.drewN nq⟩
                case measure => simp [intOf]; omega
              · have hne : ((L : Int) != log) = true := by simp [heq]
                have hD1 : D = false := by
                  rw [← HD.out]
                  refine decide_eq_false fun hh => ?_
                  have hat := hh.at k (by show k < cs.length; rw [HN.out]; exact hlt)
                  simp only [] at hat
                  rw [HQ.out] at hat
                  rcases HOKK.out.1 hat with h9 | h9
                  · exact absurd h9.2 (by simp)
                  · exact heq h9
                subst hD1
                go_wp2
                go_quiet (first | (go_at_call 64; with_reducible exact Calls.quiet_of_same (HLG.out _)))
                go_wp2
                go_ret
                exact ⟨rfl, HCA.out.drewN nq⟩
          · obtain rfl : k = n := by omega
            have hD1 : D = true := by
              rw [← HD.out]
              exact decide_eq_true ⟨⟨by show 1 ≤ log; omega, by show log ≤ 12; omega⟩, by show cs.length = 1; rw [HN.out]; exact HNL.out, right_take (m := ⟨log, true, cs⟩) HOK.out (by show k = cs.length; exact HN.out.symm)⟩
            subst hD1
            go_wp2
            go_ret
            exact ⟨rfl, HCA.out⟩
      · have hD1 : D = false := by rw [← HD.out]; exact decide_eq_false fun hh => by have := hh.2.1; simp only [] at this; rw [HN.out] at this; exact h3 (by simpa using this)
        subst hD1
        have h3b : ((n : Int) != 1) = true := by simp; omega
        have d1 : decide (log < 1) = false := decide_eq_false h1
        have d2 : decide (12 < log) = false := decide_eq_false h2
        clear h3
        go_enter Tryz.func40, Tryz.ntmps40
        go_wp2
        go_ret
        exact ⟨rfl, HCA.out⟩

set_option maxHeartbeats 2000000 in
theorem r16right_f (log : Int) (cs : List (List Int)) (cv : Value) (w : World) (h : RdLL w cv cs) (hf : Md.fit64 ⟨log, false, cs⟩) :
    Calls Tryz.prog 40 #[.agg #[.int .i64 log, .bool false, cv]] w fun e w' => e = .returned (.bool (decide (Md.right ⟨log, false, cs⟩))) ∧ Chg (fun _ => False) w w' := by
  obtain ⟨D, hD⟩ : ∃ D, decide (Md.right ⟨log, false, cs⟩) = D := ⟨_, rfl⟩
  rw [hD]
  have HD := Lib.hid hD
  obtain ⟨ao, cap, rfl⟩ := h.form
  have hca := Chg.alloc (fun _ => False) w (.cells #[.int .i64 log, .bool false, .slice ao cs.length cap] 26)
  have hnew := heap_alloc_new w (.cells #[.int .i64 log, .bool false, .slice ao cs.length cap] 26)
  have HL := Lib.hid (h.kept hca)
  obtain ⟨n, hn⟩ : ∃ n, cs.length = n := ⟨_, rfl⟩
  have HN := Lib.hid hn; have HF := Lib.hid hf
  have hnb : (n : Int) < 100000000000 := by have := hf.2.1; simp only [] at this; omega
  rw [hn] at hca hnew HL ⊢
  obtain ⟨W, hW⟩ : ∃ W, w.alloc (.cells #[.int .i64 log, .bool false, .slice ao n cap] 26) = W := ⟨_, rfl⟩
  rw [hW] at hca hnew HL
  have HCA := Lib.hid hca
  have b0 : W.cell? ⟨w.heap.size, 0, none⟩ = some (.int .i64 log) := by rw [cell_of_row _ _ 0 _ _ _ hnew]; rfl
  have b1 : W.cell? ⟨w.heap.size, 1, none⟩ = some (.bool false) := by rw [cell_of_row _ _ 1 _ _ _ hnew]; rfl
  have b2 : W.cell? ⟨w.heap.size, 2, none⟩ = some (.slice ao n cap) := by rw [cell_of_row _ _ 2 _ _ _ hnew]; rfl
  clear hD h hf hca hnew hn
  by_cases h1 : log < 1
  · have hD1 : D = false := by rw [← HD.out]; exact decide_eq_false fun hh => by have := hh.1.1; simp only [] at this; omega
    subst hD1
    go_enter Tryz.func40, Tryz.ntmps40
    go_wp2
    go_ret
    exact ⟨rfl, HCA.out⟩
  · by_cases h2 : 12 < log
    · have hD1 : D = false := by rw [← HD.out]; exact decide_eq_false fun hh => by have := hh.1.2; simp only [] at this; omega
      subst hD1
      go_enter Tryz.func40, Tryz.ntmps40
      go_wp2
      go_ret
      exact ⟨rfl, HCA.out⟩
    · by_cases h3 : n = 256
      · have hnI : (n : Int) = 256 := by omega
        have h3b : ((n : Int) != 256) = false := by simp [hnI]
        have d1 : decide (log < 1) = false := decide_eq_false h1
        have d2 : decide (12 < log) = false := decide_eq_false h2
        have HNL := Lib.hid h3
        clear h3 hnI
        go_enter Tryz.func40, Tryz.ntmps40
        go_wp2
        go_loopw [3] (fun o3 wr => ∃ k : Nat, k ≤ n ∧ o3 = .int .i64 (k : Int) ∧ (∀ j, j < k → okL log false (cs.getD j [])) ∧ wr.cell? ⟨w.heap.size, 0, none⟩ = some (.int .i64 log) ∧ wr.cell? ⟨w.heap.size, 1, none⟩ = some (.bool false) ∧ wr.cell? ⟨w.heap.size, 2, none⟩ = some (.slice ao n cap) ∧ RdLL wr (.slice ao n cap) cs ∧ Chg (fun _ => False) w wr) (fun o3 _ => n - (intOf o3).toNat)
        case atStart => exact ⟨0, Nat.zero_le _, rfl, fun j hj => by omega, b0, b1, b2, HL.out, HCA.out⟩
        case round =>
          clear b0 b1 b2 HL HCA hW
          obtain ⟨k, hk, rfl, hok, b0, b1, b2, hl, hc⟩ := hrel
          have HOK := Lib.hid hok; have HL := Lib.hid hl; have HCA := Lib.hid hc
          clear hok hl hc
          by_cases hlt : k < n
          · obtain ⟨g, off, u, rfl, hu1, hu2⟩ := HL.out.at k (by rw [HN.out]; exact hlt)
            have hfa := HF.out.at k (by show k < cs.length; rw [HN.out]; exact hlt)
            simp only [] at hfa
            have hlg := fun m' => r8log_all u (cs.getD k []) (wr.drewN m') (hu2.kept ((Chg.refl (fun _ => False) wr).drewN m') (by simp)) hfa.2
            have hlb := logI_le (totalI (cs.getD k []))
            have hokk : okL log false (cs.getD k []) ↔ (cs.getD k [] = [] ∧ false = false) ∨ ((logI (totalI (cs.getD k [])) : Nat) : Int) = log := Iff.rfl
            obtain ⟨au, cu, rfl⟩ := hu2.form
            obtain ⟨q, hq⟩ : ∃ q, cs.getD k [] = q := ⟨_, rfl⟩
            rw [hq] at hlg hlb hu1 hfa hokk
            have HQ := Lib.hid hq
            obtain ⟨nu, hnu⟩ : ∃ nu, q.length = nu := ⟨_, rfl⟩
            rw [hnu] at hlg hu1 hfa
            obtain ⟨L, hL⟩ : ∃ L, logI (totalI q) = L := ⟨_, rfl⟩
            rw [hL] at hlg hlb hokk
            have HLG := Lib.hid hlg; have HOKK := Lib.hid hokk; have HNU := Lib.hid hnu
            have hLb : (L : Int) ≤ 12 := by omega
            have hnub : (nu : Int) < 100000000000 := by have := hfa.1; omega
            have hkn : (k : Int) < (n : Int) := by omega
            clear hlg hlb hokk hfa hu2 hq hnu hL
            by_cases hz : nu = 0
            · subst hz
              have hst : ∀ j, j < k + 1 → okL log false (cs.getD j []) := fun j hj => by
                by_cases hjk : j = k
                · subst hjk; rw [HQ.out]; exact .inl ⟨List.eq_nil_of_length_eq_zero HNU.out, rfl⟩
                · exact HOK.out j (by omega)
              have HST := Lib.hid hst
              clear hst
              go_wp2
              go_roundw
              case rel => exact ⟨k + 1, by omega, by go_num, HST.out, b0, b1, b2, HL.out, HCA.out⟩
              case measure => simp [intOf]; omega
            · have hzb : ((nu : Int) == 0) = false := by simp; omega
              by_cases heq : (L : Int) = log
              · subst heq
                have hst : ∀ j, j < k + 1 → okL (L : Int) false (cs.getD j []) := fun j hj => by
                  by_cases hjk : j = k
                  · subst hjk; rw [HQ.out]; exact HOKK.out.2 (.inr rfl)
                  · exact HOK.out j (by omega)
                have HST := Lib.hid hst
                clear hst
                go_wp2
                go_quiet (first | (go_at_call 64; with_reducible exact Calls.quiet_of_same (HLG.out _)))
                go_wp2
                go_roundw
                case rel => exact ⟨k + 1, by omega, by go_num, HST.out, b0, b1, b2, HL.out.kept ((Chg.refl _ _).drewN nq), HCA.out.drewN nq⟩
                case measure => simp [intOf]; omega
              · have hne : ((L : Int) != log) = true := by simp [heq]
                have hD1 : D = false := by
                  rw [← HD.out]
                  refine decide_eq_false fun hh => ?_
                  have hat := hh.at k (by show k < cs.length; rw [HN.out]; exact hlt)
                  simp only [] at hat
                  rw [HQ.out] at hat
                  rcases HOKK.out.1 hat with h9 | h9
                  · exact hz (by rw [← HNU.out, h9.1]; rfl)
                  · exact heq h9
                subst hD1
                go_wp2
                go_quiet (first | (go_at_call 64; with_reducible exact Calls.quiet_of_same (HLG.out _)))
                go_wp2
                go_ret
                exact ⟨rfl, HCA.out.drewN nq⟩
          · obtain rfl : k = n := by omega
            have hD1 : D = true := by
              rw [← HD.out]
              exact decide_eq_true ⟨⟨by show 1 ≤ log; omega, by show log ≤ 12; omega⟩, by show cs.length = 256; rw [HN.out]; exact HNL.out, right_take (m := ⟨log, false, cs⟩) HOK.out (by show k = cs.length; exact HN.out.symm)⟩
            subst hD1
            go_wp2
            go_ret
            exact ⟨rfl, HCA.out⟩
      · have hD1 : D = false := by rw [← HD.out]; exact decide_eq_false fun hh => by have := hh.2.1; simp only [] at this; rw [HN.out] at this; exact h3 (by simpa using this)
        subst hD1
        have h3b : ((n : Int) != 256) = true := by simp; omega
        have d1 : decide (log < 1) = false := decide_eq_false h1
        have d2 : decide (12 < log) = false := decide_eq_false h2
        clear h3
        go_enter Tryz.func40, Tryz.ntmps40
        go_wp2
        go_ret
        exact ⟨rfl, HCA.out⟩

theorem r16right_any (v : Value) (m : Md) (w : World) (h : RdM w v m) (hf : m.fit64) : Calls Tryz.prog 40 #[v] w fun e w' => e = .returned (.bool (decide m.right)) ∧ Chg (fun _ => False) w w' := by
  obtain ⟨cv, rfl, h1⟩ := h
  obtain ⟨log, one, cs⟩ := m
  cases one with
  | true => exact r16right_t log cs cv w h1 hf
  | false => exact r16right_f log cs cv w h1 hf

end Go.Proofs.YtokeoebhmjefoaaGreat

/- What the document's own model (puncheonref16) tells: At, Few, Same, Fits. -/
namespace Go.Proofs.YtokeoebhmjefoaaGreat
open Go.RowKit

/-- a block that holds a model -/
def Mb (w : World) (g : Nat) (log : Int) (one : Bool) (cv : Value) : Prop := w.heap[g]? = some (.cells #[.int .i64 log, .bool one, cv] 26 (0, 0))
theorem Mb.kept {S : Nat → Prop} {w w' : World} {g : Nat} {log : Int} {one : Bool} {cv : Value} (h : Mb w g log one cv) (hc : Chg S w w') (hS : ¬ S g) : Mb w' g log one cv := (hc.block g (lt_of_block h) hS).trans h
theorem Mb.cells {w : World} {g : Nat} {log : Int} {one : Bool} {cv : Value} (h : Mb w g log one cv) : w.cell? ⟨g, 0, none⟩ = some (.int .i64 log) ∧ w.cell? ⟨g, 1, none⟩ = some (.bool one) ∧ w.cell? ⟨g, 2, none⟩ = some cv :=
  ⟨by rw [cell_of_row w g 0 _ _ _ h]; rfl, by rw [cell_of_row w g 1 _ _ _ h]; rfl, by rw [cell_of_row w g 2 _ _ _ h]; rfl⟩
theorem Mb.lt {w : World} {g : Nat} {log : Int} {one : Bool} {cv : Value} (h : Mb w g log one cv) : g < w.heap.size := lt_of_block h

theorem atL_not {m : Md} {c : Int} (h : ¬ (m.right ∧ 0 ≤ c ∧ c ≤ 255)) : m.atL c = [] := by unfold Md.atL; rw [if_neg h]
theorem atL_one {log : Int} {cs : List (List Int)} {c : Int} (h : Md.right ⟨log, true, cs⟩ ∧ 0 ≤ c ∧ c ≤ 255) : Md.atL ⟨log, true, cs⟩ c = cs.getD 0 [] := by unfold Md.atL; rw [if_pos h]; simp
theorem atL_ctx {log : Int} {cs : List (List Int)} {c : Int} (h : Md.right ⟨log, false, cs⟩ ∧ 0 ≤ c ∧ c ≤ 255) : Md.atL ⟨log, false, cs⟩ c = cs.getD c.toNat [] := by unfold Md.atL; rw [if_pos h]; simp

theorem atL_len (m : Md) (c : Int) (h : m.atL c ≠ []) : (m.atL c).length = 256 := by
  by_cases hr : m.right ∧ 0 ≤ c ∧ c ≤ 255
  · have hl : ∀ j, j < m.cs.length → m.cs.getD j [] ≠ [] → (m.cs.getD j []).length = 256 := fun j hj hne => by
      rcases hr.1.at j hj with ⟨h1, _⟩ | h1
      · exact absurd h1 hne
      · exact (log_right (by have := hr.1.1; omega)).2
    unfold Md.atL at h ⊢
    rw [if_pos hr] at h ⊢
    have hlen := hr.1.2.1
    by_cases ho : m.one = true
    · rw [if_pos ho] at h hlen ⊢
      exact hl 0 (by omega) h
    · rw [if_neg ho] at h hlen ⊢
      exact hl _ (by omega) h
  · exact absurd (atL_not hr) h

set_option maxHeartbeats 2000000 in
theorem r16at_any (v : Value) (m : Md) (c : Int) (w : World) (h : RdM w v m) (hf : m.fit64) : Calls Tryz.prog 16 #[v, .int .i64 c] w fun e w' => ∃ u, e = .returned u ∧ RdI w' u (m.atL c) ∧ Chg (fun _ => False) w w' := by
  obtain ⟨cv, rfl, h1⟩ := h
  obtain ⟨log, one, cs⟩ := m
  simp only [] at h1
  obtain ⟨ao, cap, rfl⟩ := h1.form
  have hca := Chg.alloc (fun _ => False) w (.cells #[.int .i64 log, .bool one, .slice ao cs.length cap] 26)
  have hnew : Mb _ _ log one (.slice ao cs.length cap) := heap_alloc_new w (.cells #[.int .i64 log, .bool one, .slice ao cs.length cap] 26)
  have hl := h1.kept hca
  obtain ⟨n, hn⟩ : ∃ n, cs.length = n := ⟨_, rfl⟩
  unfold mdv
  simp only []
  rw [hn] at hca hnew hl ⊢
  obtain ⟨W, hW⟩ : ∃ W, w.alloc (.cells #[.int .i64 log, .bool one, .slice ao n cap] 26) = W := ⟨_, rfl⟩
  rw [hW] at hca hnew hl
  have hrt := r16right_any (.agg #[.int .i64 log, .bool one, .slice ao n cap]) ⟨log, one, cs⟩ W ⟨_, rfl, hl⟩ hf
  obtain ⟨b0, b1, b2⟩ := hnew.cells
  have HRT := Lib.hid hrt; have HCA := Lib.hid hca; have HNEW := Lib.hid hnew; have HL := Lib.hid hl; have HN := Lib.hid hn
  clear h1 hf hca hnew hl hn hrt
  go_enter Tryz.func16, Tryz.ntmps16
  go_wp2_with fail
  refine HRT.out.mono ?_
  rintro e w2 ⟨rfl, hc2⟩
  have HC2 := Lib.hid (HCA.out.trans hc2 fun _ _ h => h); have HL2 := Lib.hid (HL.out.kept hc2)
  obtain ⟨e0, e1, e2⟩ := (HNEW.out.kept hc2 (by simp)).cells
  clear hc2 b0 b1 b2 hW HRT HNEW HCA HL
  by_cases hr : Md.right ⟨log, one, cs⟩
  · rw [decide_eq_true hr]
    by_cases hc0 : c < 0
    · have hat := atL_not (m := ⟨log, one, cs⟩) (c := c) (by omega)
      have HAT := Lib.hid hat
      clear hat hr
      go_wp2
      go_ret
      exact ⟨_, rfl, by rw [HAT.out]; exact .inl ⟨rfl, _, _, rfl⟩, HC2.out⟩
    · by_cases hc1 : 255 < c
      · have hat := atL_not (m := ⟨log, one, cs⟩) (c := c) (by omega)
        have HAT := Lib.hid hat
        clear hat hr
        go_wp2
        go_ret
        exact ⟨_, rfl, by rw [HAT.out]; exact .inl ⟨rfl, _, _, rfl⟩, HC2.out⟩
      · have d0 : decide (c < 0) = false := decide_eq_false hc0
        have d1 : decide (255 < c) = false := decide_eq_false hc1
        have hlen := hr.2.1
        simp only [] at hlen
        rw [HN.out] at hlen
        cases one with
        | true =>
          have hn1 : n = 1 := by simpa using hlen
          have hat := atL_one (c := c) ⟨hr, by omega, by omega⟩
          obtain ⟨g, off, u, rfl, hu1, hu2⟩ := HL2.out.at 0 (by rw [HN.out]; omega)
          rw [← hat] at hu2
          rw [Nat.add_zero] at hu1
          have HU2 := Lib.hid hu2
          have hnI : (0 : Int) < (n : Int) := by omega
          clear hat hr hu2 hlen hn1
          go_wp2
          go_ret
          exact ⟨_, rfl, HU2.out, HC2.out⟩
        | false =>
          have hn1 : n = 256 := by simpa using hlen
          have hat := atL_ctx (c := c) ⟨hr, by omega, by omega⟩
          obtain ⟨i, rfl⟩ : ∃ i : Nat, c = (i : Int) := ⟨c.toNat, by omega⟩
          rw [Int.toNat_natCast] at hat
          obtain ⟨g, off, u, rfl, hu1, hu2⟩ := HL2.out.at i (by rw [HN.out]; omega)
          rw [← hat] at hu2
          have HU2 := Lib.hid hu2
          have hnI : (i : Int) < (n : Int) := by omega
          have hnN : i < n := by omega
          clear hat hr hu2 hlen hn1
          go_wp2
          go_ret
          exact ⟨_, rfl, HU2.out, HC2.out⟩
  · rw [decide_eq_false hr]
    have hat := atL_not (m := ⟨log, one, cs⟩) (c := c) (fun hh => hr hh.1)
    have HAT := Lib.hid hat
    clear hat hr
    go_wp2
    go_ret
    exact ⟨_, rfl, by rw [HAT.out]; exact .inl ⟨rfl, _, _, rfl⟩, HC2.out⟩

/-- how many lists aren't empty -/
def nzL (cs : List (List Int)) : Nat := (cs.filter fun l => decide (0 < l.length)).length
theorem nzL_take (cs : List (List Int)) (k : Nat) (hk : k < cs.length) : nzL (cs.take (k + 1)) = nzL (cs.take k) + if 0 < (cs.getD k []).length then 1 else 0 := by
  unfold nzL
  rw [List.take_succ_eq_append_getElem hk, List.filter_append, List.length_append, List.getD_eq_getElem?_getD, List.getElem?_eq_getElem hk]
  simp only [Option.getD_some]
  split
  · next h => simp [h]
  · next h => simp [h]
theorem nzL_le (cs : List (List Int)) : nzL cs ≤ cs.length := List.length_filter_le ..
/-- lists of a number, and a length, that is looked at -/
def fewL (cs : List (List Int)) : Prop := (∀ j, j < cs.length → (cs.getD j []).length ≤ 300) ∧ cs.length ≤ 300 ∧ nzL cs ≤ 40
instance fewL_dec (cs : List (List Int)) : Decidable (fewL cs) := by unfold fewL; infer_instance

theorem lists_eq {a b : List (List Int)} (hl : a.length = b.length) (h : ∀ j, j < a.length → a.getD j [] = b.getD j []) : a = b := by
  apply List.ext_getElem hl
  intro i h1 h2
  have := h i h1
  rwa [List.getD_eq_getElem?_getD, List.getD_eq_getElem?_getD, List.getElem?_eq_getElem h1, List.getElem?_eq_getElem h2] at this
theorem md_eq_iff (a b : Md) : a = b ↔ a.log = b.log ∧ a.one = b.one ∧ a.cs = b.cs := by
  obtain ⟨a1, a2, a3⟩ := a
  obtain ⟨b1, b2, b3⟩ := b
  simp
instance md_dec (a b : Md) : Decidable (a = b) := decidable_of_iff _ (md_eq_iff a b).symm

end Go.Proofs.YtokeoebhmjefoaaGreat

/- What the document's own model (puncheonref16) tells: Fits. -/
namespace Go.Proofs.YtokeoebhmjefoaaGreat
open Go.RowKit

theorem r6at_nat (v : Value) (xs : List Nat) (k : Nat) (w : World) (h : RdB w v xs) (hx : ∀ x ∈ xs, x < 256) (hl : xs.length < 10000000000) (hk : k < xs.length) :
    Calls Tryz.prog 17 #[v, .int .i64 (k : Int)] w fun e w' => e = .returned (.int .i64 (((0 :: xs).getD k 0 : Nat) : Int)) ∧ Chg (fun _ => False) w w' := by
  have := r6at_any v xs (k : Int) w h hx hl (by omega)
  rw [atI_nat xs k hk] at this
  exact this

end Go.Proofs.YtokeoebhmjefoaaGreat

/- What the document's own steps (puncheonref12) tell: Step, Many. -/
namespace Go.Proofs.YtokeoebhmjefoaaGreat
open Go.RowKit

/-- may the symbol s be encoded from the state x? -/
def eCan (q : List Int) (k : Nat) (x : Int) (s : Nat) : Prop := 0 ≤ x ∧ x < ((2 ^ k : Nat) : Int) ∧ 0 < fq q s
/-- what Step tells -/
def EncSays (q : List Int) (k : Nat) (x : Int) (s : Nat) (e : Ending) : Prop :=
  (¬ eCan q k x s → e = .returned (.tuple #[.int .i64 0, .int .i64 0, .int .u32 0, .bool false])) ∧
  (eCan q k x s → ∃ n, lefts (fq q s) (2 ^ k + x.toNat) n ∧ e = .returned (.tuple #[.int .i64 ((placeF (fq q) 256 s ((2 ^ k + x.toNat) / 2 ^ n) : Nat) : Int), .int .i64 (n : Int), .int .u32 (((2 ^ k + x.toNat) % 2 ^ n : Nat) : Int), .bool true]))
theorem EncSays.one {q : List Int} {k : Nat} {x : Int} {s : Nat} {e f : Ending} (h : EncSays q k x s e) (g : EncSays q k x s f) : e = f := by
  by_cases hc : eCan q k x s
  · obtain ⟨n, h1, h2⟩ := h.2 hc
    obtain ⟨m, g1, g2⟩ := g.2 hc
    rw [h2, g2, lefts_one h1 g1]
  · rw [h.1 hc, g.1 hc]

theorem low_step (y n : Nat) : y % 2 ^ (n + 1) = y % 2 ^ n + y / 2 ^ n % 2 * 2 ^ n := by
  rw [Nat.mod_pow_succ, Nat.mul_comm]
theorem div_step (y n : Nat) : y / 2 ^ (n + 1) = y / 2 ^ n / 2 := by rw [Nat.pow_succ, Nat.div_div_eq_div_mul]

set_option maxHeartbeats 1000000 in
theorem r12many_any (v : Value) (q : List Int) (k : Nat) (w : World) (h : RdI w v q) (hq : NormQ q k) :
    Calls Tryz.prog 18 #[v] w fun e w' => e = .returned (.int .i64 ((countTo (fun t => decide (0 < fq q t)) 256 : Nat) : Int)) ∧ w' = w := by
  obtain ⟨ao, cap, rfl⟩ := h.form
  obtain ⟨g, off, rfl, -⟩ := h.at 0 (by rw [hq.1]; omega)
  have HQ := Lib.hid hq; have H := Lib.hid h
  obtain ⟨n, hn⟩ : ∃ n, q.length = n := ⟨_, rfl⟩
  have hn6 := hq.1
  rw [hn] at hn6 H ⊢
  have HN := Lib.hid hn6
  obtain ⟨p, hp⟩ : ∃ p : Nat → Bool, p = fun t => decide (0 < fq q t) := ⟨_, rfl⟩
  have hpa : ∀ t, p t = decide (0 < fq q t) := fun t => by rw [hp]
  rw [← hp]
  have HPA := Lib.hid hpa
  clear hq h hn hn6 hp hpa
  go_enter Tryz.func18, Tryz.ntmps18
  go_wp2
  go_loopw [3, 4] (fun o3 o4 wr => ∃ t : Nat, t ≤ 256 ∧ o4 = .int .i64 (t : Int) ∧ o3 = .int .i64 ((countTo p t : Nat) : Int) ∧ wr = w) (fun _ o4 _ => 256 - (intOf o4).toNat)
  case atStart => exact ⟨0, Nat.zero_le _, rfl, rfl, rfl⟩
  case round =>
    obtain ⟨t, ht, rfl, rfl, rfl⟩ := hrel
    have hcl := countTo_le p t
    have hcs : countTo p (t + 1) = countTo p t + if p t then 1 else 0 := rfl
    rw [HPA.out t] at hcs
    obtain ⟨c, hc⟩ : ∃ c, countTo p t = c := ⟨_, rfl⟩
    rw [hc] at hcl hcs ⊢
    have HCC := Lib.hid hc
    clear hc
    by_cases hlt : t < 256
    · have hcell := HQ.out.cell H.out t hlt
      have htn : t < n := by have := HN.out; omega
      obtain ⟨F, hF⟩ : ∃ F, fq q t = F := ⟨_, rfl⟩
      rw [hF] at hcell hcs
      clear hF
      by_cases h0 : 0 < F
      · rw [decide_eq_true h0] at hcs
        have HCS := Lib.hid hcs
        clear hcs
        go_wp2
        go_roundw
        case rel => exact ⟨t + 1, by omega, by go_num, by rw [HCS.out]; go_num, trivial⟩
        case measure => simp [intOf]; omega
      · rw [decide_eq_false h0] at hcs
        have HCS := Lib.hid hcs
        have d0 : F = 0 := by omega
        clear hcs
        subst d0
        go_wp2
        go_roundw
        case rel => exact ⟨t + 1, by omega, by go_num, by rw [HCS.out]; go_num, trivial⟩
        case measure => simp [intOf]; omega
    · have ht6 : t = 256 := by omega
      have htn : ¬ t < n := by have := HN.out; omega
      have hM : countTo p 256 = c := by rw [← ht6]; exact HCC.out
      have HM := Lib.hid hM
      clear hM hcs ht6
      go_wp2
      go_ret
      rw [HM.out]
      exact ⟨rfl, rfl⟩

end Go.Proofs.YtokeoebhmjefoaaGreat

/- What puncheonlaw01.put does: a Writer with all parts. -/
namespace Go.Proofs.YtokeoebhmjefoaaGreat
open Go.RowKit

end Go.Proofs.YtokeoebhmjefoaaGreat

/- What bitw's Bytes tells: memory of its own. -/
namespace Go.Proofs.YtokeoebhmjefoaaGreat
open Go.RowKit

end Go.Proofs.YtokeoebhmjefoaaGreat

/- What puncheonlaw01.awake tells: the chapter's example holds. -/
namespace Go.Proofs.YtokeoebhmjefoaaGreat
open Go.RowKit

theorem ex_bits : putB (putB [] 5 3) 1 2 = [true, false, true, true, false] := by decide
theorem ex_pack : pack [true, false, true, true, false] = [13] := by decide
theorem ex_close : pack ([true, false, true, true, false] ++ [true]) = [45] := by decide
theorem str13 : ((strB [13]).toList == [13]) = true := by decide +kernel
theorem str45 : ((strB [45]).toList == [45]) = true := by decide +kernel

end Go.Proofs.YtokeoebhmjefoaaGreat

/- puncheonlaw01.put's end, with the footprint named. -/
namespace Go.Proofs.YtokeoebhmjefoaaGreat
open Go.RowKit

end Go.Proofs.YtokeoebhmjefoaaGreat

/- The walk of BitwMark: it answers true, and nothing that was there has turned. -/
namespace Go.Proofs.YtokeoebhmjefoaaGreat
open Go.RowKit

end Go.Proofs.YtokeoebhmjefoaaGreat

/- What the document's own Put, Bytes and Close (puncheonref01) tell. -/
namespace Go.Proofs.YtokeoebhmjefoaaGreat
open Go.RowKit


/-- The value is a slice of the bits bs, in a row of the call's own (or nil). -/
def Bools (w : World) (v : Value) (bs : List Bool) : Prop := ∃ base, w.ownsRow base 4 1 v bs.length (bl bs)


/-- bytes of the first i bits, in as many bytes as all bits need -/
def packTo (bs : List Bool) (i : Nat) : List Nat := (List.range ((bs.length + 7) / 8)).map (byteAt (bs.take i))
theorem packTo_length (bs : List Bool) (i : Nat) : (packTo bs i).length = (bs.length + 7) / 8 := by simp [packTo]
theorem packTo_all (bs : List Bool) : packTo bs bs.length = pack bs := by simp [packTo, pack]
theorem packTo_zero (bs : List Bool) : packTo bs 0 = List.replicate ((bs.length + 7) / 8) 0 := by
  apply List.ext_getElem (by simp [packTo])
  intro j h1 h2
  simp [packTo, byteAt, val]
theorem packTo_get (bs : List Bool) (i j : Nat) (h : j < (bs.length + 7) / 8) : (packTo bs i).getD j 0 = byteAt (bs.take i) j := by
  simp [packTo, h]
theorem take_len_le (bs : List Bool) (i : Nat) (h : i ≤ bs.length) : (bs.take i).length = i := by simp; omega
theorem packTo_lt (bs : List Bool) (i : Nat) (h : i < bs.length) : (packTo bs i).getD (i / 8) 0 < 2 ^ (i % 8) := by
  rw [packTo_get _ _ _ (by omega)]
  have := byteAt_last_lt (bs.take i)
  rwa [take_len_le bs i (by omega)] at this
theorem packTo_succ (bs : List Bool) (i : Nat) (h : i < bs.length) : packTo bs (i + 1) = (packTo bs i).set (i / 8) ((packTo bs i).getD (i / 8) 0 + (bs[i]).toNat * 2 ^ (i % 8)) := by
  have ht := take_len_le bs i (by omega)
  have hsn := byteAt_snoc (bs.take i) bs[i]
  rw [ht] at hsn
  have e : bs.take (i + 1) = bs.take i ++ [bs[i]] := List.take_succ_eq_append_getElem h
  apply List.ext_getElem (by simp [packTo])
  intro j h1 h2
  have hj : j < (bs.length + 7) / 8 := by rw [packTo_length] at h1; exact h1
  by_cases hji : j = i / 8
  · subst hji
    rw [List.getElem_set_self, packTo_get _ _ _ hj]
    simp only [packTo, List.getElem_map, List.getElem_range]
    rw [e, hsn]
  · rw [List.getElem_set_ne (by omega)]
    simp only [packTo, List.getElem_map, List.getElem_range]
    rw [e]
    by_cases hlt : j < i / 8
    · rw [byteAt_append_left _ _ _ (by rw [ht]; omega)]
    · unfold byteAt
      rw [List.drop_eq_nil_of_le (by rw [List.length_append, ht]; simp; omega), List.drop_eq_nil_of_le (by rw [ht]; omega)]

theorem add_u8 (x k : Nat) (hk : k < 8) (hx : x < 2 ^ k) : ((x : Int) + 2 ^ k) % 256 = ((x + 2 ^ k : Nat) : Int) := by
  have h2 : 2 ^ k ≤ 2 ^ 7 := Nat.pow_le_pow_right (by omega) (by omega)
  have e : ((2 : Int) ^ k) = ((2 ^ k : Nat) : Int) := by simp
  rw [e]
  generalize 2 ^ k = y at *
  omega


end Go.Proofs.YtokeoebhmjefoaaGreat

/- What the document's own lanes (puncheonref17) tell: Bits. -/
namespace Go.Proofs.YtokeoebhmjefoaaGreat
open Go.RowKit

theorem enc_next {m : Md} {xs : List Nat} {j n : Nat} {bs : List Bool} {st : Nat × Nat} (hj : j < xs.length) (h : Enc (RM m) (fM m) (j + 1) ((prs 0 xs).drop (j + 1)) bs st)
    (hn : lefts (fM m ((0 :: xs).getD j 0) (xs.getD j 0)) (2 ^ RM m + lane j st) n) :
    Enc (RM m) (fM m) j ((prs 0 xs).drop j) (bs ++ bitsOf ((2 ^ RM m + lane j st) % 2 ^ n) n) (setLane j st (placeF (fM m ((0 :: xs).getD j 0)) 256 (xs.getD j 0) ((2 ^ RM m + lane j st) / 2 ^ n))) := by
  rw [prs_drop 0 xs j hj]
  exact .cons h hn
theorem fam_drop {R : Nat} {F : Nat → Nat → Nat} {P : List (Nat × Nat)} (h : FamOk R F P) (k : Nat) : FamOk R F (P.drop k) := fun p hp => h p (List.mem_of_mem_drop hp)
/-- what is encoded so far -/
def EncS (m : Md) (xs : List Nat) (N R k : Nat) (bs : List Bool) (a b : Nat) : Prop := Enc R (fM m) k ((prs 0 xs).drop k) bs (a, b) ∧ bs.length ≤ N * R ∧ a < 2 ^ R ∧ b < 2 ^ R
theorem encS_zero (m : Md) (xs : List Nat) (N R : Nat) (h : N = xs.length) : EncS m xs N R N [] 0 0 := by
  refine ⟨?_, by simp, Nat.two_pow_pos R, Nat.two_pow_pos R⟩
  rw [List.drop_of_length_le (by rw [prs_length, h]; omega)]
  exact .nil N

theorem own_formL {w : World} {base : Nat} {e : TypeId} {v : Value} {n : Nat} {xs : List Value} (h : w.ownsRow base e 1 v n xs) : ∃ a c, v = .slice a n c := by
  rcases h.2 with ⟨rfl, rfl⟩ | ⟨g, cap, _, rfl, _⟩
  · exact ⟨_, _, rfl⟩
  · exact ⟨_, _, rfl⟩

end Go.Proofs.YtokeoebhmjefoaaGreat

/- The memory of back's loop: boxes, the states, the Writer, what is built. THIS SPEAKS OF THE PROGRAM'S OWN TEXT. -/
namespace Go.Proofs.YtokeoebhmjefoaaGreat
open Go.RowKit

/-- two numbers in a block -/
def Stt (w : World) (g : Nat) (a b : Nat) : Prop := w.heap[g]? = some (.cells #[.int .i64 (a : Int), .int .i64 (b : Int)] 51 (0, 0))
theorem Stt.cells {w : World} {g a b : Nat} (h : Stt w g a b) : w.cell? ⟨g, 0, none⟩ = some (.int .i64 (a : Int)) ∧ w.cell? ⟨g, 1, none⟩ = some (.int .i64 (b : Int)) :=
  ⟨by rw [cell_of_row w g 0 _ _ _ h]; rfl, by rw [cell_of_row w g 1 _ _ _ h]; rfl⟩
theorem Stt.free {w : World} {g a b : Nat} (h : Stt w g a b) (k : Nat) : w.frozen? ⟨g, k, none⟩ = false := frozen_of_row w g k _ _ h
theorem Stt.kept {S : Nat → Prop} {w w' : World} {g a b : Nat} (h : Stt w g a b) (hc : Chg S w w') (hS : ¬ S g) : Stt w' g a b := (hc.block g (lt_of_block h) hS).trans h
theorem Stt.set {w : World} {g a b : Nat} (h : Stt w g a b) (k y : Nat) : Stt (w.setCell ⟨g, k % 2, none⟩ (.int .i64 (y : Int))) g (setLane k (a, b) y).1 (setLane k (a, b) y).2 := by
  unfold Stt setLane
  rcases (show k % 2 = 1 ∨ k % 2 = 0 by omega) with hp | hp
  · rw [if_pos hp, hp, heap_setCell_same w g 1 _ _ _ h]; rfl
  · rw [if_neg (by omega), hp, heap_setCell_same w g 0 _ _ _ h]; rfl
theorem Stt.lane {w : World} {g a b : Nat} (h : Stt w g a b) (k : Nat) : w.cell? ⟨g, k % 2, none⟩ = some (.int .i64 ((lane k (a, b) : Nat) : Int)) := by
  obtain ⟨h0, h1⟩ := h.cells
  unfold Go.Proofs.YtokeoebhmjefoaaGreat.lane
  rcases (show k % 2 = 1 ∨ k % 2 = 0 by omega) with hp | hp
  · rw [if_pos hp, hp]; exact h1
  · rw [if_neg (by omega), hp]; exact h0

theorem alloc_at (w : World) (o : Obj) (k : Nat) : (w.alloc o).heap[k]? = if k = w.heap.size then some o else w.heap[k]? := by
  show (w.heap.push o)[k]? = _
  rw [Array.getElem?_push]
theorem six_new (W : World) (o0 o1 o2 o3 o4 o5 : Obj) : ∃ V, (((((W.alloc o0).alloc o1).alloc o2).alloc o3).alloc o4).alloc o5 = V ∧ V.heap.size = W.heap.size + 6 ∧ Chg (fun _ => False) W V ∧
    V.heap[W.heap.size]? = some o0 ∧ V.heap[W.heap.size + 1]? = some o1 ∧ V.heap[W.heap.size + 2]? = some o2 ∧ V.heap[W.heap.size + 3]? = some o3 ∧ V.heap[W.heap.size + 4]? = some o4 ∧ V.heap[W.heap.size + 5]? = some o5 := by
  refine ⟨_, rfl, by simp, (((((Chg.alloc _ W o0).trans (Chg.alloc _ _ o1) fun _ _ h => h).trans (Chg.alloc _ _ o2) fun _ _ h => h).trans (Chg.alloc _ _ o3) fun _ _ h => h).trans (Chg.alloc _ _ o4) fun _ _ h => h).trans (Chg.alloc _ _ o5) fun _ _ h => h, ?_, ?_, ?_, ?_, ?_, ?_⟩ <;> (simp only [alloc_at, World.size_alloc]; repeat' (first | rfl | (exfalso; omega) | split))

/-- which blocks turn in the loop: the Writer's, and the loop's own -/
def BkX (A b : Nat) (o : Option Nat) (q : Nat) : Prop := q = b ∨ some q = o ∨ (A ≤ q ∧ q < A + 8)
structure BkS (w : World) (G A b : Nat) (m : Md) (cv u : Value) (xs : List Nat) (V : World) (k x0 x1 : Nat) (o : Option Nat) (bs : List Bool) : Prop where
  b0 : V.heap[A]? = some (.cells #[.pointer (some ⟨b, 0, none⟩)] 37 (0, 0))
  b1 : V.heap[A + 1]? = some (.cells #[u] 22 (0, 0))
  b2 : V.heap[A + 2]? = some (.cells #[.func (.func 38) #[.pointer (some ⟨G, 0, none⟩)] #[]] 77 (0, 0))
  b3 : V.heap[A + 3]? = some (.cells #[.int .i64 0, .int .i64 0] 51 (0, 0))
  st : Stt V (A + 4) x0 x1
  b5 : V.heap[A + 5]? = some (.cells #[u] 22 (0, 0))
  wr : Wr V b o bs
  enc : EncS m xs xs.length (RM m) k bs x0 x1
  ls : LsT w G m cv V (BkX A b o)
  sz : A + 8 ≤ V.heap.size
  gA : G < A
  bA : b < A
  oA : ∀ q, o = some q → A + 8 ≤ q
theorem BkS.still {w : World} {G A b : Nat} {m : Md} {cv u : Value} {xs : List Nat} {V V' : World} {k x0 x1 : Nat} {o : Option Nat} {bs : List Bool} {T : Nat → Prop} (h : BkS w G A b m cv u xs V k x0 x1 o bs) (hc : Chg T V V') (hT : ∀ q, T q → q = A + 6 ∨ q = A + 7) : BkS w G A b m cv u xs V' k x0 x1 o bs := by
  have hno : ∀ q, q < A + 6 → ¬ T q := fun q hq ht => by have := hT q ht; omega
  have hsz := h.sz
  refine ⟨(hc.block _ (by omega) (hno _ (by omega))).trans h.b0, (hc.block _ (by omega) (hno _ (by omega))).trans h.b1, (hc.block _ (by omega) (hno _ (by omega))).trans h.b2, (hc.block _ (by omega) (hno _ (by omega))).trans h.b3, h.st.kept hc (hno _ (by omega)), (hc.block _ (by omega) (hno _ (by omega))).trans h.b5,
    h.wr.kept hc (hno _ (by have := h.bA; omega)) (fun q hq ht => by have := hT q ht; have := h.oA q hq; omega), h.enc, h.ls.kept (AtT.kept m) (hc.mono fun q _ ht => ?_) fun q hq => ⟨Nat.lt_of_lt_of_le (h.ls.lt q hq).2.1 hc.size, .inl hq⟩, Nat.le_trans hsz hc.size, h.gA, h.bA, h.oA⟩
  have := hT q ht
  exact .inr (.inr (by omega))
theorem BkS.step {w : World} {G A b : Nat} {m : Md} {cv u : Value} {xs : List Nat} {V V2 V3 V4 : World} {k x0 x1 y : Nat} {o o' : Option Nat} {bs bs' : List Bool} (h : BkS w G A b m cv u xs V (k + 1) x0 x1 o bs)
    (h2 : LsT w G m cv V2 (BkX A b o)) (c2 : Chg (fun q => q = G) V V2) (c3 : Chg (fun _ => False) V2 V3) (hwr : Wr V4 b o' bs') (c4 : Chg (fun q => q = b ∨ some q = o) V3 V4) (ho : o' = o ∨ ∃ q, o' = some q ∧ V3.heap.size ≤ q)
    (henc : EncS m xs xs.length (RM m) k bs' (setLane k (x0, x1) y).1 (setLane k (x0, x1) y).2) :
    BkS w G A b m cv u xs (V4.setCell ⟨A + 4, k % 2, none⟩ (.int .i64 (y : Int))) k (setLane k (x0, x1) y).1 (setLane k (x0, x1) y).2 o' bs' := by
  have c5 := Chg.setCell V4 ⟨A + 4, k % 2, none⟩ (.int .i64 (y : Int))
  have hG := h.gA
  have hb := h.bA
  have hsz := h.sz
  have s2 := c2.size; have s3 := c3.size; have s4 := c4.size
  have n2 : ∀ q, A ≤ q → q < A + 8 → V4.heap[q]? = V.heap[q]? := fun q h1 h2 =>
    (c4.block q (by omega) (fun hq => by
      rcases hq with hq | hq
      · omega
      · have := h.oA q hq.symm; omega)).trans ((c3.block q (by omega) (fun hh => hh)).trans (c2.block q (by omega) (by omega)))
  have n5 : ∀ q, A ≤ q → q < A + 8 → q ≠ A + 4 → (V4.setCell ⟨A + 4, k % 2, none⟩ (.int .i64 (y : Int))).heap[q]? = V.heap[q]? := fun q h1 h2 h3 => (c5.block q (by omega) h3).trans (n2 q h1 h2)
  have ho' : ∀ q, o' = some q → A + 8 ≤ q := fun q hq => by
    rcases ho with rfl | ⟨q', e1, e2⟩
    · exact h.oA q hq
    · rw [e1] at hq; injection hq with hq; omega
  have hwl := hwr.lt
  have l3 := h2.still (AtT.kept m) c3
  have l4 : LsT w G m cv V4 (BkX A b o') := l3.kept (AtT.kept m) (c4.mono fun q _ hq => hq.elim .inl fun hq => .inr (.inl hq)) fun q hq => by
    rcases hq with rfl | hq | hq
    · exact ⟨hwl.1, .inl (.inl rfl)⟩
    · refine ⟨(hwl.2 q hq.symm).2, ?_⟩
      rcases ho with rfl | ⟨q', e1, e2⟩
      · exact .inl (.inr (.inl hq))
      · rw [e1] at hq; injection hq with hq; subst hq; exact .inr e2
    · exact ⟨by omega, .inl (.inr (.inr hq))⟩
  refine ⟨(n5 _ (by omega) (by omega) (by omega)).trans h.b0, (n5 _ (by omega) (by omega) (by omega)).trans h.b1, (n5 _ (by omega) (by omega) (by omega)).trans h.b2, (n5 _ (by omega) (by omega) (by omega)).trans h.b3,
    Stt.set (((n2 _ (by omega) (by omega)).trans h.st : Stt V4 (A + 4) x0 x1)) k y, (n5 _ (by omega) (by omega) (by omega)).trans h.b5,
    hwr.kept c5 (by simp only []; omega) (fun q hq he => by simp only [] at he; have := ho' q hq; omega), henc, l4.kept (AtT.kept m) (c5.mono fun q _ hq => ?_) fun q hq => ⟨Nat.lt_of_lt_of_le (l4.lt q hq).2.1 c5.size, .inl hq⟩, Nat.le_trans (by omega) c5.size, hG, hb, ho'⟩
  simp only [] at hq
  exact .inr (.inr (by omega))

end Go.Proofs.YtokeoebhmjefoaaGreat

/- What ctx's At, For, Present and Widest tell. THIS ALONE SPEAKS OF THE PROGRAM'S OWN TEXT. (Present and Widest: CxProgB.) -/
namespace Go.Proofs.YtokeoebhmjefoaaGreat
open Go.RowKit

set_option maxHeartbeats 1000000 in
theorem xat_any (v : Value) (xs : List Nat) (i : Int) (w : World) (h : RdB w v xs) (hx : ∀ x ∈ xs, x < 256) (hl : xs.length < 10000000000) (hi : -9223372036854775808 ≤ i ∧ i ≤ 9223372036854775807) :
    Calls Tryz.prog 49 #[v, .int .i64 i] w fun e w' => e = .returned (.int .i64 (atI xs i)) ∧ ∃ m, w' = w.drewN m := by
  obtain ⟨ao, cap, rfl⟩ := h.form
  have H := Lib.hid h; have HX := Lib.hid hx
  clear h hx
  by_cases hneg : i < 0
  · have d1 : decide (i < 0) = true := decide_eq_true hneg
    have HA := Lib.hid (atI_out xs i (.inl hneg))
    go_enter Tryz.func49, Tryz.ntmps49
    go_wp2
    go_ret
    rw [HA.out]
    exact ⟨rfl, 0, rfl⟩
  have d1 : decide (i < 0) = false := decide_eq_false hneg
  by_cases hbig : (xs.length : Int) ≤ i
  · have d2 : decide ((xs.length : Int) ≤ i) = true := decide_eq_true hbig
    have HA := Lib.hid (atI_out xs i (.inr hbig))
    go_enter Tryz.func49, Tryz.ntmps49
    go_wp2
    go_ret
    rw [HA.out]
    exact ⟨rfl, 0, rfl⟩
  have d2 : decide ((xs.length : Int) ≤ i) = false := decide_eq_false hbig
  obtain ⟨k, rfl⟩ : ∃ k : Nat, i = (k : Int) := ⟨i.toNat, by omega⟩
  have hk : k < xs.length := by omega
  have HA := Lib.hid (atI_nat xs k hk)
  by_cases h0 : k = 0
  · subst h0
    rw [show atI xs ((0 : Nat) : Int) = 0 from HA.out]
    obtain ⟨N, hN⟩ : ∃ N, xs.length = N := ⟨_, rfl⟩
    rw [hN] at hk H ⊢
    have hN0 : ¬ N = 0 := by omega
    have hNI : ¬ (N : Int) ≤ 0 := by omega
    clear hN hl HA hi d1 d2 hneg hbig
    go_enter Tryz.func49, Tryz.ntmps49
    go_wp2
    go_ret
    exact ⟨rfl, 0, rfl⟩
  · obtain ⟨j, rfl⟩ : ∃ j, k = j + 1 := ⟨k - 1, by omega⟩
    obtain ⟨g, off, rfl, hcell⟩ := H.out.at j (by omega)
    have hy := getD_lt xs HX.out j
    rw [List.getD_cons_succ] at HA
    obtain ⟨y, hye⟩ : ∃ y, xs.getD j 0 = y := ⟨_, rfl⟩
    rw [hye] at hcell hy HA
    have e0 : (((j + 1 : Nat) : Int) == 0) = false := by simp; omega
    have hjl : j < xs.length := by omega
    clear hye h0 hneg hbig hi
    go_enter Tryz.func49, Tryz.ntmps49
    go_wp2
    go_ret
    rw [HA.out]
    exact ⟨rfl, 0, rfl⟩

/-- a captured variable -/
def One (w : World) (b : Nat) (t : TypeId) (v : Value) : Prop := w.heap[b]? = some (.cells #[v] t (0, 0))
theorem One.kept {S : Nat → Prop} {w w' : World} {b : Nat} {t : TypeId} {v : Value} (h : One w b t v) (hc : Chg S w w') (hS : ¬ S b) : One w' b t v := (hc.block b (lt_of_block h) hS).trans h

theorem nil_ownsB (w : World) (base : Nat) : w.ownsRow base 5 1 (.slice none 0 0) ([] : List Nat).length (bv []) := ⟨rfl, .inl ⟨rfl, rfl⟩⟩

end Go.Proofs.YtokeoebhmjefoaaGreat

/- What etab's number tells (without, fits, lowest), and sort.Search over fits. THIS SPEAKS OF THE PROGRAM'S OWN TEXT. -/
namespace Go.Proofs.YtokeoebhmjefoaaGreat
open Go.RowKit

/-- a number, and what it must come below, in a block -/
def Nb (w : World) (g : Nat) (y b : Int) : Prop := w.heap[g]? = some (.cells #[.int .i64 y, .int .i64 b] 133 (0, 0))
theorem Nb.cells {w : World} {g : Nat} {y b : Int} (h : Nb w g y b) : w.cell? ⟨g, 0, none⟩ = some (.int .i64 y) ∧ w.cell? ⟨g, 1, none⟩ = some (.int .i64 b) := by
  refine ⟨?_, ?_⟩
  · rw [cell_of_row _ _ 0 _ _ _ h]; rfl
  · rw [cell_of_row _ _ 1 _ _ _ h]; rfl
theorem Nb.kept {S : Nat → Prop} {w w' : World} {g : Nat} {y b : Int} (h : Nb w g y b) (hc : Chg S w w') (hS : ¬ S g) : Nb w' g y b := (hc.block g (lt_of_block h) hS).trans h
theorem Nb.made (w : World) (y b : Int) : Nb (w.alloc (.cells #[.int .i64 y, .int .i64 b] 133)) w.heap.size y b := heap_alloc_new w _

theorem shr_div (y n : Nat) : ((y / 2 ^ n : Nat) : Int) = (y : Int) / (2 : Int) ^ n := by simp

set_option maxHeartbeats 600000 in
theorem ewithout_any (y n : Nat) (b : Int) (w : World) (hy : y ≤ 100000) (hn : n ≤ 60) :
    Calls Tryz.prog 80 #[.agg #[.int .i64 (y : Int), .int .i64 b], .int .i64 (n : Int)] w fun e w' => e = .returned (.int .i64 ((y / 2 ^ n : Nat) : Int)) ∧ Chg (fun _ => False) w w' := by
  have hb := Nb.made w (y : Int) b
  have hc := Chg.alloc (fun _ => False) w (.cells #[.int .i64 (y : Int), .int .i64 b] 133)
  obtain ⟨W, hW⟩ : ∃ W, w.alloc (.cells #[.int .i64 (y : Int), .int .i64 b] 133) = W := ⟨_, rfl⟩
  obtain ⟨G, hG⟩ : ∃ G, w.heap.size = G := ⟨_, rfl⟩
  rw [hW] at hb hc
  rw [hG] at hb
  obtain ⟨c0, c1⟩ := hb.cells
  have HC := Lib.hid hc
  have hS := shr_div y n
  have hz : y / 2 ^ n ≤ y := Nat.div_le_self _ _
  obtain ⟨Z, hZ⟩ : ∃ Z, y / 2 ^ n = Z := ⟨_, rfl⟩
  rw [hZ] at hS hz ⊢
  have hw : IntKind.i64.wrap (Z : Int) = (Z : Int) := by rw [IntKind.wrap_i64]; omega
  have HS := Lib.hid hS
  clear hb hc hZ hS
  go_enter Tryz.func80, Tryz.ntmps80
  go_wp2
  go_ret
  exact ⟨by rw [HS.out]; rfl, HC.out⟩

set_option maxHeartbeats 600000 in
theorem elowest_any (y n : Nat) (b : Int) (w : World) (hy : y ≤ 100000) (hn : n ≤ 60) (hp : y / 2 ^ n * 2 ^ n ≤ y) :
    Calls Tryz.prog 81 #[.agg #[.int .i64 (y : Int), .int .i64 b], .int .i64 (n : Int)] w fun e w' => e = .returned (.int .u32 ((y % 2 ^ n : Nat) : Int)) ∧ Chg (fun _ => False) w w' := by
  have hb := Nb.made w (y : Int) b
  have hc := Chg.alloc (fun _ => False) w (.cells #[.int .i64 (y : Int), .int .i64 b] 133)
  obtain ⟨W, hW⟩ : ∃ W, w.alloc (.cells #[.int .i64 (y : Int), .int .i64 b] 133) = W := ⟨_, rfl⟩
  obtain ⟨G, hG⟩ : ∃ G, w.heap.size = G := ⟨_, rfl⟩
  rw [hW] at hb hc
  rw [hG] at hb
  have HB := Lib.hid hb; have HC := Lib.hid hc
  obtain ⟨c0, c1⟩ := hb.cells
  have HWO := Lib.hid fun W1 => ewithout_any y n b W1 hy hn
  have hmod : y % 2 ^ n = y - y / 2 ^ n * 2 ^ n := by have := Nat.div_add_mod y (2 ^ n); rw [Nat.mul_comm] at this; omega
  have hzy : y / 2 ^ n ≤ y := Nat.div_le_self _ _
  have hz0 : 0 < y → y / 2 ^ n * 2 ^ n ≤ y := fun _ => hp
  obtain ⟨Z, hZ⟩ : ∃ Z, y / 2 ^ n = Z := ⟨_, rfl⟩
  rw [hZ] at hmod hzy hp HWO
  obtain ⟨M, hM⟩ : ∃ M, Z * 2 ^ n = M := ⟨_, rfl⟩
  have hMI : (Z : Int) * (2 : Int) ^ n = (M : Int) := by rw [← hM]; simp
  rw [hM] at hp hmod
  have hw1 : IntKind.i64.wrap (M : Int) = (M : Int) := by rw [IntKind.wrap_i64]; omega
  have hw2 : IntKind.i64.wrap ((y : Int) - (M : Int)) = ((y - M : Nat) : Int) := by rw [IntKind.wrap_i64]; omega
  have hw3 : IntKind.u32.wrap ((y - M : Nat) : Int) = ((y - M : Nat) : Int) := by rw [IntKind.wrap_u32]; omega
  have hn64 : (n : Int) < 64 := by omega
  have HMO := Lib.hid hmod
  clear hb hc hZ hM hmod hz0 hzy hp
  go_enter Tryz.func81, Tryz.ntmps81
  go_wp2
  go_region_held3 (fun W => W.cell? ⟨G, 0, none⟩ = some (.int .i64 (y : Int)) ∧ W.cell? ⟨G, 1, none⟩ = some (.int .i64 b)) (first | exact ⟨c0, c1⟩ | exact ⟨k0, k1⟩) (first
    | (go_at_call 80; refine (HWO.out _).mono ?_; rintro e w1 ⟨rfl, hc1⟩; have hc2 := (Chg.refl (fun _ => False) W).drew.trans hc1 fun _ _ h => h; obtain ⟨k0, k1⟩ := (HB.out.kept hc2 (fun h => h)).cells; have HC2 := Lib.hid (HC.out.trans hc2 fun _ _ h => h); clear hc1 hc2))
  go_wp2
  go_ret
  exact ⟨by rw [HMO.out]; rfl, HC2.out⟩

set_option maxHeartbeats 600000 in
theorem efits_any (y n : Nat) (b : Int) (w : World) (hy : y ≤ 100000) (hn : n ≤ 60) :
    Calls Tryz.prog 79 #[.agg #[.int .i64 (y : Int), .int .i64 b], .int .i64 (n : Int)] w fun e w' => e = .returned (.bool (decide (((y / 2 ^ n : Nat) : Int) < b))) ∧ Chg (fun _ => False) w w' := by
  have hb := Nb.made w (y : Int) b
  have hc := Chg.alloc (fun _ => False) w (.cells #[.int .i64 (y : Int), .int .i64 b] 133)
  obtain ⟨W, hW⟩ : ∃ W, w.alloc (.cells #[.int .i64 (y : Int), .int .i64 b] 133) = W := ⟨_, rfl⟩
  obtain ⟨G, hG⟩ : ∃ G, w.heap.size = G := ⟨_, rfl⟩
  rw [hW] at hb hc
  rw [hG] at hb
  have HB := Lib.hid hb; have HC := Lib.hid hc
  obtain ⟨c0, c1⟩ := hb.cells
  have HWO := Lib.hid fun W1 => ewithout_any y n b W1 hy hn
  obtain ⟨Z, hZ⟩ : ∃ Z, y / 2 ^ n = Z := ⟨_, rfl⟩
  rw [hZ] at HWO ⊢
  clear hb hc hZ
  go_enter Tryz.func79, Tryz.ntmps79
  go_wp2
  go_region_held3 (fun W => W.cell? ⟨G, 0, none⟩ = some (.int .i64 (y : Int)) ∧ W.cell? ⟨G, 1, none⟩ = some (.int .i64 b)) (first | exact ⟨c0, c1⟩ | exact ⟨k0, k1⟩) (first
    | (go_at_call 80; refine (HWO.out _).mono ?_; rintro e w1 ⟨rfl, hc1⟩; have hc2 := (Chg.refl (fun _ => False) W).drew.trans hc1 fun _ _ h => h; obtain ⟨k0, k1⟩ := (HB.out.kept hc2 (fun h => h)).cells; have HC2 := Lib.hid (HC.out.trans hc2 fun _ _ h => h); clear hc1 hc2))
  go_wp2
  go_ret
  exact ⟨rfl, HC2.out⟩

/-- sort.Search, of the bits that are left over -/
def LeastBits (y : Nat) (b : Int) (n r : Nat) : Prop := r ≤ n ∧ (∀ t, t < r → b ≤ ((y / 2 ^ t : Nat) : Int)) ∧ ∀ t, r ≤ t → t < n → ((y / 2 ^ t : Nat) : Int) < b

set_option maxHeartbeats 2000000 in
set_option maxRecDepth 100000 in
theorem esearch_any (y n : Nat) (b : Int) (w : World) (hy : y ≤ 100000) (hn : n ≤ 12) :
    Calls Tryz.prog 78 #[.int .i64 (n : Int), .func (.func 79) #[.agg #[.int .i64 (y : Int), .int .i64 b]] #[]] w fun e w' => (∃ r : Nat, e = .returned (.int .i64 (r : Int)) ∧ LeastBits y b n r) ∧ Chg (fun _ => False) w w' := by
  have HF := Lib.hid fun (t : Nat) (ht : t ≤ 60) W => efits_any y t b W hy ht
  have HM := Lib.hid fun (a c : Nat) (h : a ≤ c) (hp : ((y / 2 ^ a : Nat) : Int) < b) => (show ((y / 2 ^ c : Nat) : Int) < b from by have := div_fall y h; omega)
  clear hy
  go_enter Tryz.func78, Tryz.ntmps78
  go_wp2
  go_loopg [5, 6] n (fun kx s5 s6 wr => ∃ (lo hi : Nat), s5 = .int .i64 lo ∧ s6 = .int .i64 hi ∧ lo ≤ hi ∧ hi ≤ n ∧ hi - lo ≤ kx ∧ Chg (fun _ => False) w wr ∧ Aside ((∀ t, t < lo → b ≤ ((y / 2 ^ t : Nat) : Int)) ∧ (∀ t, hi ≤ t → t < n → ((y / 2 ^ t : Nat) : Int) < b)))
  case atStart => exact ⟨0, n, rfl, rfl, Nat.zero_le _, Nat.le_refl _, by omega, Chg.refl _ _, (⟨fun t ht => absurd ht (Nat.not_lt_zero _), fun t h1 h2 => by omega⟩ : (∀ t, t < 0 → b ≤ ((y / 2 ^ t : Nat) : Int)) ∧ (∀ t, n ≤ t → t < n → ((y / 2 ^ t : Nat) : Int) < b))⟩
  case round =>
    obtain ⟨lo, hi, rfl, rfl, hlh, hin, hg, hc, I⟩ := hrel
    have HC := Lib.hid hc
    clear hc
    by_cases hlt : lo < hi
    · have hcf := HF.out ((lo + hi) / 2) (by omega)
      rw [show (((lo + hi) / 2 : Nat) : Int) = ((lo : Int) + (hi : Int)) / 2 by omega] at hcf
      have HCF := Lib.hid hcf
      clear hcf
      go_wp2_with fail
      refine (HCF.out _).mono ?_
      rintro e w1 ⟨rfl, hc1⟩
      have HC1 := Lib.hid (HC.out.trans hc1 fun _ _ h => h)
      clear hc1
      by_cases hp : ((y / 2 ^ ((lo + hi) / 2) : Nat) : Int) < b
      · rw [decide_eq_true hp]
        have HP := Lib.hid hp
        clear hp
        go_wp2
        go_roundg ((lo + hi) / 2 - lo)
        case measure => omega
        case rel =>
          have I2 : Aside ((∀ t, t < lo → b ≤ ((y / 2 ^ t : Nat) : Int)) ∧ (∀ t, (lo + hi) / 2 ≤ t → t < n → ((y / 2 ^ t : Nat) : Int) < b)) := ⟨I.out.1, fun t ht _ => HM.out _ t ht HP.out⟩
          exact ⟨lo, (lo + hi) / 2, rfl, by rw [show ((lo : Int) + (hi : Int)) / 2 = (((lo + hi) / 2 : Nat) : Int) by omega], by omega, by omega, Nat.le_refl _, HC1.out, I2⟩
      · rw [decide_eq_false hp]
        have HP := Lib.hid hp
        clear hp
        go_wp2
        go_roundg (hi - ((lo + hi) / 2 + 1))
        case measure => omega
        case rel =>
          have I2 : Aside ((∀ t, t < (lo + hi) / 2 + 1 → b ≤ ((y / 2 ^ t : Nat) : Int)) ∧ (∀ t, hi ≤ t → t < n → ((y / 2 ^ t : Nat) : Int) < b)) := ⟨fun t ht => by have h1 := HP.out; have h2 := HM.out t ((lo + hi) / 2) (by omega); omega, I.out.2⟩
          exact ⟨(lo + hi) / 2 + 1, hi, by rw [show ((lo : Int) + (hi : Int)) / 2 + 1 = (((lo + hi) / 2 + 1 : Nat) : Int) by omega], rfl, by omega, hin, Nat.le_refl _, HC1.out, I2⟩
    · obtain rfl : hi = lo := by omega
      go_wp2
      go_ret
      exact ⟨⟨hi, rfl, hin, I.out.1, I.out.2⟩, HC.out⟩

end Go.Proofs.YtokeoebhmjefoaaGreat

/- What etab's New (EtProgB), Log, Count and Step tell. THIS SPEAKS OF THE PROGRAM'S OWN TEXT. -/
namespace Go.Proofs.YtokeoebhmjefoaaGreat
open Go.RowKit

/-- a block that holds a Table -/
def Tbk (w : World) (g : Nat) (k : Int) (b : Nat) : Prop := w.heap[g]? = some (.cells #[.int .i64 k, .map (some b)] 107 (0, 0))
theorem Tbk.cells {w : World} {g : Nat} {k : Int} {b : Nat} (h : Tbk w g k b) : w.cell? ⟨g, 0, none⟩ = some (.int .i64 k) ∧ w.cell? ⟨g, 1, none⟩ = some (.map (some b)) := by
  refine ⟨?_, ?_⟩
  · rw [cell_of_row _ _ 0 _ _ _ h]; rfl
  · rw [cell_of_row _ _ 1 _ _ _ h]; rfl
theorem Tbk.kept {S : Nat → Prop} {w w' : World} {g : Nat} {k : Int} {b : Nat} (h : Tbk w g k b) (hc : Chg S w w') (hS : ¬ S g) : Tbk w' g k b := (hc.block g (lt_of_block h) hS).trans h

/-- a number is laid into a block -/
def N2 (w : World) (g : Nat) (y b : Int) : World := (w.setCell ⟨g, 0, none⟩ (.int .i64 y)).setCell ⟨g, 1, none⟩ (.int .i64 b)
theorem N2_chg (w : World) (g : Nat) (y b : Int) : Chg (fun q => q = g) w (N2 w g y b) := (Chg.setCell w ⟨g, 0, none⟩ _).trans (Chg.setCell _ ⟨g, 1, none⟩ _) fun _ _ h => h
theorem N2_nb {w : World} {g : Nat} {y0 b0 : Int} (h : Nb w g y0 b0) (y b : Int) : Nb (N2 w g y b) g y b :=
  heap_setCell_same _ g 1 _ _ (.int .i64 b) (heap_setCell_same w g 0 _ _ (.int .i64 y) h)
theorem Nb.free {w : World} {g : Nat} {y b : Int} (h : Nb w g y b) (k : Nat) : w.frozen? ⟨g, k, none⟩ = false := frozen_of_row w g k _ _ h
theorem zeroNumber (W : World) : (zeroValue 133).run Tryz.prog W = .ok (.agg #[.int .i64 0, .int .i64 0]) W := by kernel_rfl

set_option maxHeartbeats 2000000 in
set_option maxRecDepth 100000 in
theorem estep_any (a : Addr) (q : List Int) (k : Nat) (x : Int) (s : Nat) (w : World) (h : EtOk w a q) (hq : NormQ q k) (hs : s < 256) (hx : -9223372036854775808 ≤ x ∧ x ≤ 9223372036854775807) :
    Calls Tryz.prog 63 #[.pointer (some a), .int .i64 x, .int .u8 (s : Int)] w fun e w' => EncSays q k x s e ∧ Chg (fun _ => False) w w' := by
  obtain ⟨ga, base, b, n, l, rfl, hn, hb, hl, hg⟩ := h
  rw [hq.log] at hb
  obtain ⟨c0, c1⟩ := Tbk.cells hb
  obtain ⟨v, hrun, hrd⟩ := hg.look hn hs
  have hlen := hl.pos_length hs
  have hle := hq.le s
  have hsz := hq.size
  have hk12 := hq.2.2.2.2
  have hfl := f_le (f := fq q) (R := k) hq.sum hs
  obtain ⟨ao, cap, rfl⟩ := hrd.form
  rw [hlen] at hrun
  have hk64 : (k : Int) < 64 := by omega
  obtain ⟨L, hL⟩ : ∃ L, 2 ^ k = L := ⟨_, rfl⟩
  have hLI : (2 : Int) ^ k = (L : Int) := by rw [← hL]; simp
  have hwL : IntKind.i64.wrap (L : Int) = (L : Int) := by rw [IntKind.wrap_i64]; omega
  obtain ⟨F, hF⟩ : ∃ F, fq q s = F := ⟨_, rfl⟩
  have HF := Lib.hid hF; have HL := Lib.hid hL
  rw [hF] at hrun hle hfl
  rw [hL] at hsz hfl
  by_cases hcan : eCan q k x s
  · obtain ⟨hx0, hxL, hF0⟩ := hcan
    rw [hL] at hxL
    rw [hF] at hF0
    obtain ⟨X, rfl⟩ : ∃ X : Nat, x = (X : Int) := ⟨x.toNat, by omega⟩
    have hXL : X < L := by omega
    have hcan : eCan q k (X : Int) s := ⟨by omega, by rw [hL]; omega, by rw [hF]; omega⟩
    have HEND := Lib.hid fun (r : Nat) (hr : lefts F (L + X) r) => (show EncSays q k (X : Int) s (.returned (.tuple #[.int .i64 ((placeF (fq q) 256 s ((L + X) / 2 ^ r) : Nat) : Int), .int .i64 (r : Int), .int .u32 (((L + X) % 2 ^ r : Nat) : Int), .bool true])) from
      ⟨fun h => absurd hcan h, fun _ => ⟨r, by rw [hF, hL, Int.toNat_natCast]; exact hr, by rw [hL, Int.toNat_natCast]⟩⟩)
    have HLEFT := Lib.hid fun (r : Nat) (hr : LeastBits (L + X) (2 * (F : Int)) k r) => (show lefts F (L + X) r ∧ r ≤ k from by
      obtain ⟨h1, h2, h3⟩ := hr
      refine ⟨?_, h1⟩
      rw [← hL]
      rw [← hL] at h2 h3
      exact lefts_least (by omega) (by omega) (by omega) h1 (fun m hm => by have := h2 m hm; omega) fun m h4 h5 => by have := h3 m h4 h5; omega)
    have HROW := Lib.hid fun (d : Nat) (hd : d < F) W (hc : Chg (fun _ => False) w W) => (show ∃ g off, ao = some ⟨g, off, none⟩ ∧ W.cell? ⟨g, off + d, none⟩ = some (.int .i64 ((placeF (fq q) 256 s (F + d) : Nat) : Int)) from by
      obtain ⟨g, off, h1, h2⟩ := (hrd.kept hc (by simp)).at d (by rw [hlen, hF]; exact hd)
      refine ⟨g, off, h1, ?_⟩
      have h3 := hl.pos hs (d := d) (by rw [hF]; exact hd)
      rw [h2, List.getD_eq_getElem?_getD, h3, hF]; rfl)
    have HTB := Lib.hid (show Tbk w ga (k : Int) b from hb)
    have hy5 : L + X ≤ 100000 := by omega
    have hyI : (L : Int) + (X : Int) = ((L + X : Nat) : Int) := by omega
    have d1 : decide ((X : Int) < 0) = false := decide_eq_false (by omega)
    have d2 : decide ((L : Int) ≤ (X : Int)) = false := decide_eq_false (by omega)
    have d3 : ((F : Int) == 0) = false := by simp; omega
    have d4 : ¬ L ≤ X := by omega
    have d5 : ¬ F = 0 := by omega
    obtain ⟨Y, hY⟩ : ∃ Y, L + X = Y := ⟨_, rfl⟩
    rw [hY] at HEND HLEFT hy5 hyI
    have hw1 : IntKind.i64.wrap (Y : Int) = (Y : Int) := by rw [IntKind.wrap_i64]; omega
    have hw2 : IntKind.i64.wrap (2 * (F : Int)) = 2 * (F : Int) := by rw [IntKind.wrap_i64]; omega
    have hz := zeroNumber
    have hnb := N2_nb (Nb.made w 0 0) (Y : Int) (2 * (F : Int))
    have hnb0 := Nb.made w 0 0
    have hca := (Chg.alloc (fun _ => False) w (.cells #[.int .i64 0, .int .i64 0] 133)).trans (N2_chg _ w.heap.size (Y : Int) (2 * (F : Int))) fun q hq he => by omega
    obtain ⟨W0, hW0⟩ : ∃ W0, w.alloc (.cells #[.int .i64 0, .int .i64 0] 133) = W0 := ⟨_, rfl⟩
    rw [hW0] at hnb hnb0 hca
    obtain ⟨G, hG⟩ : ∃ G, w.heap.size = G := ⟨_, rfl⟩
    rw [hG] at hnb hnb0 hca
    obtain ⟨z0, z1⟩ := hnb0.cells
    have f0 := hnb0.free 0
    have f1 := hnb0.free 1
    unfold N2 at hnb hca
    obtain ⟨W1, hW1⟩ : ∃ W1, (W0.setCell ⟨G, 0, none⟩ (.int .i64 (Y : Int))).setCell ⟨G, 1, none⟩ (.int .i64 (2 * (F : Int))) = W1 := ⟨_, rfl⟩
    rw [hW1] at hnb hca
    obtain ⟨y0, y1⟩ := hnb.cells
    obtain ⟨t0, t1⟩ := (HTB.out.kept hca (fun h => h)).cells
    have HNB := Lib.hid hnb; have HCA := Lib.hid hca
    have HSE := Lib.hid fun W => esearch_any Y k (2 * (F : Int)) W hy5 (by omega)
    have HWO := Lib.hid fun (r : Nat) (hr : r ≤ 60) W => ewithout_any Y r (2 * (F : Int)) W hy5 hr
    have HLO := Lib.hid fun (r : Nat) (hr : r ≤ 60) W => elowest_any Y r (2 * (F : Int)) W hy5 hr (Nat.div_mul_le_self _ _)
    have HK12 := Lib.hid hk12; have HF4 := Lib.hid (show F ≤ 4096 from hle)
    clear hb hl hg hrd hlen hq hcan hF hL hfl hnb hca hnb0 hY hn hle hsz hXL hxL hx0
    go_enter Tryz.func63, Tryz.ntmps63
    go_wp2
    go_region_held3 (fun W => W.cell? ⟨ga, 0, none⟩ = some (.int .i64 (k : Int)) ∧ W.cell? ⟨G, 0, none⟩ = some (.int .i64 (Y : Int)) ∧ W.cell? ⟨G, 1, none⟩ = some (.int .i64 (2 * (F : Int)))) (first | exact ⟨t0, y0, y1⟩ | exact ⟨k0, k1, k2⟩) (first
      | (go_at_call 78; refine (HSE.out _).mono ?_; rintro e w1 ⟨⟨r, rfl, hr⟩, hc1⟩; have hc2 := (Chg.refl (fun _ => False) W1).drew.trans hc1 fun _ _ h => h; obtain ⟨k1, k2⟩ := (HNB.out.kept hc2 (fun h => h)).cells; have k0 := ((HTB.out.kept HCA.out (fun h => h)).kept hc2 (fun h => h)).cells.1; have HN2 := Lib.hid (HNB.out.kept hc2 (fun h => h)); have HC2 := Lib.hid (HCA.out.trans hc2 fun _ _ h => h); have HR := Lib.hid (HLEFT.out r hr); clear hc1 hc2 hr))
    have hr60 : r ≤ 60 := by have := HR.out.2; have := HK12.out; omega
    have HR1 := Lib.hid HR.out.1
    have HWR := Lib.hid (HWO.out r hr60)
    have HLR := Lib.hid (HLO.out r hr60)
    have hZ := HR.out.1
    unfold lefts at hZ
    have HE := Lib.hid (HEND.out r HR1.out)
    obtain ⟨Z, hZe⟩ : ∃ Z, Y / 2 ^ r = Z := ⟨_, rfl⟩
    rw [hZe] at hZ HWR HE
    obtain ⟨M, hMe⟩ : ∃ M, Y % 2 ^ r = M := ⟨_, rfl⟩
    rw [hMe] at HLR HE
    obtain ⟨d, hd⟩ : ∃ d, Z = F + d := ⟨Z - F, by omega⟩
    have hdF : d < F := by omega
    have hZd : (Z : Int) - (F : Int) = (d : Int) := by omega
    obtain ⟨gr, off, rfl, hq0⟩ := HROW.out d hdF w1 HC2.out
    have HQ := Lib.hid fun (W : World) (hc : Chg (fun _ => False) w W) => (show W.cell? ⟨gr, off + d, none⟩ = some (.int .i64 ((placeF (fq q) 256 s Z : Nat) : Int)) from by
      obtain ⟨g', off', h1, h2⟩ := HROW.out d hdF W hc
      simp only [Option.some.injEq, Addr.mk.injEq] at h1
      obtain ⟨rfl, rfl, -⟩ := h1
      rw [h2, hd])
    rw [← hd] at hq0
    obtain ⟨PL, hPL⟩ : ∃ PL, placeF (fq q) 256 s Z = PL := ⟨_, rfl⟩
    rw [hPL] at HQ HE hq0
    have hdFI : (d : Int) < (F : Int) := by omega
    have hwd : IntKind.i64.wrap (d : Int) = (d : Int) := by have := HF4.out; rw [IntKind.wrap_i64]; omega
    clear hZ hZe hMe hd hPL HROW HSE HLO HWO HLEFT HEND HR
    go_wp2
    go_region_held3 (fun W => W.cell? ⟨gr, off + d, none⟩ = some (.int .i64 (PL : Int)) ∧ W.cell? ⟨G, 0, none⟩ = some (.int .i64 (Y : Int)) ∧ W.cell? ⟨G, 1, none⟩ = some (.int .i64 (2 * (F : Int)))) (first | exact ⟨hq0, k1, k2⟩ | exact ⟨m0, m1, m2⟩ | exact ⟨n0, n1, n2⟩) (first
      | (go_at_call 80; refine (HWR.out _).mono ?_; rintro e w2 ⟨rfl, hc3⟩; have HC3 := Lib.hid (HC2.out.trans ((Chg.refl (fun _ => False) w1).drew.trans hc3 fun _ _ h => h) fun _ _ h => h); obtain ⟨m1, m2⟩ := (HN2.out.kept ((Chg.refl (fun _ => False) w1).drew.trans hc3 fun _ _ h => h) (fun h => h)).cells; have m0 := HQ.out w2 HC3.out; have HN3 := Lib.hid (HN2.out.kept ((Chg.refl (fun _ => False) w1).drew.trans hc3 fun _ _ h => h) (fun h => h)); clear hc3)
      | (go_at_call 81; refine (HLR.out _).mono ?_; rintro e w3 ⟨rfl, hc4⟩; have HC4 := Lib.hid (HC3.out.trans hc4 fun _ _ h => h); obtain ⟨n1, n2⟩ := (HN3.out.kept hc4 (fun h => h)).cells; have n0 := HQ.out w3 HC4.out; clear hc4))
    go_wp2
    go_returns
    exact ⟨HE.out, HC4.out⟩
  · have HN := Lib.hid (show EncSays q k x s (.returned (.tuple #[.int .i64 0, .int .i64 0, .int .u32 0, .bool false])) from ⟨fun _ => rfl, fun hc => absurd hc hcan⟩)
    have hway : x < 0 ∨ (¬ x < 0 ∧ (L : Int) ≤ x) ∨ (¬ x < 0 ∧ ¬ (L : Int) ≤ x ∧ F = 0) := by
      by_cases h1 : x < 0
      · exact .inl h1
      · by_cases h2 : (L : Int) ≤ x
        · exact .inr (.inl ⟨h1, h2⟩)
        · refine .inr (.inr ⟨h1, h2, ?_⟩)
          by_cases h3 : F = 0
          · exact h3
          · exact absurd ⟨by omega, by rw [hL]; omega, by rw [hF]; omega⟩ hcan
    clear hb hl hg hrd hlen hq hcan hF hL hfl
    rcases hway with h1 | ⟨h1, h2⟩ | ⟨h1, h2, h3⟩
    · have d1 : decide (x < 0) = true := decide_eq_true h1
      go_enter Tryz.func63, Tryz.ntmps63
      go_wp2
      go_returns
      exact ⟨HN.out, Chg.refl _ _⟩
    · have d1 : decide (x < 0) = false := decide_eq_false h1
      have d2 : decide ((L : Int) ≤ x) = true := decide_eq_true h2
      go_enter Tryz.func63, Tryz.ntmps63
      go_wp2
      go_returns
      exact ⟨HN.out, Chg.refl _ _⟩
    · have d1 : decide (x < 0) = false := decide_eq_false h1
      have d2 : decide ((L : Int) ≤ x) = false := decide_eq_false h2
      subst h3
      go_enter Tryz.func63, Tryz.ntmps63
      go_wp2
      go_returns
      exact ⟨HN.out, Chg.refl _ _⟩

end Go.Proofs.YtokeoebhmjefoaaGreat

/- What back tells: bytes' symbols as bits, from the last one to the first, and the states. THIS SPEAKS OF THE PROGRAM'S OWN TEXT. -/
namespace Go.Proofs.YtokeoebhmjefoaaGreat
open Go.RowKit Go.Shelf

attribute [local go_sem] Oper.semAt_some

theorem Tryz.entersRev (args : Array Value) (w : World) : (callFunc 77 args).run Tryz.prog w = .ok (.enter 77 args) w := by kernel_rfl
theorem Tryz.entersOfT (args : Array Value) (w : World) : (callFunc 38 args).run Tryz.prog w = .ok (.enter 38 args) w := by kernel_rfl
theorem lofT_any (w : World) (G : Nat) (m : Md) (cv : Value) (W : World) (X : Nat → Prop) (c : Nat) (h : LsT w G m cv W X) (hl : RdLL w cv m.cs) (hr : m.right) (hc : c < 256) (hne : m.atL (c : Int) ≠ []) :
    Calls Tryz.prog 38 #[.pointer (some ⟨G, 0, none⟩), .int .i64 (c : Int)] W fun e W' => ∃ a, e = .returned (.pointer (some a)) ∧ EtOk W' a (m.atL (c : Int)) ∧ LsT w G m cv W' X ∧ Chg (fun k => k = G) W W' := by
  rcases Bool.eq_false_or_eq_true m.one with ho | ho
  · exact lofT_one w G m cv W X c h hl hr ho hc hne
  · exact lofT_each w G m cv W X c h hl hr ho hc hne

set_option maxRecDepth 100000 in
set_option maxHeartbeats 4000000 in
theorem lback_any (w : World) (G b : Nat) (m : Md) (cv : Value) (ao : Option Addr) (n cap : Nat) (xs : List Nat) (W : World) (h : LsT w G m cv W (fun k => k = b)) (hl : RdLL w cv m.cs) (hwr : Wr W b none []) (hb : RdB w (.slice ao n cap) xs) (hx : ∀ x ∈ xs, x < 256) (hlen : xs.length < 1000000) (hfit : m.fits xs) :
    Calls Tryz.prog 37 #[.pointer (some ⟨b, 0, none⟩), .slice ao n cap, .func (.func 38) #[.pointer (some ⟨G, 0, none⟩)] #[]] W fun e W' => ∃ a b2 : Nat, e = .returned (.agg #[.int .i64 (a : Int), .int .i64 (b2 : Int)]) ∧ ∃ bs o, Wr W' b o bs ∧ EncS m xs xs.length (RM m) 0 bs a b2 ∧ Chg (fun _ => False) w W' := by
  have hrev := fun (V : World) => callsIn_wide (n := 0) |>.2 (srev_any ao n cap V)
  have hent := Tryz.entersRev
  have hmf : ∀ (fn : Fn) (first cap : Array Value) (w : World), (Instr.makeFunc fn first cap).run Tryz.prog w = .ok (.func fn first cap) w := fun _ _ _ _ => rfl
  have hG := h.inn
  have hbl := h.lt b rfl
  obtain ⟨V6, hV6, s6, c6, e0, e1, e2, e3, e4, e5⟩ := six_new W (.cells #[.pointer (some ⟨b, 0, none⟩)] 37) (.cells #[.slice ao n cap] 22) (.cells #[.func (.func 38) #[.pointer (some ⟨G, 0, none⟩)] #[]] 77) (.cells #[.int .i64 0, .int .i64 0] 51) (.cells #[.int .i64 0, .int .i64 0] 51) (.cells #[.slice ao n cap] 22)
  have hw6 := hwr.kept c6 (by simp) (by simp)
  obtain ⟨A, hA⟩ : ∃ A, W.heap.size = A := ⟨_, rfl⟩
  rw [hA] at s6 e0 e1 e2 e3 e4 e5 hG hbl
  have E := Lib.hid (show _ ∧ _ ∧ _ ∧ _ ∧ _ ∧ _ ∧ _ ∧ _ ∧ _ from ⟨e0, e1, e2, e3, e4, e5, h, hw6, c6⟩)
  have HB := Lib.hid hb; have HX := Lib.hid hx; have HFIT := Lib.hid hfit; have HL := Lib.hid hl
  have HV6 := Lib.hid hV6; have HA := Lib.hid hA; have HLN := Lib.hid hlen; have S6 := Lib.hid s6; have HGL := Lib.hid hG; have HBL := Lib.hid hbl
  clear hb hwr h hx e0 e1 e2 e3 e4 e5 hw6 c6 hfit hl hV6 hA hlen s6 hG hbl
  refine (callsIn_wide (n := 0)).1 ?_
  refine callsIn_of_wp_marks Tryz.func37 rfl trivial ?_ rfl
  simp only [Tryz.ntmps37, List.size_toArray, List.length_cons, List.length_nil, Nat.reduceAdd, Nat.reduceSub, Array.replicate_succ, Array.replicate_zero, List.push_toArray, List.append_toArray, List.nil_append, List.cons_append]
  gi_wp2_with (refine ⟨trivial, rfl, (hrev _).mono ?_⟩; rintro e w' ⟨rfl, rfl⟩)
  rename_i Q' K hK
  rw [HV6.out, HA.out]
  have HK := Lib.hid hK
  clear hK hrev
  refine wp_rounds (gf := 77) (lb := #[.pointer (some ⟨A + 5, 0, none⟩)]) (args := revArgs xs) (N := xs.length) rfl hent (srev_rounds (.slice ao n cap) xs (A + 5) HLN.out) (fun _ => rfl)
    (fun r V => ∃ x0 x1 o bs, BkS w G A b m cv (.slice ao n cap) xs V (xs.length - r) x0 x1 o bs) ?hrd ?hbook ?h0 (fun r => { tmps := #[.pointer (some ⟨b, 0, none⟩), .slice ao n cap, .func (.func 38) #[.pointer (some ⟨G, 0, none⟩)] #[], .pointer (some ⟨A, 0, none⟩), .pointer (some ⟨A + 1, 0, none⟩), .pointer (some ⟨A + 2, 0, none⟩), .pointer (some ⟨A + 3, 0, none⟩), .pointer (some ⟨A + 4, 0, none⟩), .int .i64 (((xs.length - 1 - r : Nat) : Nat) : Int), .int .u8 ((xs.getD (xs.length - 1 - r) 0 : Nat) : Int), undef, undef, undef, undef, undef, .slice ao n cap, .func (.func 77) #[] #[.pointer (some ⟨A + 5, 0, none⟩)], .int .i64 (((xs.length - 1 - r : Nat) : Nat) : Int), .int .u8 ((xs.getD (xs.length - 1 - r) 0 : Nat) : Int), undef, undef, undef, undef, undef, undef, undef, undef, undef, undef, undef, undef, undef, undef, undef, undef, undef, undef, undef, undef, undef, undef, undef, undef, undef, undef], defers := [] }) ?hassign ?hbody ?hdone
  case hrd =>
    rintro r V ⟨x0, x1, o, bs, hs⟩
    exact ⟨by rw [cell_of_row V _ 0 _ _ _ hs.b5]; rfl, HB.out.kept hs.ls.chg (by simp)⟩
  case hbook =>
    rintro r V V' ⟨x0, x1, o, bs, hs⟩ _ hc _
    rw [S6.out] at hc
    exact ⟨x0, x1, o, bs, hs.still hc fun q hq => hq⟩
  case h0 =>
    intro V hc hsz
    obtain ⟨e0, e1, e2, e3, e4, e5, h6, hw6, c6⟩ := E.out
    have s6 := S6.out
    have hG := HGL.out
    have hbl := HBL.out
    rw [s6] at hsz
    have up : ∀ q o, q < A + 6 → V6.heap[q]? = some o → V.heap[q]? = some o := fun q o hq ho => (hc.block q (by omega) (fun h => h)).trans ho
    exact ⟨0, 0, none, [], up _ _ (by omega) e0, up _ _ (by omega) e1, up _ _ (by omega) e2, up _ _ (by omega) e3, up _ _ (by omega) e4, up _ _ (by omega) e5, hw6.kept hc (by simp) (by simp), encS_zero m xs _ _ rfl,
      h6.kept (AtT.kept m) ((c6.trans hc fun _ _ h => h).mono fun _ _ h => h.elim) (fun q hq => by
        rcases hq with rfl | hq | hq
        · exact ⟨by omega, .inl rfl⟩
        · cases hq
        · exact ⟨by omega, .inr (by rw [HA.out]; exact hq.1)⟩), by omega, by omega, by omega, fun q hq => by cases hq⟩
  case hassign =>
    intro l r V K hK
    unfold revArgs
    gi_wp2
    exact hK
  case hbody =>
    clear HK
    rintro l r V ⟨x0, x1, o, bs, hs⟩ _ hr
    dsimp only
    have hN := HLN.out
    obtain ⟨k, hk⟩ : ∃ k, xs.length - 1 - r = k := ⟨_, rfl⟩
    have hkN : k < xs.length := by omega
    rw [hk]
    rw [show xs.length - r = k + 1 by omega] at hs
    rw [show xs.length - (r + 1) = k by omega]
    have hxk : xs.getD k 0 < 256 := getD_lt xs HX.out k
    have hat := atI_nat xs k hkN
    obtain ⟨hne, hf1⟩ := (fits_iff HFIT.out.1).1 HFIT.out _ ((prs_mem 0 xs _).2 ⟨k, hkN, rfl⟩)
    have hnq := norm_at HFIT.out.1 _ hne
    simp only [] at hne hf1 hnq
    have hcl : (0 :: xs).getD k 0 < 256 := by
      cases k with
      | zero => simp
      | succ k => simp only [List.getD_cons_succ]; exact getD_lt xs HX.out k
    obtain ⟨c, hce⟩ : ∃ c, (0 :: xs).getD k 0 = c := ⟨_, rfl⟩
    obtain ⟨s, hse⟩ : ∃ s, xs.getD k 0 = s := ⟨_, rfl⟩
    rw [hce] at hat hne hf1 hnq hcl
    rw [hse] at hxk hf1 ⊢
    obtain ⟨R, hR⟩ : ∃ R, RM m = R := ⟨_, rfl⟩
    obtain ⟨-, hR2, -⟩ := RM_le HFIT.out.1
    obtain ⟨x, hxe⟩ : ∃ x, lane k (x0, x1) = x := ⟨_, rfl⟩
    have hxl : x < 2 ^ R := by
      rw [← hxe, ← hR]
      unfold lane
      split
      · exact hs.enc.2.2.2
      · exact hs.enc.2.2.1
    have hlen := hs.enc.2.1
    rw [hR] at hnq hR2 hlen
    have hp2 := pow12 (k := R) (by omega)
    have hst := hs.st.lane k
    rw [hxe] at hst
    obtain ⟨p, hp⟩ : ∃ p, k % 2 = p := ⟨_, rfl⟩
    have htm : (k : Int).tmod 2 = (p : Int) := by rw [Int.tmod_eq_emod_of_nonneg (by omega)]; omega
    have hpI : (p : Int) < 2 := by omega
    have hp0 : (0 : Int) ≤ (p : Int) := by omega
    rw [hp] at hst
    have hc2 : V.cell? ⟨A + 2, 0, none⟩ = some (.func (.func 38) #[.pointer (some ⟨G, 0, none⟩)] #[]) := by rw [cell_of_row V _ 0 _ _ _ hs.b2]; rfl
    have hc1 : V.cell? ⟨A + 1, 0, none⟩ = some (.slice ao n cap) := by rw [cell_of_row V _ 0 _ _ _ hs.b1]; rfl
    have hNR : xs.length * R ≤ 12000000 := Nat.le_trans (Nat.mul_le_mul (show xs.length ≤ 1000000 by omega) hR2) (by decide)
    have hxat := xat_any (.slice ao n cap) xs (k : Int) V.drew ((HB.out.kept hs.ls.chg (by simp)).kept ((Chg.refl (fun _ => False) V).drew) (by simp)) HX.out (by omega) (by omega)
    rw [hat] at hxat
    have HS := Lib.hid hs; have HXAT := Lib.hid hxat; have HNE := Lib.hid hne; have HF1 := Lib.hid hf1; have HNQ := Lib.hid hnq; have HCL := Lib.hid hcl; have HCE := Lib.hid hce; have HSE := Lib.hid hse; have HR := Lib.hid hR; have HXE := Lib.hid hxe; have HXL := Lib.hid hxl; have HP := Lib.hid hp; have HKN := Lib.hid hkN; have HNR := Lib.hid hNR; have HBL2 := Lib.hid hlen; have HP2 := Lib.hid hp2; have HR2 := Lib.hid hR2; have HXK := Lib.hid hxk
    have hsI : (s : Int) < 256 := by omega
    have hxI : (x : Int) < 4096 := by omega
    have hent2 := Tryz.entersOfT
    clear hs hxat hne hf1 hnq hcl hce hse hR hxe hxl hkN hNR hlen hp2 hk hr hat hR2 hp hxk hN hent
    gi_wp2
    refine region_round (S := fun U => U.cell? ⟨A + 2, 0, none⟩ = some (.func (.func 38) #[.pointer (some ⟨G, 0, none⟩)] #[]) ∧ U.cell? ⟨A + 1, 0, none⟩ = some (.slice ao n cap) ∧ U.cell? ⟨A + 4, p, none⟩ = some (.int .i64 (x : Int))) (by kernel_rfl) (by kernel_rfl) (fun ⟨_, _, hh⟩ => (show False from hh).elim) ⟨hc2, hc1, hst⟩ (fun hHeld => ?_)
    refine takeH (i := 0) 23 (.func (.func 38) #[.pointer (some ⟨G, 0, none⟩)] #[]) rfl rfl (by kernel_rfl) (by kernel_rfl) (by kernel_rfl) (fun _ _ _ h => h) (by rfl) hHeld (by intro V hV; obtain ⟨hV1, hV2, hV3⟩ := hV; go_simp) ?_
    simp only [List.setIfInBounds_toArray, List.set_cons_zero, List.set_cons_succ]
    refine takeH (i := 1) 24 (.slice ao n cap) rfl rfl (by kernel_rfl) (by kernel_rfl) (by kernel_rfl) (fun _ _ _ h => h) (by rfl) hHeld (by intro V hV; obtain ⟨hV1, hV2, hV3⟩ := hV; go_simp) ?_
    simp only [List.setIfInBounds_toArray, List.set_cons_zero, List.set_cons_succ]
    refine takeH (i := 2) 25 (.int .i64 (k : Int)) rfl rfl (by kernel_rfl) (by kernel_rfl) (by kernel_rfl) (fun _ _ _ h => h) (by rfl) hHeld (by intro V hV; obtain ⟨hV1, hV2, hV3⟩ := hV; go_simp) ?_
    simp only [List.setIfInBounds_toArray, List.set_cons_zero, List.set_cons_succ]
    refine takeH (i := 5) 28 (.pointer (some ⟨A + 4, p, none⟩)) rfl rfl (by kernel_rfl) (by kernel_rfl) (by kernel_rfl) (fun _ _ _ h => h) (by rfl) hHeld (by intro V hV; obtain ⟨hV1, hV2, hV3⟩ := hV; go_simp) ?_
    simp only [List.setIfInBounds_toArray, List.set_cons_zero, List.set_cons_succ]
    refine takeH (i := 6) 29 (.pointer (some ⟨A + 4, p, none⟩)) rfl rfl (by kernel_rfl) (by kernel_rfl) (by kernel_rfl) (fun _ _ _ h => h) (by rfl) hHeld (by intro V hV; obtain ⟨hV1, hV2, hV3⟩ := hV; go_simp) ?_
    simp only [List.setIfInBounds_toArray, List.set_cons_zero, List.set_cons_succ]
    refine takeH (i := 7) 30 (.int .i64 (x : Int)) rfl rfl (by kernel_rfl) (by kernel_rfl) (by kernel_rfl) (fun _ _ _ h => h) (by rfl) hHeld (by intro V hV; obtain ⟨hV1, hV2, hV3⟩ := hV; go_simp) ?_
    simp only [List.setIfInBounds_toArray, List.set_cons_zero, List.set_cons_succ]
    refine takeH (i := 8) 31 (.int .u8 (s : Int)) rfl rfl (by kernel_rfl) (by kernel_rfl) (by kernel_rfl) (fun _ _ _ h => h) (by rfl) hHeld (by intro V hV; obtain ⟨hV1, hV2, hV3⟩ := hV; go_simp) ?_
    simp only [List.setIfInBounds_toArray, List.set_cons_zero, List.set_cons_succ]
    refine wpAnyH_ready (rs := [3]) (by kernel_rfl) (by simp) ?_
    refine AllReadyH.cons rfl (fun K hK => ?_) AllReadyH.nil
    clear hHeld
    go_simp
    refine HXAT.out.mono ?_
    rintro e U1 ⟨rfl, mm, rfl⟩
    have cu1 : Chg (fun _ => False) V (V.drew.drewN mm) := ((Chg.refl (fun _ => False) V).drew).drewN mm
    obtain ⟨U1, hU1⟩ : ∃ U, V.drew.drewN mm = U := ⟨_, rfl⟩
    rw [hU1] at cu1 ⊢
    have hs1 := HS.out.still cu1 (fun _ h => h.elim)
    refine hK.out _ _ ⟨by rw [cell_of_row U1 _ 0 _ _ _ hs1.b2]; rfl, by rw [cell_of_row U1 _ 0 _ _ _ hs1.b1]; rfl, by have := hs1.st.lane k; rwa [HXE.out, HP.out] at this⟩ (fun hHeld => ?_)
    have hof := lofT_any w G m cv U1 _ c hs1.ls HL.out HFIT.out.1 HCL.out HNE.out
    have HOF := Lib.hid hof; have CU1 := Lib.hid cu1
    clear hK K hU1 hs1 hof cu1
    try simp only [Act.put, List.setIfInBounds_toArray, List.set_cons_zero, List.set_cons_succ]
    refine wpAnyH_ready (rs := [4]) (by kernel_rfl) (by simp) ?_
    refine AllReadyH.cons rfl (fun K hK => ?_) AllReadyH.nil
    clear hHeld
    go_simp
    refine HOF.out.mono ?_
    rintro e V2 ⟨a, rfl, het, hls, c2⟩
    have hst2 : V2.heap[A + 4]? = _ := (c2.block (A + 4) (Nat.lt_of_lt_of_le (by have := HS.out.sz; omega) CU1.out.size) (by have := HGL.out; omega)).trans ((CU1.out.block (A + 4) (by have := HS.out.sz; omega) (fun h => h)).trans HS.out.st)
    have c12 : Chg (fun q => q = G) V V2 := (CU1.out.mono fun _ _ h => h.elim).trans c2 fun _ _ h => h
    have hb1 := (c12.block (A + 1) (by have := HS.out.sz; omega) (by have := HGL.out; omega)).trans HS.out.b1
    have hb2 := (c12.block (A + 2) (by have := HS.out.sz; omega) (by have := HGL.out; omega)).trans HS.out.b2
    have hln2 := Stt.lane (a := x0) (b := x1) (g := A + 4) hst2 k
    rw [HXE.out, HP.out] at hln2
    refine hK.out _ _ ⟨by rw [cell_of_row V2 _ 0 _ _ _ hb2]; rfl, by rw [cell_of_row V2 _ 0 _ _ _ hb1]; rfl, hln2⟩ (fun hHeld => ?_)
    have hes := estep_any a (m.atL (c : Int)) R (x : Int) s V2 het HNQ.out HXK.out (by omega)
    have HES := Lib.hid hes; have HLS := Lib.hid hls; have C12 := Lib.hid c12
    clear hK K hst2 het hls c2 c12 hb1 hb2 hln2 hes HOF
    try simp only [Act.put, List.setIfInBounds_toArray, List.set_cons_zero, List.set_cons_succ]
    refine wpAnyH_ready (rs := [9]) (by kernel_rfl) (by simp) ?_
    refine AllReadyH.cons rfl (fun K hK => ?_) AllReadyH.nil
    clear hHeld
    go_simp
    refine HES.out.mono ?_
    rintro e V3 ⟨⟨-, hsays⟩, c3⟩
    obtain ⟨n5, hln, rfl⟩ := hsays ⟨by omega, by have := HXL.out; omega, by have := HF1.out; exact this⟩
    rw [Int.toNat_natCast] at hln
    simp only [Int.toNat_natCast]
    have hfl : fq (m.atL (c : Int)) s ≤ 2 ^ R := f_le HNQ.out.sum HXK.out
    have hn5 : n5 ≤ R := lefts_le (by have := HF1.out; exact this) hfl HXL.out hln
    have hnx : placeF (fq (m.atL (c : Int))) 256 s ((2 ^ R + x) / 2 ^ n5) < 2 ^ R := enc_place HXK.out HNQ.out.sum hln
    have hlow : (2 ^ R + x) % 2 ^ n5 < 2 ^ n5 := Nat.mod_lt _ (Nat.two_pow_pos _)
    have hfm : fM m c = fq (m.atL (c : Int)) := by funext t; rfl
    have hnext := enc_next (m := m) HKN.out HS.out.enc.1 (n := n5) (by rw [HCE.out, HSE.out, HR.out, HXE.out, hfm]; exact hln)
    rw [HCE.out, HSE.out, HR.out, HXE.out, hfm] at hnext
    obtain ⟨y, hy⟩ : ∃ y, placeF (fq (m.atL (c : Int))) 256 s ((2 ^ R + x) / 2 ^ n5) = y := ⟨_, rfl⟩
    obtain ⟨lo, hlo⟩ : ∃ lo, (2 ^ R + x) % 2 ^ n5 = lo := ⟨_, rfl⟩
    rw [hy] at hnx hnext ⊢
    rw [hlo] at hlow hnext ⊢
    have h2n : 2 ^ n5 ≤ 4096 := pow12 (by have := HR2.out; omega)
    have hlen5 : (bs ++ bitsOf lo n5).length ≤ xs.length * R := by
      have h1 := enc_len hnext (fam_drop (by rw [← HR.out]; exact fits_fam HFIT.out HX.out) k)
      rw [List.length_drop, prs_length] at h1
      exact Nat.le_trans h1 (Nat.mul_le_mul_right _ (by omega))
    have hsl := set_lt (i := k) (st := (x0, x1)) (N := 2 ^ R) (x := y) ⟨by rw [← HR.out]; exact HS.out.enc.2.2.1, by rw [← HR.out]; exact HS.out.enc.2.2.2⟩ hnx
    have henc : EncS m xs xs.length (RM m) k (bs ++ bitsOf lo n5) (setLane k (x0, x1) y).1 (setLane k (x0, x1) y).2 := by
      rw [HR.out]
      exact ⟨hnext, hlen5, hsl.1, hsl.2⟩
    have hcc : ∀ q, A ≤ q → q < A + 8 → V3.heap[q]? = V.heap[q]? := fun q h1 h2 => by
      have := HS.out.sz
      have := HGL.out
      have := C12.out.size
      exact (c3.block q (by omega) (fun h => h)).trans (C12.out.block q (by omega) (by omega))
    have hw3 : Wr V3 b o bs := (HS.out.wr.kept C12.out (by have h1 := HS.out.ls.lt b (.inl rfl); exact h1.2.2) (fun q hq => (HS.out.ls.lt q (.inr (.inl hq.symm))).2.2)).kept c3 (by simp) (by simp)
    have HPUT := Lib.hid (put_in b o bs (lo : Int) (n5 : Int) V3 hw3 (by have := HBL2.out; have := HNR.out; omega) (by omega) (by omega) (by omega) (by have := HR2.out; omega))
    have hc0 : V3.cell? ⟨A, 0, none⟩ = some (.pointer (some ⟨b, 0, none⟩)) := by rw [cell_of_row V3 _ 0 _ _ _ ((hcc A (by omega) (by omega)).trans HS.out.b0)]; rfl
    have hst3 := (hcc (A + 4) (by omega) (by omega)).trans HS.out.st
    have hln3 := Stt.lane (a := x0) (b := x1) (g := A + 4) hst3 k
    rw [HXE.out, HP.out] at hln3
    refine hK.out _ _ ⟨by rw [cell_of_row V3 _ 0 _ _ _ ((hcc (A + 2) (by omega) (by omega)).trans HS.out.b2)]; rfl, by rw [cell_of_row V3 _ 0 _ _ _ ((hcc (A + 1) (by omega) (by omega)).trans HS.out.b1)]; rfl, hln3⟩ (fun hHeld => ?_)
    have HENC := Lib.hid henc; have C3 := Lib.hid c3; have HCC := Lib.hid hcc; have HST3 := Lib.hid hst3
    have hyI : (y : Int) < 4096 := by have := HP2.out; omega
    have hloI : (lo : Int) < 4096 := by omega
    have hn5I : (n5 : Int) ≤ 12 := by have := HR2.out; omega
    clear hK K hln hsays c3 hfl hn5 hnx hlow hfm hnext hlen5 hsl henc hcc hw3 hst3 hln3 hy hlo h2n HES
    try simp only [Act.put, List.setIfInBounds_toArray, List.set_cons_zero, List.set_cons_succ]
    refine takeH (i := 10) 22 (.tuple #[.int .i64 (y : Int), .int .i64 (n5 : Int), .int .u32 (lo : Int), .bool true]) rfl rfl (by kernel_rfl) (by kernel_rfl) (by kernel_rfl) (fun _ _ _ h => h) (by rfl) hHeld (by intro V hV; obtain ⟨hV1, hV2, hV3⟩ := hV; go_simp) ?_
    simp only [List.setIfInBounds_toArray, List.set_cons_zero, List.set_cons_succ]
    refine takeH (i := 11) 33 (.int .i64 (y : Int)) rfl rfl (by kernel_rfl) (by kernel_rfl) (by kernel_rfl) (fun _ _ _ h => h) (by rfl) hHeld (by intro V hV; obtain ⟨hV1, hV2, hV3⟩ := hV; go_simp) ?_
    simp only [List.setIfInBounds_toArray, List.set_cons_zero, List.set_cons_succ]
    refine takeH (i := 12) 34 (.int .i64 (n5 : Int)) rfl rfl (by kernel_rfl) (by kernel_rfl) (by kernel_rfl) (fun _ _ _ h => h) (by rfl) hHeld (by intro V hV; obtain ⟨hV1, hV2, hV3⟩ := hV; go_simp) ?_
    simp only [List.setIfInBounds_toArray, List.set_cons_zero, List.set_cons_succ]
    refine takeH (i := 13) 35 (.int .u32 (lo : Int)) rfl rfl (by kernel_rfl) (by kernel_rfl) (by kernel_rfl) (fun _ _ _ h => h) (by rfl) hHeld (by intro V hV; obtain ⟨hV1, hV2, hV3⟩ := hV; go_simp) ?_
    simp only [List.setIfInBounds_toArray, List.set_cons_zero, List.set_cons_succ]
    refine takeH (i := 14) 36 (.bool true) rfl rfl (by kernel_rfl) (by kernel_rfl) (by kernel_rfl) (fun _ _ _ h => h) (by rfl) hHeld (by intro V hV; obtain ⟨hV1, hV2, hV3⟩ := hV; go_simp) ?_
    simp only [List.setIfInBounds_toArray, List.set_cons_zero, List.set_cons_succ]
    refine takeH (i := 15) 11 (.int .i64 (y : Int)) rfl rfl (by kernel_rfl) (by kernel_rfl) (by kernel_rfl) (fun _ _ _ h => h) (by rfl) hHeld (by intro V hV; obtain ⟨hV1, hV2, hV3⟩ := hV; go_simp) ?_
    simp only [List.setIfInBounds_toArray, List.set_cons_zero, List.set_cons_succ]
    refine takeH (i := 16) 12 (.int .i64 (n5 : Int)) rfl rfl (by kernel_rfl) (by kernel_rfl) (by kernel_rfl) (fun _ _ _ h => h) (by rfl) hHeld (by intro V hV; obtain ⟨hV1, hV2, hV3⟩ := hV; go_simp) ?_
    simp only [List.setIfInBounds_toArray, List.set_cons_zero, List.set_cons_succ]
    refine takeH (i := 17) 13 (.int .u32 (lo : Int)) rfl rfl (by kernel_rfl) (by kernel_rfl) (by kernel_rfl) (fun _ _ _ h => h) (by rfl) hHeld (by intro V hV; obtain ⟨hV1, hV2, hV3⟩ := hV; go_simp) ?_
    simp only [List.setIfInBounds_toArray, List.set_cons_zero, List.set_cons_succ]
    refine takeH (i := 18) 14 (.bool true) rfl rfl (by kernel_rfl) (by kernel_rfl) (by kernel_rfl) (fun _ _ _ h => h) (by rfl) hHeld (by intro V hV; obtain ⟨hV1, hV2, hV3⟩ := hV; go_simp) ?_
    simp only [List.setIfInBounds_toArray, List.set_cons_zero, List.set_cons_succ]
    refine wpAnyH_done (by kernel_rfl) ?_ _
    clear hHeld
    gi_wp2_with (refine ⟨trivial, rfl, (CallsIn.inRound l (callsIn_wide.2 HPUT.out)).mono ?_⟩; rintro e V4 ⟨rfl, o', hw4, c4, ho4⟩; have hcc4 : ∀ q, A ≤ q → q < A + 8 → V4.heap[q]? = V.heap[q]? := (fun q h1 h2 => (c4.block q (by have := HS.out.sz; have := C12.out.size; have := C3.out.size; omega) (fun hq => hq.elim (fun hq => by have := HS.out.bA; omega) (fun hq => by have := HS.out.oA q hq.symm; omega))).trans (HCC.out q h1 h2)); have hst4 := (hcc4 (A + 4) (by omega) (by omega)).trans HS.out.st; have hln4 := Stt.lane (a := x0) (b := x1) (g := A + 4) hst4 k; rw [HXE.out, HP.out] at hln4; have hfr4 := Stt.free (a := x0) (b := x1) (g := A + 4) hst4 p; have HCC4 := Lib.hid hcc4; have HW4 := Lib.hid hw4; have C4 := Lib.hid c4; have HO4 := Lib.hid ho4; clear hcc4 hw4 c4 ho4 hst4)
    have c5 := Chg.setCell V4 ⟨A + 4, p, none⟩ (.int .i64 (y : Int))
    have hD : ∀ q, A + 6 ≤ q → q < A + 8 → (V4.setCell ⟨A + 4, p, none⟩ (.int .i64 (y : Int))).heap[q]? = V.heap[q]? := fun q h1 h2 => (c5.block q (by have := HS.out.sz; have := C12.out.size; have := C3.out.size; have := C4.out.size; omega) (by simp only []; omega)).trans (HCC4.out q (by omega) (by omega))
    have hstep := HS.out.step (y := y) HLS.out C12.out C3.out HW4.out C4.out HO4.out (by simpa using HENC.out)
    rw [HP.out] at hstep
    exact ⟨⟨_, _, o', _, hstep⟩, by rw [S6.out]; exact hD (A + 6) (by omega) (by omega), by rw [S6.out]; exact hD (A + 7) (by omega) (by omega)⟩
  case hdone =>
    rintro V ⟨x0, x1, o, bs, hs⟩ hD
    rw [Nat.sub_self] at hs
    refine HK.out _ _ ?_
    simp only [Nat.add_assoc, Nat.reduceAdd]
    obtain ⟨q0, q1⟩ := hs.st.cells
    have hr0 : V.cell? ⟨A + 3, 0, none⟩ = some (.int .i64 0) := by rw [cell_of_row V _ 0 _ _ _ hs.b3]; rfl
    have hr1 : V.cell? ⟨A + 3, 1, none⟩ = some (.int .i64 0) := by rw [cell_of_row V _ 1 _ _ _ hs.b3]; rfl
    have hf0 : V.frozen? ⟨A + 3, 0, none⟩ = false := frozen_of_row V _ 0 _ _ hs.b3
    have hf1 : V.frozen? ⟨A + 3, 1, none⟩ = false := frozen_of_row V _ 1 _ _ hs.b3
    have HS := Lib.hid hs; have HD := Lib.hid hD
    clear hs hD HK
    gi_wp2
    rw [S6.out]
    have ca := Chg.setCell V ⟨A + 3, 0, none⟩ (.int .i64 (x0 : Int))
    have cb := Chg.setCell (V.setCell ⟨A + 3, 0, none⟩ (.int .i64 (x0 : Int))) ⟨A + 3, 1, none⟩ (.int .i64 (x1 : Int))
    have hsz := HS.out.sz
    have hcab : Chg (fun q => q = A + 3) V ((V.setCell ⟨A + 3, 0, none⟩ (.int .i64 (x0 : Int))).setCell ⟨A + 3, 1, none⟩ (.int .i64 (x1 : Int))) := ca.trans cb fun _ _ h => h
    have hrow : ((V.setCell ⟨A + 3, 0, none⟩ (.int .i64 (x0 : Int))).setCell ⟨A + 3, 1, none⟩ (.int .i64 (x1 : Int))).heap[A + 3]? = some (.cells #[.int .i64 (x0 : Int), .int .i64 (x1 : Int)] 51 (0, 0)) := by
      have h1 := heap_setCell_same V (A + 3) 0 _ _ (.int .i64 (x0 : Int)) HS.out.b3
      rw [heap_setCell_same _ (A + 3) 1 _ _ _ h1]; rfl
    have hD2 : ((V.setCell ⟨A + 3, 0, none⟩ (.int .i64 (x0 : Int))).setCell ⟨A + 3, 1, none⟩ (.int .i64 (x1 : Int))).heap[A + 6]? = some (.deferred (some [])) := (hcab.block _ (by omega) (by omega)).trans (by have := HD.out; rwa [S6.out] at this)
    refine ⟨by simp, .inl ⟨_, _, rfl, run_takeDeferred hD2, ?_⟩⟩
    have cd := chg_putObj ((V.setCell ⟨A + 3, 0, none⟩ (.int .i64 (x0 : Int))).setCell ⟨A + 3, 1, none⟩ (.int .i64 (x1 : Int))) (A + 6) (.deferred none)
    have hrow7 := (cd.block (A + 3) (by have := hcab.size; omega) (by omega)).trans hrow
    have hc7 : Chg (fun q => q = A + 3 ∨ q = A + 6) V _ := (hcab.mono (T := fun q => q = A + 3 ∨ q = A + 6) fun _ _ h => .inl h).trans cd fun _ _ h => .inr h
    have HROW := Lib.hid hrow7; have HC7 := Lib.hid hc7
    obtain ⟨W7, hW7⟩ : ∃ U, World.putObj ((V.setCell ⟨A + 3, 0, none⟩ (.int .i64 (x0 : Int))).setCell ⟨A + 3, 1, none⟩ (.int .i64 (x1 : Int))) (A + 6) (.deferred none) = U := ⟨_, rfl⟩
    rw [hW7] at hrow7 hc7 ⊢
    have K5 : W7.cell? ⟨A + 3, 0, none⟩ = some (.int .i64 (x0 : Int)) := by rw [cell_of_row W7 _ 0 _ _ _ hrow7]; rfl
    have K6 : W7.cell? ⟨A + 3, 1, none⟩ = some (.int .i64 (x1 : Int)) := by rw [cell_of_row W7 _ 1 _ _ _ hrow7]; rfl
    clear HROW HC7 cd hD2 hrow hcab ca cb hW7 q0 q1 hr0 hr1 hf0 hf1
    refine ⟨_, by simp [results, Tryz.results37, go_sem, K5, K6], x0, x1, rfl, bs, o, HS.out.wr.kept hc7 (by have := HS.out.bA; omega) (fun q hq he => by have := HS.out.oA q hq; omega), HS.out.enc, HS.out.ls.chg.trans hc7 fun q hq he => ?_⟩
    have := HGL.out
    have := HS.out.ls.low
    omega

end Go.Proofs.YtokeoebhmjefoaaGreat
