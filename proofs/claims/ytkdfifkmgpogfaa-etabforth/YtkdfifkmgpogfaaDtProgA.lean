/- What dtab's cell, mayBeMany, fitted and Step tell. THIS SPEAKS OF THE PROGRAM'S OWN TEXT. -/
import Derived.Test.YtkdfifkmgpogfaaDtOf
import Derived.Test.YtkdfifkmgpogfaaLgProg
import Derived.Handy
import Derived.BigQuiet
namespace Go.Proofs.Ytkdfifkmgpogfaa
open Go.RowKit

/-- may it be gone on from x with more? -/
def canC (l : List Cl) (x : Int) (more : Nat) : Prop := 0 ≤ x ∧ x < (l.length : Int) ∧ 0 ≤ (l.getD x.toNat cl0).Bits ∧ (l.getD x.toNat cl0).Bits ≤ 24 ∧ more < 2 ^ (l.getD x.toNat cl0).Bits.toNat
instance (l : List Cl) (x : Int) (more : Nat) : Decidable (canC l x more) := by unfold canC; infer_instance
def stepS (l : List Cl) (x : Int) (more : Nat) : Nat := if canC l x more then (l.getD x.toNat cl0).Sym else 0
def stepN (l : List Cl) (x : Int) (more : Nat) : Int := if canC l x more then (l.getD x.toNat cl0).Base + (more : Int) else 0
/-- no base is out of what is promised -/
def baseOk (l : List Cl) (x : Int) : Prop := 0 ≤ x → x < (l.length : Int) → -1099511627776 ≤ (l.getD x.toNat cl0).Base ∧ (l.getD x.toNat cl0).Base ≤ 1099511627776

/-- a block that holds a cell -/
def Cb (w : World) (g : Nat) (c : Cl) : Prop := w.heap[g]? = some (.cells #[.int .u8 (c.Sym : Int), .int .i64 c.Bits, .int .i64 c.Base] 48 (0, 0))
theorem Cb.cells {w : World} {g : Nat} {c : Cl} (h : Cb w g c) : w.cell? ⟨g, 0, none⟩ = some (.int .u8 (c.Sym : Int)) ∧ w.cell? ⟨g, 1, none⟩ = some (.int .i64 c.Bits) ∧ w.cell? ⟨g, 2, none⟩ = some (.int .i64 c.Base) := by
  refine ⟨?_, ?_, ?_⟩
  · rw [cell_of_row _ _ 0 _ _ _ h]; rfl
  · rw [cell_of_row _ _ 1 _ _ _ h]; rfl
  · rw [cell_of_row _ _ 2 _ _ _ h]; rfl
theorem Cb.kept {S : Nat → Prop} {w w' : World} {g : Nat} {c : Cl} (h : Cb w g c) (hc : Chg S w w') (hS : ¬ S g) : Cb w' g c := (hc.block g (lt_of_block h) hS).trans h
theorem Cb.free {w : World} {g : Nat} {c : Cl} (h : Cb w g c) (k : Nat) : w.frozen? ⟨g, k, none⟩ = false := frozen_of_row w g k _ _ h
/-- a cell is laid into a block -/
def C3 (w : World) (g : Nat) (c : Cl) : World := ((w.setCell ⟨g, 0, none⟩ (.int .u8 (c.Sym : Int))).setCell ⟨g, 1, none⟩ (.int .i64 c.Bits)).setCell ⟨g, 2, none⟩ (.int .i64 c.Base)
theorem C3_chg (w : World) (g : Nat) (c : Cl) : Chg (fun q => q = g) w (C3 w g c) :=
  ((Chg.setCell w ⟨g, 0, none⟩ _).trans (Chg.setCell _ ⟨g, 1, none⟩ _) fun _ _ h => h).trans (Chg.setCell _ ⟨g, 2, none⟩ _) fun _ _ h => h
theorem C3_cb {w : World} {g : Nat} {c0 : Cl} (h : Cb w g c0) (c : Cl) : Cb (C3 w g c) g c := by
  have h1 := heap_setCell_same w g 0 _ _ (.int .u8 (c.Sym : Int)) h
  have h2 := heap_setCell_same _ g 1 _ _ (.int .i64 c.Bits) h1
  have h3 := heap_setCell_same _ g 2 _ _ (.int .i64 c.Base) h2
  exact h3
theorem C3_cells {w : World} {g : Nat} {c0 : Cl} (h : Cb w g c0) (S : Nat) (I B : Int) :
    (w.setCell ⟨g, 0, none⟩ (.int .u8 (S : Int))).cell? ⟨g, 0, none⟩ = some (.int .u8 (S : Int)) ∧ ((w.setCell ⟨g, 0, none⟩ (.int .u8 (S : Int))).setCell ⟨g, 1, none⟩ (.int .i64 I)).cell? ⟨g, 1, none⟩ = some (.int .i64 I) ∧ (C3 w g ⟨S, I, B⟩).cell? ⟨g, 2, none⟩ = some (.int .i64 B) := by
  have h1 := heap_setCell_same w g 0 _ _ (.int .u8 (S : Int)) h
  have h2 := heap_setCell_same _ g 1 _ _ (.int .i64 I) h1
  have h3 := heap_setCell_same _ g 2 _ _ (.int .i64 B) h2
  exact ⟨by rw [cell_of_row _ _ 0 _ _ _ h1]; rfl, by rw [cell_of_row _ _ 1 _ _ _ h2]; rfl, by unfold C3; rw [cell_of_row _ _ 2 _ _ _ h3]; rfl⟩
theorem zeroCell (W : World) : (zeroValue 48).run Try.prog W = .ok (.agg #[.int .u8 0, .int .i64 0, .int .i64 0]) W := by kernel_rfl

set_option maxHeartbeats 600000 in
theorem dcell_any (s i k : Nat) (w : World) (h1 : 1 ≤ i) (h2 : i < 2 ^ (k + 1)) (hk : k ≤ 12) :
    Calls Try.prog 32 #[.int .u8 (s : Int), .int .i64 (i : Int), .int .i64 (k : Int)] w fun e w' => e = .returned (.agg #[.int .u8 ((cellOf k s i).Sym : Int), .int .i64 (cellOf k s i).Bits, .int .i64 (cellOf k s i).Base]) ∧ Chg (fun _ => False) w w' := by
  have hlg : Nat.log2 i ≤ k := log2_lt h1 h2
  have hi8 : i ≤ 8192 := by
    have : 2 ^ (k + 1) ≤ 2 ^ 13 := Nat.pow_le_pow_right (by decide) (by omega)
    omega
  have hfl := fun W => lfloor_w (i : Int) W (by omega) (by omega)
  have hfi : floorI (i : Int) = Nat.log2 i := by unfold floorI; rw [Int.toNat_natCast]
  rw [hfi] at hfl
  obtain ⟨lj, hlj⟩ : ∃ lj, Nat.log2 i = lj := ⟨_, rfl⟩
  obtain ⟨b, hb⟩ : ∃ b, bitsN k i = b := ⟨_, rfl⟩
  have hbI : (k : Int) - ((lj : Nat) : Int) = (b : Int) := by rw [← hb, ← hlj]; unfold bitsN; omega
  have hb12 : b ≤ 12 := by rw [← hb]; unfold bitsN; omega
  obtain ⟨B, hB⟩ : ∃ B, 2 ^ b = B := ⟨_, rfl⟩
  have hBI : (2 : Int) ^ b = (B : Int) := by rw [← hB]; simp
  obtain ⟨L, hL⟩ : ∃ L, 2 ^ k = L := ⟨_, rfl⟩
  have hLI : (2 : Int) ^ k = (L : Int) := by rw [← hL]; simp
  have hL4 : L ≤ 4096 := by rw [← hL]; exact pow12 hk
  obtain ⟨X, hX⟩ : ∃ X, i * B = X := ⟨_, rfl⟩
  have hXI : (i : Int) * (B : Int) = (X : Int) := by rw [← hX]; simp
  have hB4 : B ≤ 4096 := by rw [← hB]; exact pow12 hb12
  have hX4 : X ≤ 33554432 := by rw [← hX]; exact Nat.le_trans (Nat.mul_le_mul hi8 hB4) (by decide)
  have hcl : cellOf k s i = ⟨s, (b : Int), (X : Int) - (L : Int)⟩ := by unfold cellOf; rw [hb, hB, hX, hL]
  rw [hcl]
  simp only []
  rw [hlj] at hfl
  have hcb : Cb (w.alloc (.cells #[.int .u8 0, .int .i64 0, .int .i64 0] 48)) w.heap.size cl0 := heap_alloc_new w _
  have hc0 := Chg.alloc (fun _ => False) w (.cells #[.int .u8 0, .int .i64 0, .int .i64 0] 48)
  have hz := zeroCell
  obtain ⟨W0, hW0⟩ : ∃ W0, w.alloc (.cells #[.int .u8 0, .int .i64 0, .int .i64 0] 48) = W0 := ⟨_, rfl⟩
  rw [hW0] at hcb hc0
  obtain ⟨G, hG⟩ : ∃ G, w.heap.size = G := ⟨_, rfl⟩
  rw [hG] at hcb
  have h3 := C3_cb hcb ⟨s, (b : Int), (X : Int) - (L : Int)⟩
  have hcc : Chg (fun _ => False) w (C3 W0 G ⟨s, (b : Int), (X : Int) - (L : Int)⟩) := hc0.trans (C3_chg W0 G ⟨s, (b : Int), (X : Int) - (L : Int)⟩) fun q hq he => by omega
  obtain ⟨u0, u1, u2⟩ := h3.cells
  obtain ⟨y0, y1, y2⟩ := C3_cells hcb s (b : Int) ((X : Int) - (L : Int))
  obtain ⟨z0, z1, z2⟩ := hcb.cells
  have f0 := hcb.free 0
  have f1 := hcb.free 1
  have f2 := hcb.free 2
  unfold C3 at u0 u1 u2 hcc y2
  simp only [] at u0 u1 u2 hcc z0 z1 z2 y2
  have HCC := Lib.hid hcc
  have hb64 : (b : Int) < 64 := by omega
  have hk64 : (k : Int) < 64 := by omega
  have hw0 : IntKind.i64.wrap (b : Int) = (b : Int) := by rw [IntKind.wrap_i64]; omega
  have hw2 : IntKind.i64.wrap (B : Int) = (B : Int) := by rw [IntKind.wrap_i64]; omega
  have hw5 : IntKind.i64.wrap (L : Int) = (L : Int) := by rw [IntKind.wrap_i64]; omega
  have hw3 : IntKind.i64.wrap (X : Int) = (X : Int) := by rw [IntKind.wrap_i64]; omega
  have hw4 : IntKind.i64.wrap ((X : Int) - (L : Int)) = (X : Int) - (L : Int) := by rw [IntKind.wrap_i64]; omega
  have HFL := Lib.hid hfl
  have hljI : (lj : Int) ≤ 12 := by omega
  have hkI : (k : Int) ≤ 12 := by omega
  have hbI0 : (b : Int) ≤ 12 := by omega
  have hiI : (i : Int) ≤ 8192 := by omega
  clear hcc h3 hcb hc0 hcl hX hB hL hb hlj hfl hfi hlg hi8 h1 h2 hk hb12 hL4 hB4 hX4
  go_enter Try.func32, Try.ntmps32
  go_wp2_with fail
  refine (HFL.out _).mono ?_
  rintro e w1 ⟨rfl, rfl⟩
  go_wp2
  go_region
  go_wp2
  refine bodyPost_ret (v := .agg #[.int .u8 (s : Int), .int .i64 (b : Int), .int .i64 ((X : Int) - (L : Int))]) (by simp [results, Try.results32, go_sem, y0, y1, y2]; try rfl) rfl ?_
  exact ⟨rfl, HCC.out.drew⟩

/-- there is a table of so many states -/
def IsPow (n : Int) : Prop := ∃ R, 1 ≤ R ∧ R ≤ 12 ∧ n = ((2 ^ R : Nat) : Int)
theorem IsPow.iff {n : Int} (h2 : 2 ≤ n) (h4 : n ≤ 4096) : floorI n = ceilI n ↔ IsPow n := by
  have hbo := both_at (n := n) (by omega)
  rw [eq_comm, hbo]
  refine ⟨fun h => ⟨floorI n, ?_, ?_, h⟩, fun ⟨R, hR, _, he⟩ => ?_⟩
  · have h1 : floorI n ≠ 0 := fun h0 => by rw [h0] at h; simp at h; omega
    omega
  · have : floorI n < 13 := lt_of_pow (a := floorI n) (b := 13) (by have : (2:Nat) ^ 13 = 8192 := rfl; omega)
    omega
  · rw [he, floor_at]
theorem IsPow.bnd {n : Int} (h : IsPow n) : 2 ≤ n ∧ n ≤ 4096 := by
  obtain ⟨R, h1, h2, rfl⟩ := h
  have := pow12 h2
  have : 2 ^ 1 ≤ 2 ^ R := Nat.pow_le_pow_right (by decide) h1
  omega

set_option maxHeartbeats 600000 in
theorem dstep_any (v : Value) (l : List Cl) (x : Int) (more : Nat) (w : World) (h : RdC w v l) (hf : ∀ c ∈ l, c.fits) (hl : l.length < 100000000000) (hx : -9223372036854775808 ≤ x ∧ x ≤ 9223372036854775807) (hm : more < 4294967296) (hb : baseOk l x) :
    Calls Try.prog 18 #[v, .int .i64 x, .int .u32 (more : Int)] w fun e w' => e = .returned (.tuple #[.int .u8 ((stepS l x more : Nat) : Int), .int .i64 (stepN l x more), .bool (decide (canC l x more))]) ∧ Chg (fun _ => False) w w' := by
  obtain ⟨ao, cap, rfl⟩ := h.form
  by_cases h0 : x < 0
  · have hn : ¬ canC l x more := fun hc => by have := hc.1; omega
    unfold stepS stepN
    rw [if_neg hn, if_neg hn, decide_eq_false hn]
    have d0 : decide (x < 0) = true := decide_eq_true h0
    clear hf hl h hb hn hx
    go_enter Try.func18, Try.ntmps18
    go_wp2
    go_returns
    exact ⟨rfl, Chg.refl _ _⟩
  · have d0 : decide (x < 0) = false := decide_eq_false h0
    by_cases h1 : (l.length : Int) ≤ x
    · have hn : ¬ canC l x more := fun hc => by have := hc.2.1; omega
      unfold stepS stepN
      rw [if_neg hn, if_neg hn, decide_eq_false hn]
      have d1 : decide ((l.length : Int) ≤ x) = true := decide_eq_true h1
      clear hf hl h hb hn hx
      go_enter Try.func18, Try.ntmps18
      go_wp2
      go_returns
      exact ⟨rfl, Chg.refl _ _⟩
    · obtain ⟨j, rfl⟩ : ∃ j : Nat, x = (j : Int) := ⟨x.toNat, by omega⟩
      have hj : j < l.length := by omega
      have d1 : decide ((l.length : Int) ≤ (j : Int)) = false := decide_eq_false h1
      obtain ⟨g, off, rfl, a0, a1, a2⟩ := h.at j hj
      have hbj := hb (by omega) (by omega)
      rw [Int.toNat_natCast] at hbj
      have hcan : canC l (j : Int) more ↔ (0 ≤ (l.getD j cl0).Bits ∧ (l.getD j cl0).Bits ≤ 24 ∧ more < 2 ^ (l.getD j cl0).Bits.toNat) := by
        unfold canC
        rw [Int.toNat_natCast]
        exact ⟨fun h => h.2.2, fun h => ⟨by omega, by omega, h⟩⟩
      have hfit := hf (l.getD j cl0) (by rw [List.getD_eq_getElem?_getD, List.getElem?_eq_getElem hj]; exact List.getElem_mem hj)
      obtain ⟨D, hD⟩ : ∃ D, decide (canC l (j : Int) more) = D := ⟨_, rfl⟩
      obtain ⟨P, hP⟩ : ∃ P, stepS l (j : Int) more = P := ⟨_, rfl⟩
      obtain ⟨N, hN⟩ : ∃ N, stepN l (j : Int) more = N := ⟨_, rfl⟩
      rw [hD, hP, hN]
      have hno : ¬ (0 ≤ (l.getD j cl0).Bits ∧ (l.getD j cl0).Bits ≤ 24 ∧ more < 2 ^ (l.getD j cl0).Bits.toNat) → D = false ∧ P = 0 ∧ N = 0 := fun hn => by
        rw [← hD, ← hP, ← hN]
        unfold stepS stepN
        rw [← hcan] at hn
        rw [if_neg hn, if_neg hn]
        exact ⟨decide_eq_false hn, rfl, rfl⟩
      have hyes : (0 ≤ (l.getD j cl0).Bits ∧ (l.getD j cl0).Bits ≤ 24 ∧ more < 2 ^ (l.getD j cl0).Bits.toNat) → D = true ∧ P = (l.getD j cl0).Sym ∧ N = (l.getD j cl0).Base + (more : Int) := fun hn => by
        rw [← hD, ← hP, ← hN]
        unfold stepS stepN
        rw [← hcan] at hn
        rw [if_pos hn, if_pos hn, Int.toNat_natCast]
        exact ⟨decide_eq_true hn, rfl, rfl⟩
      clear hcan hb hf hD hP hN
      obtain ⟨c, hc⟩ : ∃ c, l.getD j cl0 = c := ⟨_, rfl⟩
      rw [hc] at a0 a1 a2 hbj hfit hno hyes
      clear hc
      obtain ⟨s, bi, ba⟩ := c
      unfold Cl.fits at hfit
      simp only [] at a0 a1 a2 hbj hfit hno hyes
      obtain ⟨-, ⟨fb0, fb1⟩, -⟩ := hfit
      obtain ⟨W1, hW1⟩ : ∃ W1, w.alloc (.cells #[.int .u8 (s : Int), .int .i64 bi, .int .i64 ba] 48) = W1 := ⟨_, rfl⟩
      have c1 : Chg (fun _ => False) w W1 := by rw [← hW1]; exact Chg.alloc _ _ _
      have n1 : Cb W1 w.heap.size ⟨s, bi, ba⟩ := by rw [← hW1]; exact heap_alloc_new _ _
      obtain ⟨b0, b1, b2⟩ := n1.cells
      simp only [] at b0 b1 b2
      obtain ⟨gx, hgx⟩ : ∃ gx, w.heap.size = gx := ⟨_, rfl⟩
      rw [hgx] at b0 b1 b2
      have HC := Lib.hid c1
      have hjl : (j : Int) < (l.length : Int) := by omega
      have hjn : ¬ l.length ≤ j := by omega
      obtain ⟨n, hn⟩ : ∃ n, l.length = n := ⟨_, rfl⟩
      rw [hn] at d1 hjl hjn ⊢
      clear c1 n1 h hj hl hn h1 h0
      by_cases e0 : bi < 0
      · obtain ⟨rfl, rfl, rfl⟩ := hno fun hc => by omega
        have d2 : decide (bi < 0) = true := decide_eq_true e0
        clear hx hbj hno hyes
        go_enter Try.func18, Try.ntmps18
        go_wp2
        go_returns
        exact ⟨rfl, HC.out⟩
      · have d2 : decide (bi < 0) = false := decide_eq_false e0
        by_cases e1 : 24 < bi
        · obtain ⟨rfl, rfl, rfl⟩ := hno fun hc => by omega
          have d3 : decide (24 < bi) = true := decide_eq_true e1
          clear hx hbj hno hyes
          go_enter Try.func18, Try.ntmps18
          go_wp2
          go_returns
          exact ⟨rfl, HC.out⟩
        · have d3 : decide (24 < bi) = false := decide_eq_false e1
          obtain ⟨b, rfl⟩ : ∃ b : Nat, bi = (b : Int) := ⟨bi.toNat, by omega⟩
          rw [Int.toNat_natCast] at hno hyes
          have hb24 : b ≤ 24 := by omega
          have hbI : (b : Int) ≤ 24 := by omega
          obtain ⟨B, hB⟩ : ∃ B, 2 ^ b = B := ⟨_, rfl⟩
          have hBI : (2 : Int) ^ b = (B : Int) := by rw [← hB]; simp
          have hB24 : B ≤ 16777216 := by rw [← hB]; exact Nat.pow_le_pow_right (n := 2) (by decide) hb24
          have hBl : (B : Int) ≤ 16777216 := by omega
          rw [hB] at hno hyes
          clear hB
          by_cases e2 : more < B
          · obtain ⟨rfl, rfl, rfl⟩ := hyes ⟨by omega, hbI, e2⟩
            have d4 : decide ((B : Int) ≤ (more : Int)) = false := decide_eq_false (by omega)
            have e3 : ¬ B ≤ more := by omega
            have hw1 : IntKind.i64.wrap (more : Int) = (more : Int) := by rw [IntKind.wrap_i64]; omega
            have hw2 : IntKind.i64.wrap (ba + (more : Int)) = ba + (more : Int) := by rw [IntKind.wrap_i64]; omega
            have hw3 : IntKind.u32.wrap (B : Int) = (B : Int) := by rw [IntKind.wrap_u32]; omega
            clear hno hyes hx hb24 hB24
            go_enter Try.func18, Try.ntmps18
            go_wp2
            go_quiet (fail)
            go_wp2
            go_returns
            exact ⟨rfl, HC.out.drewN _⟩
          · obtain ⟨rfl, rfl, rfl⟩ := hno fun hc => e2 hc.2.2
            have e3 : B ≤ more := by omega
            have d4 : decide ((B : Int) ≤ (more : Int)) = true := decide_eq_true (by omega)
            have hw3 : IntKind.u32.wrap (B : Int) = (B : Int) := by rw [IntKind.wrap_u32]; omega
            clear hx hbj hno hyes hb24 hB24
            go_enter Try.func18, Try.ntmps18
            go_wp2
            go_returns
            exact ⟨rfl, HC.out⟩

end Go.Proofs.Ytkdfifkmgpogfaa
