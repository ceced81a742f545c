/- DtabBits' walk. -/
import Derived.Test.YtbopamcnlocdbaaDtReach
import Derived.Deep.CutRange
namespace Go.Proofs.Ytbopamcnlocdbaa
open Go.RowKit

/-- what two cells of a table are to each other -/
theorem IsDtab.two {f : Nat → Nat} {R : Nat} {l : List Cl} (h : IsDtab f R l) (hs : sumTo f 256 = 2 ^ R) {a b : Nat} (ha : a < 2 ^ R) (hb : b < 2 ^ R) (hf : f (l.getD b cl0).Sym ≤ f (l.getD a cl0).Sym) : (l.getD a cl0).Bits ≤ (l.getD b cl0).Bits + 1 := by
  obtain ⟨s, d, hs1, hd, -, he⟩ := h.is hs ha
  obtain ⟨t, c, ht1, hc, -, hf2⟩ := h.is hs hb
  rw [he, hf2] at hf ⊢
  have e1 : (cellOf R s (f s + d)).Bits = ((bitsN R (f s + d) : Nat) : Int) := rfl
  have e2 : (cellOf R t (f t + c)).Bits = ((bitsN R (f t + c) : Nat) : Int) := rfl
  have hf : f t ≤ f s := hf
  have ht := f_le hs ht1
  have := bits_near (R := R) (p := f s) (q := f t) (i := f s + d) (j := f t + c) (by omega) hf (by omega) (by omega) (by omega) (by rw [two_pow_succ]; omega)
  rw [e1, e2]
  omega

set_option maxHeartbeats 4000000 in
theorem dtabBits_walk (v : Value) (xs : List Nat) (r a b : Nat) (w : World) (h : RdH w v xs) (hx : ∀ x ∈ xs, x < 65536) (hr : r < 256) (ha : a < 65536) (hb : b < 65536) :
    Calls Try.prog 6 #[v, .int .u8 (r : Int), .int .u16 (a : Int), .int .u16 (b : Int)] w fun e w' => e = .returned (.bool true) ∧ Chg (fun _ => False) w w' := by
  obtain ⟨ao, cap, rfl⟩ := h.form
  have H := Lib.hid h; have HX := Lib.hid hx
  clear h hx
  go_enter Try.func6, Try.ntmps6
  go_wp2_with fail
  refine (awake11_any _).mono ?_
  rintro e w1 ⟨rfl, hc⟩
  have HC := Lib.hid hc
  clear hc
  by_cases h80 : 80 < xs.length
  · have d3 : decide (80 < (xs.length : Int)) = true := decide_eq_true (by omega)
    go_wp2
    go_ret
    exact ⟨rfl, HC.out⟩
  · have d3 : decide (80 < (xs.length : Int)) = false := decide_eq_false (by omega)
    go_wp2_with fail
    refine (r8some_any _ xs r _ (H.out.kept HC.out (by simp)) HX.out (by omega) hr).mono ?_
    rintro e w2 ⟨v2, q, k, rfl, ho, hq, hk5, hk9, hc2⟩
    replace HC := Lib.hid (HC.out.trans hc2 fun _ _ h => h)
    have HQ := Lib.hid hq
    have hof := dof_any _ q w2 ho.rd hq.bnd (by rw [hq.1]; omega)
    have HOF := Lib.hid hof
    have HRQ := Lib.hid ho.rd
    obtain ⟨g, off, cap2, rfl, -⟩ := ho
    have hn6 := hq.1
    obtain ⟨n, hn⟩ : ∃ n, q.length = n := ⟨_, rfl⟩
    rw [hn] at HOF HRQ hn6 ⊢
    have HK9 := Lib.hid hk9; have HK5 := Lib.hid hk5; have HN6 := Lib.hid hn6
    have hk64 : (k : Int) < 64 := by omega
    clear hq hc2 hk5 hk9 hn hof hn6
    go_wp2_with fail
    refine (HOF.out).mono ?_
    rintro e w3 ⟨v3, rfl, hyes, -, hc3⟩
    have hlog := HQ.out.log
    have hk0 : logI (totalI q) ≠ 0 := by rw [hlog]; have := HK5.out; omega
    rw [if_neg hk0]
    obtain ⟨c, hrd, hdt⟩ := hyes hk0
    rw [hlog] at hdt
    have hsum := HQ.out.sum
    have hk12 : k ≤ 12 := by have := HK9.out; omega
    have hsz := HQ.out.size
    have hlen := hdt.len
    have hbd := fun a ha => hdt.bounds hsum hk12 (a := a) ha
    have htwo := fun a b ha hb => hdt.two hsum (a := a) (b := b) ha hb
    obtain ⟨L, hL⟩ : ∃ L, 2 ^ k = L := ⟨_, rfl⟩
    have hL0 : 0 < L := by rw [← hL]; exact Nat.two_pow_pos k
    have hLI : (2 : Int) ^ k = (L : Int) := by rw [← hL]; simp
    rw [hL] at hlen hsz hbd htwo
    obtain ⟨ao3, cap3, rfl⟩ := hrd.form
    obtain ⟨g3, off3, rfl, -⟩ := hrd.at 0 (by rw [hlen]; exact hL0)
    rw [hlen] at hrd ⊢
    replace HC := Lib.hid (HC.out.trans hc3 fun _ _ h => h)
    replace HRQ := Lib.hid (HRQ.out.kept hc3 (by simp))
    obtain ⟨i, hi⟩ : ∃ i, a % L = i := ⟨_, rfl⟩
    have hiL : i < L := by rw [← hi]; exact Nat.mod_lt _ hL0
    have hiI : (a : Int) % (L : Int) = (i : Int) := by rw [← hi]; rfl
    have hiT : (a : Int).tmod (L : Int) = (i : Int) := by rw [Int.tmod_eq_emod_of_nonneg (by omega)]; exact hiI
    obtain ⟨j, hj⟩ : ∃ j, b % L = j := ⟨_, rfl⟩
    have hjL : j < L := by rw [← hj]; exact Nat.mod_lt _ hL0
    have hjI : (b : Int) % (L : Int) = (j : Int) := by rw [← hj]; rfl
    have hjT : (b : Int).tmod (L : Int) = (j : Int) := by rw [Int.tmod_eq_emod_of_nonneg (by omega)]; exact hjI
    have hLne : ((L : Int) == 0) = false := by simp; omega
    have hLne2 : ¬ (L : Int) = 0 := by omega
    obtain ⟨a0, a1, a2⟩ := hrd.at' i (by rw [hlen]; exact hiL)
    have hbi := hbd i hiL
    have hbj := hbd j hjL
    have ht1 := htwo i j hiL hjL
    obtain ⟨ci, hci⟩ : ∃ ci, c.getD i cl0 = ci := ⟨_, rfl⟩
    obtain ⟨cj, hcj⟩ : ∃ cj, c.getD j cl0 = cj := ⟨_, rfl⟩
    rw [hci] at hbi ht1 a0 a1 a2
    rw [hcj] at hbj ht1
    have hiLI : (i : Int) < (L : Int) := by omega
    have hjLI : (j : Int) < (L : Int) := by omega
    have hL4 : (L : Int) ≤ 4096 := by omega
    obtain ⟨sx, bxi, ex⟩ := ci
    obtain ⟨sy, byi, ey⟩ := cj
    simp only [] at hbi hbj ht1 a0 a1 a2
    obtain ⟨bx, rfl⟩ : ∃ bx : Nat, bxi = (bx : Int) := ⟨bxi.toNat, by omega⟩
    rw [Int.toNat_natCast] at hbi
    obtain ⟨W1, hW1⟩ : ∃ W1, w3.alloc (.cells #[.int .u8 (sx : Int), .int .i64 (bx : Int), .int .i64 ex] 37) = W1 := ⟨_, rfl⟩
    have c1 : Chg (fun _ => False) w3 W1 := by rw [← hW1]; exact Chg.alloc _ _ _
    have n1 : W1.heap[w3.heap.size]? = some (.cells #[.int .u8 (sx : Int), .int .i64 (bx : Int), .int .i64 ex] 37) := by rw [← hW1]; exact heap_alloc_new _ _
    have hsz1 : w3.heap.size < W1.heap.size := lt_of_block n1
    obtain ⟨b0, b1, b2⟩ := (hrd.kept c1 (by simp)).at' j (by rw [hlen]; exact hjL)
    rw [hcj] at b0 b1 b2
    simp only [] at b0 b1 b2
    obtain ⟨W2, hW2⟩ : ∃ W2, W1.alloc (.cells #[.int .u8 (sy : Int), .int .i64 byi, .int .i64 ey] 37) = W2 := ⟨_, rfl⟩
    have c2 : Chg (fun _ => False) W1 W2 := by rw [← hW2]; exact Chg.alloc _ _ _
    have n2 : W2.heap[W1.heap.size]? = some (.cells #[.int .u8 (sy : Int), .int .i64 byi, .int .i64 ey] 37) := by rw [← hW2]; exact heap_alloc_new _ _
    have n1' : W2.heap[w3.heap.size]? = some (.cells #[.int .u8 (sx : Int), .int .i64 (bx : Int), .int .i64 ex] 37) := by
      rw [c2.block w3.heap.size hsz1 (by simp)]; exact n1
    have x0 := cell_of_row W2 w3.heap.size 0 _ _ _ n1'
    have x1 := cell_of_row W2 w3.heap.size 1 _ _ _ n1'
    have x2 := cell_of_row W2 w3.heap.size 2 _ _ _ n1'
    have y0 := cell_of_row W2 W1.heap.size 0 _ _ _ n2
    have y1 := cell_of_row W2 W1.heap.size 1 _ _ _ n2
    have y2 := cell_of_row W2 W1.heap.size 2 _ _ _ n2
    simp only [List.getElem?_toArray, List.getElem?_cons_zero, List.getElem?_cons_succ] at x0 x1 x2 y0 y1 y2
    have c02 : Chg (fun _ => False) w3 W2 := c1.trans c2 fun _ _ h => h
    have hqx := HQ.out.cell (HRQ.out.kept c02 (by simp)) sx hbi.1
    have hqy := HQ.out.cell (HRQ.out.kept c02 (by simp)) sy hbj.1
    have hsxn : (sx : Int) < (n : Int) := by have := HN6.out; have := hbi.1; omega
    have hsyn : (sy : Int) < (n : Int) := by have := HN6.out; have := hbj.1; omega
    obtain ⟨B, hB⟩ : ∃ B, 2 ^ bx = B := ⟨_, rfl⟩
    have hBx : (2 : Int) ^ bx = (B : Int) := by rw [← hB]; simp
    have hbx64 : (bx : Int) < 64 := by omega
    rw [hB] at hbi
    have hsame : sx = sy → (bx : Int) - byi ≤ 1 := fun hh => by
      have := ht1 (by rw [hh]; exact Nat.le_refl _); omega
    have HC2 := Lib.hid (HC.out.trans c02 fun _ _ h => h)
    obtain ⟨gx, hgx⟩ : ∃ gx, w3.heap.size = gx := ⟨_, rfl⟩
    obtain ⟨gy, hgy⟩ : ∃ gy, W1.heap.size = gy := ⟨_, rfl⟩
    have e1 : ex + (B : Int) ≤ (L : Int) := by omega
    have e0 : 0 ≤ ex := by omega
    have hbj2 : 0 ≤ byi ∧ byi ≤ 12 := by omega
    obtain ⟨F, hF⟩ : ∃ F, fq q sx = F := ⟨_, rfl⟩
    obtain ⟨G, hG⟩ : ∃ G, fq q sy = G := ⟨_, rfl⟩
    rw [hF] at hqx ht1
    rw [hG] at hqy ht1
    rw [hgx] at x0 x1 x2
    rw [hgy] at y0 y1 y2
    have HT1 := Lib.hid ht1; have HSAME := Lib.hid hsame; have HBI := Lib.hid hbi; have HBJ := Lib.hid hbj
    have hB4 : (B : Int) ≤ 4096 := by omega
    have hbx12 : (bx : Int) ≤ 12 := by omega
    have wr1 : wrap64 ((bx : Int) - byi) = (bx : Int) - byi := by unfold wrap64; omega
    have wr2 : wrap64 (byi + 1) = byi + 1 := by unfold wrap64; omega
    have wr3 : wrap64 (ex + (B : Int)) = ex + (B : Int) := by unfold wrap64; omega
    clear hyes hc3 hrd hdt hsum hlen hbd htwo hlog hk0 hL hL0 hsz hi hj hiL hjL hci hcj n1 n2 n1' c1 c2 c02 hB hF hG hsz1 ht1 hsame hbi hbj
    have d0 : decide ((0 : Int) ≤ ex) = true := decide_eq_true e0
    have d1 : decide (ex + (B : Int) ≤ (L : Int)) = true := decide_eq_true e1
    go_upto_region 10 with fail
    clear a0 a1 a2 b0 b1 b2 hW1 hW2 hgx hgy
    by_cases hss : sx = sy
    · have hd := HSAME.out hss
      have d2 : decide (1 < (bx : Int) - byi) = false := decide_eq_false (by omega)
      have d3' : decide ((bx : Int) ≤ byi + 1) = true := decide_eq_true (by omega)
      subst hss
      by_cases hFG : F < G
      · have d4 : decide ((F : Int) < (G : Int)) = true := decide_eq_true (by omega)
        go_wp2
        go_quiet (fail)
        go_wp2
        go_ret
        exact ⟨rfl, HC2.out.drewN nq⟩
      · have d4 : decide ((F : Int) < (G : Int)) = false := decide_eq_false (by omega)
        go_wp2
        go_quiet (fail)
        go_wp2
        go_ret
        exact ⟨rfl, HC2.out.drewN nq⟩
    · have hsn : ((sx : Int) == (sy : Int)) = false := by simp; omega
      by_cases hFG : F < G
      · have d4 : decide ((F : Int) < (G : Int)) = true := decide_eq_true (by omega)
        go_wp2
        go_quiet (fail)
        go_wp2
        go_ret
        exact ⟨rfl, HC2.out.drewN nq⟩
      · have hd := HT1.out (by omega)
        have d3' : decide ((bx : Int) ≤ byi + 1) = true := decide_eq_true (by omega)
        have d4 : decide ((F : Int) < (G : Int)) = false := decide_eq_false (by omega)
        go_wp2
        go_quiet (fail)
        go_wp2
        go_ret
        exact ⟨rfl, HC2.out.drewN nq⟩

end Go.Proofs.Ytbopamcnlocdbaa
