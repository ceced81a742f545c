/- What puncheonlaw05.awake tells: the chapter's example holds. Contracts of hist, as the laws use them. -/
import Derived.Test.YtnijfkbnggdbnaaHsHist
namespace Go.Proofs.Ytnijfkbnggdbnaa
open Go.RowKit

theorem cnt_bounds (xs : List Nat) (h : xs.length < 100000000000) : ∀ z ∈ cnt xs, -9223372036854775808 ≤ z ∧ z ≤ 9223372036854775807 := by
  intro z hz
  obtain ⟨i, hi, rfl⟩ := List.mem_iff_getElem.1 hz
  rw [cnt_length] at hi
  have := cnt_bound xs i hi
  rw [List.getD_eq_getElem?_getD, List.getElem?_eq_getElem (by rw [cnt_length]; exact hi)] at this
  simp only [Option.getD_some] at this
  omega

theorem hright_c (v : Value) (cs : List Int) (w : World) (h : RdI w v cs) (hb : ∀ z ∈ cs, -9223372036854775808 ≤ z ∧ z ≤ 9223372036854775807) (hl : cs.length < 100000000000) :
    Calls Try.prog 30 #[v] w fun e w' => e = .returned (.bool (decide (isRight cs))) ∧ Chg (fun _ => False) w w' :=
  (hright_any v cs w h hb hl).mono fun e w' ⟨h1, m, h2⟩ => ⟨h1, by rw [h2]; exact (Chg.refl _ _).drewN m⟩
theorem hmany_c (v : Value) (cs : List Int) (w : World) (h : RdI w v cs) (hb : ∀ z ∈ cs, -9223372036854775808 ≤ z ∧ z ≤ 9223372036854775807) (hl : cs.length < 100000000000) :
    Calls Try.prog 18 #[v] w fun e w' => e = .returned (.int .i64 ((manyI cs : Nat) : Int)) ∧ Chg (fun _ => False) w w' :=
  (hmany_any v cs w h hb hl).mono fun e w' ⟨h1, m, h2⟩ => ⟨h1, by rw [h2]; exact (Chg.refl _ _).drewN m⟩
theorem htotal_c (v : Value) (cs : List Int) (w : World) (h : RdI w v cs) (hb : ∀ z ∈ cs, -9223372036854775808 ≤ z ∧ z ≤ 9223372036854775807) (hl : cs.length < 100000000000) :
    Calls Try.prog 17 #[v] w fun e w' => e = .returned (.int .i64 (totalI cs)) ∧ Chg (fun _ => False) w w' :=
  (htotal_any v cs w h hb hl).mono fun e w' ⟨h1, m, h2⟩ => ⟨h1, by rw [h2]; exact (Chg.refl _ _).drewN m⟩

theorem ex_cnt : ∃ C : List Int, cnt [1, 1, 0] = C ∧ C.length = 256 ∧ C.getD 0 0 = 1 ∧ C.getD 1 0 = 2 ∧ C.getD 255 0 = 0 ∧ isRight C ∧ manyI C = 2 ∧ totalI C = 3 := by
  refine ⟨_, rfl, cnt_length _, ?_, ?_, ?_, ?_, ?_, ?_⟩ <;> decide +kernel

end Go.Proofs.Ytnijfkbnggdbnaa
