/-
  No cell of these rows narrows 'for every input' (looked for: loops, veiled, ifaces, maps, wideKeys, modest, calm, conditions, laid).
  DERIVED. THE GIVEN ROWS OF THIS SEAT. 5 by the template 'for every input the law returns true; each argument reads behind the call as it read before'; 0 by the template 'total and deterministic' (their statements: YtoajgiefjkibeaaTotals.lean).
  GIVEN WITH THE SEED: the statements are not yours to turn. If you find one false, say at which input.
  Laid BY PROGRAM, IN A SANDBOX (cutbox-rows.mjs): the forced cells as the released guide's own fill.sh prints them over the translation b19b64625af17d3c… (all of the seat's roots in one cut). By AI agents, Wed Nov 11 2026. No macro, syntax, notation, axiom, sorry.
-/
import Derived.Test.YtoajgiefjkibeaaChecked
import GoSem.Claim
import GoSem.ClaimJoined
import GoSem.ClaimMapViews
import Derived.JoinedTies
import Derived.KernelRfl
namespace Go.Proofs.Ytoajgiefjkibeaa
/- THE CELL 'sum', in the pinned program and in every row, IS THE sha256 OF THE DUMP (.gsa) THAT YtoajgiefjkibeaaProg.lean LOADS. Nothing in Lean hashes anything: it is a label: what it is worth is what the hold of that sum in a sandbox is worth. -/
noncomputable def Try.pinned : Pinned := { name := "ytoajgiefjkibeaa", sum := "b19b64625af17d3c32a0d93816d21c49f30f7902d5e00f945c6b64a00673fb95", checked := Try.checked }
namespace Rows
def none {H : Type} : Left H := { results := [], args := [] }

/-- 'puncheonlaw01.BitwPlays': WHATEVER THE INPUT: true; the input reads as it did. -/
def bitwPlaysSpec : ChangeSpec := { name := "bitwPlays", fn := fun _ => fun
  | [d] => { results := [.lit (.bool true)], args := [d] }
  | _ => none }
def bitwPlaysRow : OpenClaim := { program := "ytoajgiefjkibeaa", sum := "b19b64625af17d3c32a0d93816d21c49f30f7902d5e00f945c6b64a00673fb95", func := "puncheon/puncheonlaw01.BitwPlays", spec := "bitwPlays", apart := false }
def BitwPlaysSaid : Prop := bitwPlaysRow.holds Try.pinned (OpenSpec.ofChange bitwPlaysSpec)

/-- ITS FALSE NEIGHBOUR: 'it returns false'. Refute it at one input. -/
def bitwPlaysWrong : ChangeSpec := { name := "bitwPlays", fn := fun _ => fun
  | [d] => { results := [.lit (.bool false)], args := [d] }
  | _ => none }
def BitwPlaysWrongFalsely : Prop := bitwPlaysRow.holds Try.pinned (OpenSpec.ofChange bitwPlaysWrong)

/-- 'puncheonlaw01.BitwMark': WHATEVER THE INPUT: true; the input reads as it did. -/
def bitwMarkSpec : ChangeSpec := { name := "bitwMark", fn := fun _ => fun
  | [d] => { results := [.lit (.bool true)], args := [d] }
  | _ => none }
def bitwMarkRow : OpenClaim := { program := "ytoajgiefjkibeaa", sum := "b19b64625af17d3c32a0d93816d21c49f30f7902d5e00f945c6b64a00673fb95", func := "puncheon/puncheonlaw01.BitwMark", spec := "bitwMark", apart := false }
def BitwMarkSaid : Prop := bitwMarkRow.holds Try.pinned (OpenSpec.ofChange bitwMarkSpec)

/-- ITS FALSE NEIGHBOUR: 'it returns false'. Refute it at one input. -/
def bitwMarkWrong : ChangeSpec := { name := "bitwMark", fn := fun _ => fun
  | [d] => { results := [.lit (.bool false)], args := [d] }
  | _ => none }
def BitwMarkWrongFalsely : Prop := bitwMarkRow.holds Try.pinned (OpenSpec.ofChange bitwMarkWrong)

/-- 'puncheonlaw01.BitwSplits': WHATEVER THE INPUT: true; the input reads as it did. -/
def bitwSplitsSpec : ChangeSpec := { name := "bitwSplits", fn := fun _ => fun
  | [d1, d2, d3, d4, d5] => { results := [.lit (.bool true)], args := [d1, d2, d3, d4, d5] }
  | _ => none }
def bitwSplitsRow : OpenClaim := { program := "ytoajgiefjkibeaa", sum := "b19b64625af17d3c32a0d93816d21c49f30f7902d5e00f945c6b64a00673fb95", func := "puncheon/puncheonlaw01.BitwSplits", spec := "bitwSplits", apart := false }
def BitwSplitsSaid : Prop := bitwSplitsRow.holds Try.pinned (OpenSpec.ofChange bitwSplitsSpec)

/-- ITS FALSE NEIGHBOUR: 'it returns false'. Refute it at one input. -/
def bitwSplitsWrong : ChangeSpec := { name := "bitwSplits", fn := fun _ => fun
  | [d1, d2, d3, d4, d5] => { results := [.lit (.bool false)], args := [d1, d2, d3, d4, d5] }
  | _ => none }
def BitwSplitsWrongFalsely : Prop := bitwSplitsRow.holds Try.pinned (OpenSpec.ofChange bitwSplitsWrong)

/-- 'puncheonlaw01.BitwOwn': WHATEVER THE INPUT: true; the input reads as it did. -/
def bitwOwnSpec : ChangeSpec := { name := "bitwOwn", fn := fun _ => fun
  | [d1, d2] => { results := [.lit (.bool true)], args := [d1, d2] }
  | _ => none }
def bitwOwnRow : OpenClaim := { program := "ytoajgiefjkibeaa", sum := "b19b64625af17d3c32a0d93816d21c49f30f7902d5e00f945c6b64a00673fb95", func := "puncheon/puncheonlaw01.BitwOwn", spec := "bitwOwn", apart := false }
def BitwOwnSaid : Prop := bitwOwnRow.holds Try.pinned (OpenSpec.ofChange bitwOwnSpec)

/-- ITS FALSE NEIGHBOUR: 'it returns false'. Refute it at one input. -/
def bitwOwnWrong : ChangeSpec := { name := "bitwOwn", fn := fun _ => fun
  | [d1, d2] => { results := [.lit (.bool false)], args := [d1, d2] }
  | _ => none }
def BitwOwnWrongFalsely : Prop := bitwOwnRow.holds Try.pinned (OpenSpec.ofChange bitwOwnWrong)

/-- 'puncheonlaw01.BitwJoins': WHATEVER THE INPUT: true; the input reads as it did. -/
def bitwJoinsSpec : ChangeSpec := { name := "bitwJoins", fn := fun _ => fun
  | [d1, d2] => { results := [.lit (.bool true)], args := [d1, d2] }
  | _ => none }
def bitwJoinsRow : OpenClaim := { program := "ytoajgiefjkibeaa", sum := "b19b64625af17d3c32a0d93816d21c49f30f7902d5e00f945c6b64a00673fb95", func := "puncheon/puncheonlaw01.BitwJoins", spec := "bitwJoins", apart := false }
def BitwJoinsSaid : Prop := bitwJoinsRow.holds Try.pinned (OpenSpec.ofChange bitwJoinsSpec)

/-- ITS FALSE NEIGHBOUR: 'it returns false'. Refute it at one input. -/
def bitwJoinsWrong : ChangeSpec := { name := "bitwJoins", fn := fun _ => fun
  | [d1, d2] => { results := [.lit (.bool false)], args := [d1, d2] }
  | _ => none }
def BitwJoinsWrongFalsely : Prop := bitwJoinsRow.holds Try.pinned (OpenSpec.ofChange bitwJoinsWrong)

/- THE SECOND FORM. 'bulk': how many values and letters a reading holds, each counted each time it is reached (what is shared counts as often as it is met; a slice's spare places count too). A statement '..UptoSaid' is the law's where the arguments, and the package variables that the reading takes, are together of bulk at most 1048576: NARROWER than '..Said'. Prove '..Said' where nothing that the law and all that it calls make is longer than what came in: it says more and counts as full. Else prove '..UptoSaid'. A law counts once. -/
mutual
def uptoBulk {H : Type} : DataW H → Nat
  | .lit (.string bytes) => bytes.length + 1
  | .lit _ => 1
  | .nil => 1
  | .ptr d => uptoBulk d + 1
  | .slice elems spare => uptoBulkAll elems + uptoBulkAll spare + 1
  | .agg parts => uptoBulkAll parts + 1
  | .iface _ d => uptoBulk d + 1
  | .map entries => uptoBulkEntries entries + 1
  | .held _ => 1
def uptoBulkAll {H : Type} : List (DataW H) → Nat
  | [] => 0
  | d :: r => uptoBulk d + uptoBulkAll r
def uptoBulkEntries {H : Type} : List (Lit × DataW H) → Nat
  | [] => 0
  | x :: r => uptoBulkEntry x + uptoBulkEntries r
def uptoBulkEntry {H : Type} : Lit × DataW H → Nat
  | (.string bytes, d) => bytes.length + uptoBulk d + 1
  | (_, d) => uptoBulk d + 1
 end
def uptoSmall : (H : Type) → List (DataW H) → Bool := fun _ ds => decide (uptoBulkAll ds ≤ 1048576)
def OpenSpec.upto (s : _root_.Go.ChangeSpec) : _root_.Go.OpenSpec := { _root_.Go.OpenSpec.ofChange s with cond := some uptoSmall }

/-- 'puncheonlaw01.BitwPlays', WHERE WHAT IT READS IS OF BULK AT MOST 1048576: true; the input reads as it did. -/
def bitwPlaysUptoRow : OpenClaim := { program := "ytoajgiefjkibeaa", sum := "b19b64625af17d3c32a0d93816d21c49f30f7902d5e00f945c6b64a00673fb95", func := "puncheon/puncheonlaw01.BitwPlays", spec := "bitwPlays", apart := false, narrowed := true }
def BitwPlaysUptoSaid : Prop := bitwPlaysUptoRow.holds Try.pinned (OpenSpec.upto bitwPlaysSpec)

/-- 'puncheonlaw01.BitwMark', WHERE WHAT IT READS IS OF BULK AT MOST 1048576: true; the input reads as it did. -/
def bitwMarkUptoRow : OpenClaim := { program := "ytoajgiefjkibeaa", sum := "b19b64625af17d3c32a0d93816d21c49f30f7902d5e00f945c6b64a00673fb95", func := "puncheon/puncheonlaw01.BitwMark", spec := "bitwMark", apart := false, narrowed := true }
def BitwMarkUptoSaid : Prop := bitwMarkUptoRow.holds Try.pinned (OpenSpec.upto bitwMarkSpec)

/-- 'puncheonlaw01.BitwSplits', WHERE WHAT IT READS IS OF BULK AT MOST 1048576: true; the input reads as it did. -/
def bitwSplitsUptoRow : OpenClaim := { program := "ytoajgiefjkibeaa", sum := "b19b64625af17d3c32a0d93816d21c49f30f7902d5e00f945c6b64a00673fb95", func := "puncheon/puncheonlaw01.BitwSplits", spec := "bitwSplits", apart := false, narrowed := true }
def BitwSplitsUptoSaid : Prop := bitwSplitsUptoRow.holds Try.pinned (OpenSpec.upto bitwSplitsSpec)

/-- 'puncheonlaw01.BitwOwn', WHERE WHAT IT READS IS OF BULK AT MOST 1048576: true; the input reads as it did. -/
def bitwOwnUptoRow : OpenClaim := { program := "ytoajgiefjkibeaa", sum := "b19b64625af17d3c32a0d93816d21c49f30f7902d5e00f945c6b64a00673fb95", func := "puncheon/puncheonlaw01.BitwOwn", spec := "bitwOwn", apart := false, narrowed := true }
def BitwOwnUptoSaid : Prop := bitwOwnUptoRow.holds Try.pinned (OpenSpec.upto bitwOwnSpec)

/-- 'puncheonlaw01.BitwJoins', WHERE WHAT IT READS IS OF BULK AT MOST 1048576: true; the input reads as it did. -/
def bitwJoinsUptoRow : OpenClaim := { program := "ytoajgiefjkibeaa", sum := "b19b64625af17d3c32a0d93816d21c49f30f7902d5e00f945c6b64a00673fb95", func := "puncheon/puncheonlaw01.BitwJoins", spec := "bitwJoins", apart := false, narrowed := true }
def BitwJoinsUptoSaid : Prop := bitwJoinsUptoRow.holds Try.pinned (OpenSpec.upto bitwJoinsSpec)

end Rows
end Go.Proofs.Ytoajgiefjkibeaa
