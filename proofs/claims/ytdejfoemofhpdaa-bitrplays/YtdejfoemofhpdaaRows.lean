/-
  No cell of these rows narrows 'for every input' (looked for: loops, veiled, ifaces, maps, wideKeys, modest, calm, conditions, laid).
  DERIVED. THE GIVEN ROWS OF THIS SEAT. 5 by the template 'for every input the law returns true; each argument reads behind the call as it read before'; 0 by the template 'total and deterministic' (their statements: YtdejfoemofhpdaaTotals.lean).
  GIVEN WITH THE SEED: the statements are not yours to turn. If you find one false, say at which input.
  Laid BY PROGRAM, IN A SANDBOX (cutbox-rows.mjs): the forced cells as the released guide's own fill.sh prints them over the translation acb661dbca9334d4… (all of the seat's roots in one cut). By AI agents, Wed Nov 11 2026. No macro, syntax, notation, axiom, sorry.
-/
import Derived.Test.YtdejfoemofhpdaaChecked
import GoSem.Claim
import GoSem.ClaimJoined
import GoSem.ClaimMapViews
import Derived.JoinedTies
import Derived.KernelRfl
namespace Go.Proofs.Ytdejfoemofhpdaa
/- THE CELL 'sum', in the pinned program and in every row, IS THE sha256 OF THE DUMP (.gsa) THAT YtdejfoemofhpdaaProg.lean LOADS. Nothing in Lean hashes anything: it is a label: what it is worth is what the hold of that sum in a sandbox is worth. -/
noncomputable def Try.pinned : Pinned := { name := "ytdejfoemofhpdaa", sum := "acb661dbca9334d44fa31a7051f131fa68f5c0b9f730dd070b4c97ea8fe43c6b", checked := Try.checked }
namespace Rows
def none {H : Type} : Left H := { results := [], args := [] }

/-- 'puncheonlaw02.BitrPlays': WHATEVER THE INPUT: true; the input reads as it did. -/
def bitrPlaysSpec : ChangeSpec := { name := "bitrPlays", fn := fun _ => fun
  | [d1, d2] => { results := [.lit (.bool true)], args := [d1, d2] }
  | _ => none }
def bitrPlaysRow : OpenClaim := { program := "ytdejfoemofhpdaa", sum := "acb661dbca9334d44fa31a7051f131fa68f5c0b9f730dd070b4c97ea8fe43c6b", func := "puncheon/puncheonlaw02.BitrPlays", spec := "bitrPlays", apart := false }
def BitrPlaysSaid : Prop := bitrPlaysRow.holds Try.pinned (OpenSpec.ofChange bitrPlaysSpec)

/-- ITS FALSE NEIGHBOUR: 'it returns false'. Refute it at one input. -/
def bitrPlaysWrong : ChangeSpec := { name := "bitrPlays", fn := fun _ => fun
  | [d1, d2] => { results := [.lit (.bool false)], args := [d1, d2] }
  | _ => none }
def BitrPlaysWrongFalsely : Prop := bitrPlaysRow.holds Try.pinned (OpenSpec.ofChange bitrPlaysWrong)

/-- 'puncheonlaw02.BitrBack': WHATEVER THE INPUT: true; the input reads as it did. -/
def bitrBackSpec : ChangeSpec := { name := "bitrBack", fn := fun _ => fun
  | [d] => { results := [.lit (.bool true)], args := [d] }
  | _ => none }
def bitrBackRow : OpenClaim := { program := "ytdejfoemofhpdaa", sum := "acb661dbca9334d44fa31a7051f131fa68f5c0b9f730dd070b4c97ea8fe43c6b", func := "puncheon/puncheonlaw02.BitrBack", spec := "bitrBack", apart := false }
def BitrBackSaid : Prop := bitrBackRow.holds Try.pinned (OpenSpec.ofChange bitrBackSpec)

/-- ITS FALSE NEIGHBOUR: 'it returns false'. Refute it at one input. -/
def bitrBackWrong : ChangeSpec := { name := "bitrBack", fn := fun _ => fun
  | [d] => { results := [.lit (.bool false)], args := [d] }
  | _ => none }
def BitrBackWrongFalsely : Prop := bitrBackRow.holds Try.pinned (OpenSpec.ofChange bitrBackWrong)

/-- 'puncheonlaw02.BitrSplits': WHATEVER THE INPUT: true; the input reads as it did. -/
def bitrSplitsSpec : ChangeSpec := { name := "bitrSplits", fn := fun _ => fun
  | [d1, d2, d3] => { results := [.lit (.bool true)], args := [d1, d2, d3] }
  | _ => none }
def bitrSplitsRow : OpenClaim := { program := "ytdejfoemofhpdaa", sum := "acb661dbca9334d44fa31a7051f131fa68f5c0b9f730dd070b4c97ea8fe43c6b", func := "puncheon/puncheonlaw02.BitrSplits", spec := "bitrSplits", apart := false }
def BitrSplitsSaid : Prop := bitrSplitsRow.holds Try.pinned (OpenSpec.ofChange bitrSplitsSpec)

/-- ITS FALSE NEIGHBOUR: 'it returns false'. Refute it at one input. -/
def bitrSplitsWrong : ChangeSpec := { name := "bitrSplits", fn := fun _ => fun
  | [d1, d2, d3] => { results := [.lit (.bool false)], args := [d1, d2, d3] }
  | _ => none }
def BitrSplitsWrongFalsely : Prop := bitrSplitsRow.holds Try.pinned (OpenSpec.ofChange bitrSplitsWrong)

/-- 'puncheonlaw02.BitrAll': WHATEVER THE INPUT: true; the input reads as it did. -/
def bitrAllSpec : ChangeSpec := { name := "bitrAll", fn := fun _ => fun
  | [d] => { results := [.lit (.bool true)], args := [d] }
  | _ => none }
def bitrAllRow : OpenClaim := { program := "ytdejfoemofhpdaa", sum := "acb661dbca9334d44fa31a7051f131fa68f5c0b9f730dd070b4c97ea8fe43c6b", func := "puncheon/puncheonlaw02.BitrAll", spec := "bitrAll", apart := false }
def BitrAllSaid : Prop := bitrAllRow.holds Try.pinned (OpenSpec.ofChange bitrAllSpec)

/-- ITS FALSE NEIGHBOUR: 'it returns false'. Refute it at one input. -/
def bitrAllWrong : ChangeSpec := { name := "bitrAll", fn := fun _ => fun
  | [d] => { results := [.lit (.bool false)], args := [d] }
  | _ => none }
def BitrAllWrongFalsely : Prop := bitrAllRow.holds Try.pinned (OpenSpec.ofChange bitrAllWrong)

/-- 'puncheonlaw02.BitrOwn': WHATEVER THE INPUT: true; the input reads as it did. -/
def bitrOwnSpec : ChangeSpec := { name := "bitrOwn", fn := fun _ => fun
  | [d1, d2, d3] => { results := [.lit (.bool true)], args := [d1, d2, d3] }
  | _ => none }
def bitrOwnRow : OpenClaim := { program := "ytdejfoemofhpdaa", sum := "acb661dbca9334d44fa31a7051f131fa68f5c0b9f730dd070b4c97ea8fe43c6b", func := "puncheon/puncheonlaw02.BitrOwn", spec := "bitrOwn", apart := false }
def BitrOwnSaid : Prop := bitrOwnRow.holds Try.pinned (OpenSpec.ofChange bitrOwnSpec)

/-- ITS FALSE NEIGHBOUR: 'it returns false'. Refute it at one input. -/
def bitrOwnWrong : ChangeSpec := { name := "bitrOwn", fn := fun _ => fun
  | [d1, d2, d3] => { results := [.lit (.bool false)], args := [d1, d2, d3] }
  | _ => none }
def BitrOwnWrongFalsely : Prop := bitrOwnRow.holds Try.pinned (OpenSpec.ofChange bitrOwnWrong)

/- THE SECOND FORM. 'bulk': how many values and letters a reading holds, each counted each time it is reached (what is shared counts as often as it is met; a slice's spare places count too). A statement '..UptoSaid' is the law's where the arguments, and the package variables that the reading takes, are together of bulk at most 1048576: NARROWER than '..Said'. Prove '..Said' where nothing that the law and all that it calls make is longer than what came in: it says more and counts as full. Else prove '..UptoSaid'. A law counts once. -/
mutual
def uptoBulk {H : Type} : DataW H → Nat
  | .lit (.string bytes) => bytes.length + 1
  | .lit _ => 1
  | .nil => 1
  | .ptr d => uptoBulk d + 1
  | .slice elems spare => uptoBulkAll elems + uptoBulkAll spare + 1
  | .agg parts => uptoBulkAll parts + 1
  | .iface _ d => uptoBulk d + 1
  | .map entries => uptoBulkEntries entries + 1
  | .held _ => 1
def uptoBulkAll {H : Type} : List (DataW H) → Nat
  | [] => 0
  | d :: r => uptoBulk d + uptoBulkAll r
def uptoBulkEntries {H : Type} : List (Lit × DataW H) → Nat
  | [] => 0
  | x :: r => uptoBulkEntry x + uptoBulkEntries r
def uptoBulkEntry {H : Type} : Lit × DataW H → Nat
  | (.string bytes, d) => bytes.length + uptoBulk d + 1
  | (_, d) => uptoBulk d + 1
 end
def uptoSmall : (H : Type) → List (DataW H) → Bool := fun _ ds => decide (uptoBulkAll ds ≤ 1048576)
def OpenSpec.upto (s : _root_.Go.ChangeSpec) : _root_.Go.OpenSpec := { _root_.Go.OpenSpec.ofChange s with cond := some uptoSmall }

/-- 'puncheonlaw02.BitrPlays', WHERE WHAT IT READS IS OF BULK AT MOST 1048576: true; the input reads as it did. -/
def bitrPlaysUptoRow : OpenClaim := { program := "ytdejfoemofhpdaa", sum := "acb661dbca9334d44fa31a7051f131fa68f5c0b9f730dd070b4c97ea8fe43c6b", func := "puncheon/puncheonlaw02.BitrPlays", spec := "bitrPlays", apart := false, narrowed := true }
def BitrPlaysUptoSaid : Prop := bitrPlaysUptoRow.holds Try.pinned (OpenSpec.upto bitrPlaysSpec)

/-- 'puncheonlaw02.BitrBack', WHERE WHAT IT READS IS OF BULK AT MOST 1048576: true; the input reads as it did. -/
def bitrBackUptoRow : OpenClaim := { program := "ytdejfoemofhpdaa", sum := "acb661dbca9334d44fa31a7051f131fa68f5c0b9f730dd070b4c97ea8fe43c6b", func := "puncheon/puncheonlaw02.BitrBack", spec := "bitrBack", apart := false, narrowed := true }
def BitrBackUptoSaid : Prop := bitrBackUptoRow.holds Try.pinned (OpenSpec.upto bitrBackSpec)

/-- 'puncheonlaw02.BitrSplits', WHERE WHAT IT READS IS OF BULK AT MOST 1048576: true; the input reads as it did. -/
def bitrSplitsUptoRow : OpenClaim := { program := "ytdejfoemofhpdaa", sum := "acb661dbca9334d44fa31a7051f131fa68f5c0b9f730dd070b4c97ea8fe43c6b", func := "puncheon/puncheonlaw02.BitrSplits", spec := "bitrSplits", apart := false, narrowed := true }
def BitrSplitsUptoSaid : Prop := bitrSplitsUptoRow.holds Try.pinned (OpenSpec.upto bitrSplitsSpec)

/-- 'puncheonlaw02.BitrAll', WHERE WHAT IT READS IS OF BULK AT MOST 1048576: true; the input reads as it did. -/
def bitrAllUptoRow : OpenClaim := { program := "ytdejfoemofhpdaa", sum := "acb661dbca9334d44fa31a7051f131fa68f5c0b9f730dd070b4c97ea8fe43c6b", func := "puncheon/puncheonlaw02.BitrAll", spec := "bitrAll", apart := false, narrowed := true }
def BitrAllUptoSaid : Prop := bitrAllUptoRow.holds Try.pinned (OpenSpec.upto bitrAllSpec)

/-- 'puncheonlaw02.BitrOwn', WHERE WHAT IT READS IS OF BULK AT MOST 1048576: true; the input reads as it did. -/
def bitrOwnUptoRow : OpenClaim := { program := "ytdejfoemofhpdaa", sum := "acb661dbca9334d44fa31a7051f131fa68f5c0b9f730dd070b4c97ea8fe43c6b", func := "puncheon/puncheonlaw02.BitrOwn", spec := "bitrOwn", apart := false, narrowed := true }
def BitrOwnUptoSaid : Prop := bitrOwnUptoRow.holds Try.pinned (OpenSpec.upto bitrOwnSpec)

end Rows
end Go.Proofs.Ytdejfoemofhpdaa
