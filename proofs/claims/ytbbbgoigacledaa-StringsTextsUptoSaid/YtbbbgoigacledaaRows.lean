/-
  No cell of these rows narrows 'for every input' (looked for: loops, veiled, ifaces, maps, wideKeys, modest, calm, conditions, laid).
  DERIVED. THE GIVEN ROWS OF THIS SEAT. 7 by the template 'for every input the law returns true; each argument reads behind the call as it read before'; 0 by the template 'total and deterministic' (their statements: YtbbbgoigacledaaTotals.lean).
  GIVEN WITH THE SEED: the statements are not yours to turn. If you find one false, say at which input.
  Laid BY PROGRAM, IN A SANDBOX (cutbox-rows.mjs): the forced cells as the released guide's own fill.sh prints them over the translation af12d46c4b9843f0… (all of the seat's roots in one cut). By AI agents, Wed Nov 11 2026. No macro, syntax, notation, axiom, sorry.
-/
import Derived.Test.YtbbbgoigacledaaChecked
import GoSem.Claim
import GoSem.ClaimJoined
import GoSem.ClaimMapViews
import Derived.JoinedTies
import Derived.KernelRfl
namespace Go.Proofs.Ytbbbgoigacledaa
/- THE CELL 'sum', in the pinned program and in every row, IS THE sha256 OF THE DUMP (.gsa) THAT YtbbbgoigacledaaProg.lean LOADS. Nothing in Lean hashes anything: it is a label: what it is worth is what the hold of that sum in a sandbox is worth. -/
noncomputable def Try.pinned : Pinned := { name := "ytbbbgoigacledaa", sum := "af12d46c4b9843f0107e1cae9d51cd64ad86a3f6e3341f26a548a0406568e212", checked := Try.checked }
namespace Rows
def none {H : Type} : Left H := { results := [], args := [] }

/-- 'spandrellaw06.StringsOctets': WHATEVER THE INPUT: true; the input reads as it did. -/
def stringsOctetsSpec : ChangeSpec := { name := "stringsOctets", fn := fun _ => fun
  | [d1, d2, d3, d4, d5] => { results := [.lit (.bool true)], args := [d1, d2, d3, d4, d5] }
  | _ => none }
def stringsOctetsRow : OpenClaim := { program := "ytbbbgoigacledaa", sum := "af12d46c4b9843f0107e1cae9d51cd64ad86a3f6e3341f26a548a0406568e212", func := "spandrel/spandrellaw06.StringsOctets", spec := "stringsOctets", unfollowed := true, recurses := true, apart := false }
def StringsOctetsSaid : Prop := stringsOctetsRow.holds Try.pinned (OpenSpec.ofChange stringsOctetsSpec)

/-- ITS FALSE NEIGHBOUR: 'it returns false'. Refute it at one input. -/
def stringsOctetsWrong : ChangeSpec := { name := "stringsOctets", fn := fun _ => fun
  | [d1, d2, d3, d4, d5] => { results := [.lit (.bool false)], args := [d1, d2, d3, d4, d5] }
  | _ => none }
def StringsOctetsWrongFalsely : Prop := stringsOctetsRow.holds Try.pinned (OpenSpec.ofChange stringsOctetsWrong)

/-- 'spandrellaw06.StringsBits': WHATEVER THE INPUT: true; the input reads as it did. -/
def stringsBitsSpec : ChangeSpec := { name := "stringsBits", fn := fun _ => fun
  | [d1, d2, d3, d4, d5] => { results := [.lit (.bool true)], args := [d1, d2, d3, d4, d5] }
  | _ => none }
def stringsBitsRow : OpenClaim := { program := "ytbbbgoigacledaa", sum := "af12d46c4b9843f0107e1cae9d51cd64ad86a3f6e3341f26a548a0406568e212", func := "spandrel/spandrellaw06.StringsBits", spec := "stringsBits", unfollowed := true, recurses := true, apart := false }
def StringsBitsSaid : Prop := stringsBitsRow.holds Try.pinned (OpenSpec.ofChange stringsBitsSpec)

/-- ITS FALSE NEIGHBOUR: 'it returns false'. Refute it at one input. -/
def stringsBitsWrong : ChangeSpec := { name := "stringsBits", fn := fun _ => fun
  | [d1, d2, d3, d4, d5] => { results := [.lit (.bool false)], args := [d1, d2, d3, d4, d5] }
  | _ => none }
def StringsBitsWrongFalsely : Prop := stringsBitsRow.holds Try.pinned (OpenSpec.ofChange stringsBitsWrong)

/-- 'spandrellaw06.StringsTexts': WHATEVER THE INPUT: true; the input reads as it did. -/
def stringsTextsSpec : ChangeSpec := { name := "stringsTexts", fn := fun _ => fun
  | [d1, d2, d3, d4, d5, d6] => { results := [.lit (.bool true)], args := [d1, d2, d3, d4, d5, d6] }
  | _ => none }
def stringsTextsRow : OpenClaim := { program := "ytbbbgoigacledaa", sum := "af12d46c4b9843f0107e1cae9d51cd64ad86a3f6e3341f26a548a0406568e212", func := "spandrel/spandrellaw06.StringsTexts", spec := "stringsTexts", unfollowed := true, recurses := true, apart := false }
def StringsTextsSaid : Prop := stringsTextsRow.holds Try.pinned (OpenSpec.ofChange stringsTextsSpec)

/-- ITS FALSE NEIGHBOUR: 'it returns false'. Refute it at one input. -/
def stringsTextsWrong : ChangeSpec := { name := "stringsTexts", fn := fun _ => fun
  | [d1, d2, d3, d4, d5, d6] => { results := [.lit (.bool false)], args := [d1, d2, d3, d4, d5, d6] }
  | _ => none }
def StringsTextsWrongFalsely : Prop := stringsTextsRow.holds Try.pinned (OpenSpec.ofChange stringsTextsWrong)

/-- 'spandrellaw06.StringsBack': WHATEVER THE INPUT: true; the input reads as it did. -/
def stringsBackSpec : ChangeSpec := { name := "stringsBack", fn := fun _ => fun
  | [d1, d2, d3, d4, d5, d6, d7] => { results := [.lit (.bool true)], args := [d1, d2, d3, d4, d5, d6, d7] }
  | _ => none }
def stringsBackRow : OpenClaim := { program := "ytbbbgoigacledaa", sum := "af12d46c4b9843f0107e1cae9d51cd64ad86a3f6e3341f26a548a0406568e212", func := "spandrel/spandrellaw06.StringsBack", spec := "stringsBack", unfollowed := true, recurses := true, apart := false }
def StringsBackSaid : Prop := stringsBackRow.holds Try.pinned (OpenSpec.ofChange stringsBackSpec)

/-- ITS FALSE NEIGHBOUR: 'it returns false'. Refute it at one input. -/
def stringsBackWrong : ChangeSpec := { name := "stringsBack", fn := fun _ => fun
  | [d1, d2, d3, d4, d5, d6, d7] => { results := [.lit (.bool false)], args := [d1, d2, d3, d4, d5, d6, d7] }
  | _ => none }
def StringsBackWrongFalsely : Prop := stringsBackRow.holds Try.pinned (OpenSpec.ofChange stringsBackWrong)

/-- 'spandrellaw06.StringsNone': WHATEVER THE INPUT: true; the input reads as it did. -/
def stringsNoneSpec : ChangeSpec := { name := "stringsNone", fn := fun _ => fun
  | [d1, d2, d3, d4, d5] => { results := [.lit (.bool true)], args := [d1, d2, d3, d4, d5] }
  | _ => none }
def stringsNoneRow : OpenClaim := { program := "ytbbbgoigacledaa", sum := "af12d46c4b9843f0107e1cae9d51cd64ad86a3f6e3341f26a548a0406568e212", func := "spandrel/spandrellaw06.StringsNone", spec := "stringsNone", unfollowed := true, recurses := true, apart := false }
def StringsNoneSaid : Prop := stringsNoneRow.holds Try.pinned (OpenSpec.ofChange stringsNoneSpec)

/-- ITS FALSE NEIGHBOUR: 'it returns false'. Refute it at one input. -/
def stringsNoneWrong : ChangeSpec := { name := "stringsNone", fn := fun _ => fun
  | [d1, d2, d3, d4, d5] => { results := [.lit (.bool false)], args := [d1, d2, d3, d4, d5] }
  | _ => none }
def StringsNoneWrongFalsely : Prop := stringsNoneRow.holds Try.pinned (OpenSpec.ofChange stringsNoneWrong)

/-- 'spandrellaw06.StringsFixed': WHATEVER THE INPUT: true; the input reads as it did. -/
def stringsFixedSpec : ChangeSpec := { name := "stringsFixed", fn := fun _ => fun
  | [d1, d2, d3, d4] => { results := [.lit (.bool true)], args := [d1, d2, d3, d4] }
  | _ => none }
def stringsFixedRow : OpenClaim := { program := "ytbbbgoigacledaa", sum := "af12d46c4b9843f0107e1cae9d51cd64ad86a3f6e3341f26a548a0406568e212", func := "spandrel/spandrellaw06.StringsFixed", spec := "stringsFixed", unfollowed := true, recurses := true, apart := false }
def StringsFixedSaid : Prop := stringsFixedRow.holds Try.pinned (OpenSpec.ofChange stringsFixedSpec)

/-- ITS FALSE NEIGHBOUR: 'it returns false'. Refute it at one input. -/
def stringsFixedWrong : ChangeSpec := { name := "stringsFixed", fn := fun _ => fun
  | [d1, d2, d3, d4] => { results := [.lit (.bool false)], args := [d1, d2, d3, d4] }
  | _ => none }
def StringsFixedWrongFalsely : Prop := stringsFixedRow.holds Try.pinned (OpenSpec.ofChange stringsFixedWrong)

/-- 'spandrellaw06.StringsBitsOctets': WHATEVER THE INPUT: true; the input reads as it did. -/
def stringsBitsOctetsSpec : ChangeSpec := { name := "stringsBitsOctets", fn := fun _ => fun
  | [d] => { results := [.lit (.bool true)], args := [d] }
  | _ => none }
def stringsBitsOctetsRow : OpenClaim := { program := "ytbbbgoigacledaa", sum := "af12d46c4b9843f0107e1cae9d51cd64ad86a3f6e3341f26a548a0406568e212", func := "spandrel/spandrellaw06.StringsBitsOctets", spec := "stringsBitsOctets", unfollowed := true, recurses := true, apart := false }
def StringsBitsOctetsSaid : Prop := stringsBitsOctetsRow.holds Try.pinned (OpenSpec.ofChange stringsBitsOctetsSpec)

/-- ITS FALSE NEIGHBOUR: 'it returns false'. Refute it at one input. -/
def stringsBitsOctetsWrong : ChangeSpec := { name := "stringsBitsOctets", fn := fun _ => fun
  | [d] => { results := [.lit (.bool false)], args := [d] }
  | _ => none }
def StringsBitsOctetsWrongFalsely : Prop := stringsBitsOctetsRow.holds Try.pinned (OpenSpec.ofChange stringsBitsOctetsWrong)

/- THE SECOND FORM. 'bulk': how many values and letters a reading holds, each counted each time it is reached (what is shared counts as often as it is met; a slice's spare places count too). A statement '..UptoSaid' is the law's where the arguments, and the package variables that the reading takes, are together of bulk at most 1048576: NARROWER than '..Said'. Prove '..Said' where nothing that the law and all that it calls make is longer than what came in: it says more and counts as full. Else prove '..UptoSaid'. A law counts once. -/
mutual
def uptoBulk {H : Type} : DataW H → Nat
  | .lit (.string bytes) => bytes.length + 1
  | .lit _ => 1
  | .nil => 1
  | .ptr d => uptoBulk d + 1
  | .slice elems spare => uptoBulkAll elems + uptoBulkAll spare + 1
  | .agg parts => uptoBulkAll parts + 1
  | .iface _ d => uptoBulk d + 1
  | .map entries => uptoBulkEntries entries + 1
  | .held _ => 1
def uptoBulkAll {H : Type} : List (DataW H) → Nat
  | [] => 0
  | d :: r => uptoBulk d + uptoBulkAll r
def uptoBulkEntries {H : Type} : List (Lit × DataW H) → Nat
  | [] => 0
  | x :: r => uptoBulkEntry x + uptoBulkEntries r
def uptoBulkEntry {H : Type} : Lit × DataW H → Nat
  | (.string bytes, d) => bytes.length + uptoBulk d + 1
  | (_, d) => uptoBulk d + 1
 end
def uptoSmall : (H : Type) → List (DataW H) → Bool := fun _ ds => decide (uptoBulkAll ds ≤ 1048576)
def OpenSpec.upto (s : _root_.Go.ChangeSpec) : _root_.Go.OpenSpec := { _root_.Go.OpenSpec.ofChange s with cond := some uptoSmall }

/-- 'spandrellaw06.StringsOctets', WHERE WHAT IT READS IS OF BULK AT MOST 1048576: true; the input reads as it did. -/
def stringsOctetsUptoRow : OpenClaim := { program := "ytbbbgoigacledaa", sum := "af12d46c4b9843f0107e1cae9d51cd64ad86a3f6e3341f26a548a0406568e212", func := "spandrel/spandrellaw06.StringsOctets", spec := "stringsOctets", unfollowed := true, recurses := true, apart := false, narrowed := true }
def StringsOctetsUptoSaid : Prop := stringsOctetsUptoRow.holds Try.pinned (OpenSpec.upto stringsOctetsSpec)

/-- 'spandrellaw06.StringsBits', WHERE WHAT IT READS IS OF BULK AT MOST 1048576: true; the input reads as it did. -/
def stringsBitsUptoRow : OpenClaim := { program := "ytbbbgoigacledaa", sum := "af12d46c4b9843f0107e1cae9d51cd64ad86a3f6e3341f26a548a0406568e212", func := "spandrel/spandrellaw06.StringsBits", spec := "stringsBits", unfollowed := true, recurses := true, apart := false, narrowed := true }
def StringsBitsUptoSaid : Prop := stringsBitsUptoRow.holds Try.pinned (OpenSpec.upto stringsBitsSpec)

/-- 'spandrellaw06.StringsTexts', WHERE WHAT IT READS IS OF BULK AT MOST 1048576: true; the input reads as it did. -/
def stringsTextsUptoRow : OpenClaim := { program := "ytbbbgoigacledaa", sum := "af12d46c4b9843f0107e1cae9d51cd64ad86a3f6e3341f26a548a0406568e212", func := "spandrel/spandrellaw06.StringsTexts", spec := "stringsTexts", unfollowed := true, recurses := true, apart := false, narrowed := true }
def StringsTextsUptoSaid : Prop := stringsTextsUptoRow.holds Try.pinned (OpenSpec.upto stringsTextsSpec)

/-- 'spandrellaw06.StringsBack', WHERE WHAT IT READS IS OF BULK AT MOST 1048576: true; the input reads as it did. -/
def stringsBackUptoRow : OpenClaim := { program := "ytbbbgoigacledaa", sum := "af12d46c4b9843f0107e1cae9d51cd64ad86a3f6e3341f26a548a0406568e212", func := "spandrel/spandrellaw06.StringsBack", spec := "stringsBack", unfollowed := true, recurses := true, apart := false, narrowed := true }
def StringsBackUptoSaid : Prop := stringsBackUptoRow.holds Try.pinned (OpenSpec.upto stringsBackSpec)

/-- 'spandrellaw06.StringsNone', WHERE WHAT IT READS IS OF BULK AT MOST 1048576: true; the input reads as it did. -/
def stringsNoneUptoRow : OpenClaim := { program := "ytbbbgoigacledaa", sum := "af12d46c4b9843f0107e1cae9d51cd64ad86a3f6e3341f26a548a0406568e212", func := "spandrel/spandrellaw06.StringsNone", spec := "stringsNone", unfollowed := true, recurses := true, apart := false, narrowed := true }
def StringsNoneUptoSaid : Prop := stringsNoneUptoRow.holds Try.pinned (OpenSpec.upto stringsNoneSpec)

/-- 'spandrellaw06.StringsFixed', WHERE WHAT IT READS IS OF BULK AT MOST 1048576: true; the input reads as it did. -/
def stringsFixedUptoRow : OpenClaim := { program := "ytbbbgoigacledaa", sum := "af12d46c4b9843f0107e1cae9d51cd64ad86a3f6e3341f26a548a0406568e212", func := "spandrel/spandrellaw06.StringsFixed", spec := "stringsFixed", unfollowed := true, recurses := true, apart := false, narrowed := true }
def StringsFixedUptoSaid : Prop := stringsFixedUptoRow.holds Try.pinned (OpenSpec.upto stringsFixedSpec)

/-- 'spandrellaw06.StringsBitsOctets', WHERE WHAT IT READS IS OF BULK AT MOST 1048576: true; the input reads as it did. -/
def stringsBitsOctetsUptoRow : OpenClaim := { program := "ytbbbgoigacledaa", sum := "af12d46c4b9843f0107e1cae9d51cd64ad86a3f6e3341f26a548a0406568e212", func := "spandrel/spandrellaw06.StringsBitsOctets", spec := "stringsBitsOctets", unfollowed := true, recurses := true, apart := false, narrowed := true }
def StringsBitsOctetsUptoSaid : Prop := stringsBitsOctetsUptoRow.holds Try.pinned (OpenSpec.upto stringsBitsOctetsSpec)

end Rows
end Go.Proofs.Ytbbbgoigacledaa
