/-
  No cell of these rows narrows 'for every input' (looked for: loops, veiled, ifaces, maps, wideKeys, modest, calm, conditions, laid).
  DERIVED. THE GIVEN ROWS OF THIS SEAT. 7 by the template 'for every input the law returns true; each argument reads behind the call as it read before'; 0 by the template 'total and deterministic' (their statements: YtieefphfldkbhaaTotals.lean).
  GIVEN WITH THE SEED: the statements are not yours to turn. If you find one false, say at which input.
  Laid BY PROGRAM, IN A SANDBOX (cutbox-rows.mjs): the forced cells as the released guide's own fill.sh prints them over the translation 6940206b3a21ed44… (all of the seat's roots in one cut). By AI agents, Wed Nov 11 2026. No macro, syntax, notation, axiom, sorry.
-/
import Derived.Test.YtieefphfldkbhaaChecked
import GoSem.Claim
import GoSem.ClaimJoined
import GoSem.ClaimMapViews
import Derived.JoinedTies
import Derived.KernelRfl
namespace Go.Proofs.Ytieefphfldkbhaa
/- THE CELL 'sum', in the pinned program and in every row, IS THE sha256 OF THE DUMP (.gsa) THAT YtieefphfldkbhaaProg.lean LOADS. Nothing in Lean hashes anything: it is a label: what it is worth is what the hold of that sum in a sandbox is worth. -/
noncomputable def Try.pinned : Pinned := { name := "ytieefphfldkbhaa", sum := "6940206b3a21ed4480f792dac70a35a44fed26d607171ea133f17037f2cbe931", checked := Try.checked }
namespace Rows
def none {H : Type} : Left H := { results := [], args := [] }

/-- 'spandrellaw03.WholePuts': WHATEVER THE INPUT: true; the input reads as it did. -/
def wholePutsSpec : ChangeSpec := { name := "wholePuts", fn := fun _ => fun
  | [d1, d2, d3, d4, d5] => { results := [.lit (.bool true)], args := [d1, d2, d3, d4, d5] }
  | _ => none }
def wholePutsRow : OpenClaim := { program := "ytieefphfldkbhaa", sum := "6940206b3a21ed4480f792dac70a35a44fed26d607171ea133f17037f2cbe931", func := "spandrel/spandrellaw03.WholePuts", spec := "wholePuts", recurses := true, apart := false }
def WholePutsSaid : Prop := wholePutsRow.holds Try.pinned (OpenSpec.ofChange wholePutsSpec)

/-- ITS FALSE NEIGHBOUR: 'it returns false'. Refute it at one input. -/
def wholePutsWrong : ChangeSpec := { name := "wholePuts", fn := fun _ => fun
  | [d1, d2, d3, d4, d5] => { results := [.lit (.bool false)], args := [d1, d2, d3, d4, d5] }
  | _ => none }
def WholePutsWrongFalsely : Prop := wholePutsRow.holds Try.pinned (OpenSpec.ofChange wholePutsWrong)

/-- 'spandrellaw03.WholeGets': WHATEVER THE INPUT: true; the input reads as it did. -/
def wholeGetsSpec : ChangeSpec := { name := "wholeGets", fn := fun _ => fun
  | [d1, d2, d3, d4, d5] => { results := [.lit (.bool true)], args := [d1, d2, d3, d4, d5] }
  | _ => none }
def wholeGetsRow : OpenClaim := { program := "ytieefphfldkbhaa", sum := "6940206b3a21ed4480f792dac70a35a44fed26d607171ea133f17037f2cbe931", func := "spandrel/spandrellaw03.WholeGets", spec := "wholeGets", recurses := true, apart := false }
def WholeGetsSaid : Prop := wholeGetsRow.holds Try.pinned (OpenSpec.ofChange wholeGetsSpec)

/-- ITS FALSE NEIGHBOUR: 'it returns false'. Refute it at one input. -/
def wholeGetsWrong : ChangeSpec := { name := "wholeGets", fn := fun _ => fun
  | [d1, d2, d3, d4, d5] => { results := [.lit (.bool false)], args := [d1, d2, d3, d4, d5] }
  | _ => none }
def WholeGetsWrongFalsely : Prop := wholeGetsRow.holds Try.pinned (OpenSpec.ofChange wholeGetsWrong)

/-- 'spandrellaw03.WholeBack': WHATEVER THE INPUT: true; the input reads as it did. -/
def wholeBackSpec : ChangeSpec := { name := "wholeBack", fn := fun _ => fun
  | [d1, d2, d3, d4, d5] => { results := [.lit (.bool true)], args := [d1, d2, d3, d4, d5] }
  | _ => none }
def wholeBackRow : OpenClaim := { program := "ytieefphfldkbhaa", sum := "6940206b3a21ed4480f792dac70a35a44fed26d607171ea133f17037f2cbe931", func := "spandrel/spandrellaw03.WholeBack", spec := "wholeBack", recurses := true, apart := false }
def WholeBackSaid : Prop := wholeBackRow.holds Try.pinned (OpenSpec.ofChange wholeBackSpec)

/-- ITS FALSE NEIGHBOUR: 'it returns false'. Refute it at one input. -/
def wholeBackWrong : ChangeSpec := { name := "wholeBack", fn := fun _ => fun
  | [d1, d2, d3, d4, d5] => { results := [.lit (.bool false)], args := [d1, d2, d3, d4, d5] }
  | _ => none }
def WholeBackWrongFalsely : Prop := wholeBackRow.holds Try.pinned (OpenSpec.ofChange wholeBackWrong)

/-- 'spandrellaw03.WholeMoves': WHATEVER THE INPUT: true; the input reads as it did. -/
def wholeMovesSpec : ChangeSpec := { name := "wholeMoves", fn := fun _ => fun
  | [d1, d2, d3, d4, d5, d6] => { results := [.lit (.bool true)], args := [d1, d2, d3, d4, d5, d6] }
  | _ => none }
def wholeMovesRow : OpenClaim := { program := "ytieefphfldkbhaa", sum := "6940206b3a21ed4480f792dac70a35a44fed26d607171ea133f17037f2cbe931", func := "spandrel/spandrellaw03.WholeMoves", spec := "wholeMoves", recurses := true, apart := false }
def WholeMovesSaid : Prop := wholeMovesRow.holds Try.pinned (OpenSpec.ofChange wholeMovesSpec)

/-- ITS FALSE NEIGHBOUR: 'it returns false'. Refute it at one input. -/
def wholeMovesWrong : ChangeSpec := { name := "wholeMoves", fn := fun _ => fun
  | [d1, d2, d3, d4, d5, d6] => { results := [.lit (.bool false)], args := [d1, d2, d3, d4, d5, d6] }
  | _ => none }
def WholeMovesWrongFalsely : Prop := wholeMovesRow.holds Try.pinned (OpenSpec.ofChange wholeMovesWrong)

/-- 'spandrellaw03.WholeNone': WHATEVER THE INPUT: true; the input reads as it did. -/
def wholeNoneSpec : ChangeSpec := { name := "wholeNone", fn := fun _ => fun
  | [d1, d2, d3, d4] => { results := [.lit (.bool true)], args := [d1, d2, d3, d4] }
  | _ => none }
def wholeNoneRow : OpenClaim := { program := "ytieefphfldkbhaa", sum := "6940206b3a21ed4480f792dac70a35a44fed26d607171ea133f17037f2cbe931", func := "spandrel/spandrellaw03.WholeNone", spec := "wholeNone", recurses := true, apart := false }
def WholeNoneSaid : Prop := wholeNoneRow.holds Try.pinned (OpenSpec.ofChange wholeNoneSpec)

/-- ITS FALSE NEIGHBOUR: 'it returns false'. Refute it at one input. -/
def wholeNoneWrong : ChangeSpec := { name := "wholeNone", fn := fun _ => fun
  | [d1, d2, d3, d4] => { results := [.lit (.bool false)], args := [d1, d2, d3, d4] }
  | _ => none }
def WholeNoneWrongFalsely : Prop := wholeNoneRow.holds Try.pinned (OpenSpec.ofChange wholeNoneWrong)

/-- 'spandrellaw03.WholeCut': WHATEVER THE INPUT: true; the input reads as it did. -/
def wholeCutSpec : ChangeSpec := { name := "wholeCut", fn := fun _ => fun
  | [d1, d2, d3, d4, d5] => { results := [.lit (.bool true)], args := [d1, d2, d3, d4, d5] }
  | _ => none }
def wholeCutRow : OpenClaim := { program := "ytieefphfldkbhaa", sum := "6940206b3a21ed4480f792dac70a35a44fed26d607171ea133f17037f2cbe931", func := "spandrel/spandrellaw03.WholeCut", spec := "wholeCut", recurses := true, apart := false }
def WholeCutSaid : Prop := wholeCutRow.holds Try.pinned (OpenSpec.ofChange wholeCutSpec)

/-- ITS FALSE NEIGHBOUR: 'it returns false'. Refute it at one input. -/
def wholeCutWrong : ChangeSpec := { name := "wholeCut", fn := fun _ => fun
  | [d1, d2, d3, d4, d5] => { results := [.lit (.bool false)], args := [d1, d2, d3, d4, d5] }
  | _ => none }
def WholeCutWrongFalsely : Prop := wholeCutRow.holds Try.pinned (OpenSpec.ofChange wholeCutWrong)

/-- 'spandrellaw03.WholeOrder': WHATEVER THE INPUT: true; the input reads as it did. -/
def wholeOrderSpec : ChangeSpec := { name := "wholeOrder", fn := fun _ => fun
  | [d1, d2, d3, d4] => { results := [.lit (.bool true)], args := [d1, d2, d3, d4] }
  | _ => none }
def wholeOrderRow : OpenClaim := { program := "ytieefphfldkbhaa", sum := "6940206b3a21ed4480f792dac70a35a44fed26d607171ea133f17037f2cbe931", func := "spandrel/spandrellaw03.WholeOrder", spec := "wholeOrder", recurses := true, apart := false }
def WholeOrderSaid : Prop := wholeOrderRow.holds Try.pinned (OpenSpec.ofChange wholeOrderSpec)

/-- ITS FALSE NEIGHBOUR: 'it returns false'. Refute it at one input. -/
def wholeOrderWrong : ChangeSpec := { name := "wholeOrder", fn := fun _ => fun
  | [d1, d2, d3, d4] => { results := [.lit (.bool false)], args := [d1, d2, d3, d4] }
  | _ => none }
def WholeOrderWrongFalsely : Prop := wholeOrderRow.holds Try.pinned (OpenSpec.ofChange wholeOrderWrong)

/- THE SECOND FORM. 'bulk': how many values and letters a reading holds, each counted each time it is reached (what is shared counts as often as it is met; a slice's spare places count too). A statement '..UptoSaid' is the law's where the arguments, and the package variables that the reading takes, are together of bulk at most 1048576: NARROWER than '..Said'. Prove '..Said' where nothing that the law and all that it calls make is longer than what came in: it says more and counts as full. Else prove '..UptoSaid'. A law counts once. -/
mutual
def uptoBulk {H : Type} : DataW H → Nat
  | .lit (.string bytes) => bytes.length + 1
  | .lit _ => 1
  | .nil => 1
  | .ptr d => uptoBulk d + 1
  | .slice elems spare => uptoBulkAll elems + uptoBulkAll spare + 1
  | .agg parts => uptoBulkAll parts + 1
  | .iface _ d => uptoBulk d + 1
  | .map entries => uptoBulkEntries entries + 1
  | .held _ => 1
def uptoBulkAll {H : Type} : List (DataW H) → Nat
  | [] => 0
  | d :: r => uptoBulk d + uptoBulkAll r
def uptoBulkEntries {H : Type} : List (Lit × DataW H) → Nat
  | [] => 0
  | x :: r => uptoBulkEntry x + uptoBulkEntries r
def uptoBulkEntry {H : Type} : Lit × DataW H → Nat
  | (.string bytes, d) => bytes.length + uptoBulk d + 1
  | (_, d) => uptoBulk d + 1
 end
def uptoSmall : (H : Type) → List (DataW H) → Bool := fun _ ds => decide (uptoBulkAll ds ≤ 1048576)
def OpenSpec.upto (s : _root_.Go.ChangeSpec) : _root_.Go.OpenSpec := { _root_.Go.OpenSpec.ofChange s with cond := some uptoSmall }

/-- 'spandrellaw03.WholePuts', WHERE WHAT IT READS IS OF BULK AT MOST 1048576: true; the input reads as it did. -/
def wholePutsUptoRow : OpenClaim := { program := "ytieefphfldkbhaa", sum := "6940206b3a21ed4480f792dac70a35a44fed26d607171ea133f17037f2cbe931", func := "spandrel/spandrellaw03.WholePuts", spec := "wholePuts", recurses := true, apart := false, narrowed := true }
def WholePutsUptoSaid : Prop := wholePutsUptoRow.holds Try.pinned (OpenSpec.upto wholePutsSpec)

/-- 'spandrellaw03.WholeGets', WHERE WHAT IT READS IS OF BULK AT MOST 1048576: true; the input reads as it did. -/
def wholeGetsUptoRow : OpenClaim := { program := "ytieefphfldkbhaa", sum := "6940206b3a21ed4480f792dac70a35a44fed26d607171ea133f17037f2cbe931", func := "spandrel/spandrellaw03.WholeGets", spec := "wholeGets", recurses := true, apart := false, narrowed := true }
def WholeGetsUptoSaid : Prop := wholeGetsUptoRow.holds Try.pinned (OpenSpec.upto wholeGetsSpec)

/-- 'spandrellaw03.WholeBack', WHERE WHAT IT READS IS OF BULK AT MOST 1048576: true; the input reads as it did. -/
def wholeBackUptoRow : OpenClaim := { program := "ytieefphfldkbhaa", sum := "6940206b3a21ed4480f792dac70a35a44fed26d607171ea133f17037f2cbe931", func := "spandrel/spandrellaw03.WholeBack", spec := "wholeBack", recurses := true, apart := false, narrowed := true }
def WholeBackUptoSaid : Prop := wholeBackUptoRow.holds Try.pinned (OpenSpec.upto wholeBackSpec)

/-- 'spandrellaw03.WholeMoves', WHERE WHAT IT READS IS OF BULK AT MOST 1048576: true; the input reads as it did. -/
def wholeMovesUptoRow : OpenClaim := { program := "ytieefphfldkbhaa", sum := "6940206b3a21ed4480f792dac70a35a44fed26d607171ea133f17037f2cbe931", func := "spandrel/spandrellaw03.WholeMoves", spec := "wholeMoves", recurses := true, apart := false, narrowed := true }
def WholeMovesUptoSaid : Prop := wholeMovesUptoRow.holds Try.pinned (OpenSpec.upto wholeMovesSpec)

/-- 'spandrellaw03.WholeNone', WHERE WHAT IT READS IS OF BULK AT MOST 1048576: true; the input reads as it did. -/
def wholeNoneUptoRow : OpenClaim := { program := "ytieefphfldkbhaa", sum := "6940206b3a21ed4480f792dac70a35a44fed26d607171ea133f17037f2cbe931", func := "spandrel/spandrellaw03.WholeNone", spec := "wholeNone", recurses := true, apart := false, narrowed := true }
def WholeNoneUptoSaid : Prop := wholeNoneUptoRow.holds Try.pinned (OpenSpec.upto wholeNoneSpec)

/-- 'spandrellaw03.WholeCut', WHERE WHAT IT READS IS OF BULK AT MOST 1048576: true; the input reads as it did. -/
def wholeCutUptoRow : OpenClaim := { program := "ytieefphfldkbhaa", sum := "6940206b3a21ed4480f792dac70a35a44fed26d607171ea133f17037f2cbe931", func := "spandrel/spandrellaw03.WholeCut", spec := "wholeCut", recurses := true, apart := false, narrowed := true }
def WholeCutUptoSaid : Prop := wholeCutUptoRow.holds Try.pinned (OpenSpec.upto wholeCutSpec)

/-- 'spandrellaw03.WholeOrder', WHERE WHAT IT READS IS OF BULK AT MOST 1048576: true; the input reads as it did. -/
def wholeOrderUptoRow : OpenClaim := { program := "ytieefphfldkbhaa", sum := "6940206b3a21ed4480f792dac70a35a44fed26d607171ea133f17037f2cbe931", func := "spandrel/spandrellaw03.WholeOrder", spec := "wholeOrder", recurses := true, apart := false, narrowed := true }
def WholeOrderUptoSaid : Prop := wholeOrderUptoRow.holds Try.pinned (OpenSpec.upto wholeOrderSpec)

end Rows
end Go.Proofs.Ytieefphfldkbhaa
