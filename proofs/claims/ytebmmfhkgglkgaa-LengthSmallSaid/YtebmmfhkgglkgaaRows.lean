/-
  No cell of these rows narrows 'for every input' (looked for: loops, veiled, ifaces, maps, wideKeys, modest, calm, conditions, laid).
  DERIVED. THE GIVEN ROWS OF THIS SEAT. 7 by the template 'for every input the law returns true; each argument reads behind the call as it read before'; 0 by the template 'total and deterministic' (their statements: YtebmmfhkgglkgaaTotals.lean).
  GIVEN WITH THE SEED: the statements are not yours to turn. If you find one false, say at which input.
  Laid BY PROGRAM, IN A SANDBOX (cutbox-rows.mjs): the forced cells as the released guide's own fill.sh prints them over the translation 787b638a4dd0fc1e… (all of the seat's roots in one cut). By AI agents, Wed Nov 11 2026. No macro, syntax, notation, axiom, sorry.
-/
import Derived.Test.YtebmmfhkgglkgaaChecked
import GoSem.Claim
import GoSem.ClaimJoined
import GoSem.ClaimMapViews
import Derived.JoinedTies
import Derived.KernelRfl
namespace Go.Proofs.Ytebmmfhkgglkgaa
/- THE CELL 'sum', in the pinned program and in every row, IS THE sha256 OF THE DUMP (.gsa) THAT YtebmmfhkgglkgaaProg.lean LOADS. Nothing in Lean hashes anything: it is a label: what it is worth is what the hold of that sum in a sandbox is worth. -/
noncomputable def Try.pinned : Pinned := { name := "ytebmmfhkgglkgaa", sum := "787b638a4dd0fc1ef21e69f3f77709659e7b09cc6b5cd6ca66b04eddccaf59b2", checked := Try.checked }
namespace Rows
def none {H : Type} : Left H := { results := [], args := [] }

/-- 'spandrellaw04.LengthPuts': WHATEVER THE INPUT: true; the input reads as it did. -/
def lengthPutsSpec : ChangeSpec := { name := "lengthPuts", fn := fun _ => fun
  | [d1, d2, d3, d4, d5] => { results := [.lit (.bool true)], args := [d1, d2, d3, d4, d5] }
  | _ => none }
def lengthPutsRow : OpenClaim := { program := "ytebmmfhkgglkgaa", sum := "787b638a4dd0fc1ef21e69f3f77709659e7b09cc6b5cd6ca66b04eddccaf59b2", func := "spandrel/spandrellaw04.LengthPuts", spec := "lengthPuts", recurses := true, apart := false }
def LengthPutsSaid : Prop := lengthPutsRow.holds Try.pinned (OpenSpec.ofChange lengthPutsSpec)

/-- ITS FALSE NEIGHBOUR: 'it returns false'. Refute it at one input. -/
def lengthPutsWrong : ChangeSpec := { name := "lengthPuts", fn := fun _ => fun
  | [d1, d2, d3, d4, d5] => { results := [.lit (.bool false)], args := [d1, d2, d3, d4, d5] }
  | _ => none }
def LengthPutsWrongFalsely : Prop := lengthPutsRow.holds Try.pinned (OpenSpec.ofChange lengthPutsWrong)

/-- 'spandrellaw04.LengthGets': WHATEVER THE INPUT: true; the input reads as it did. -/
def lengthGetsSpec : ChangeSpec := { name := "lengthGets", fn := fun _ => fun
  | [d1, d2, d3, d4, d5] => { results := [.lit (.bool true)], args := [d1, d2, d3, d4, d5] }
  | _ => none }
def lengthGetsRow : OpenClaim := { program := "ytebmmfhkgglkgaa", sum := "787b638a4dd0fc1ef21e69f3f77709659e7b09cc6b5cd6ca66b04eddccaf59b2", func := "spandrel/spandrellaw04.LengthGets", spec := "lengthGets", recurses := true, apart := false }
def LengthGetsSaid : Prop := lengthGetsRow.holds Try.pinned (OpenSpec.ofChange lengthGetsSpec)

/-- ITS FALSE NEIGHBOUR: 'it returns false'. Refute it at one input. -/
def lengthGetsWrong : ChangeSpec := { name := "lengthGets", fn := fun _ => fun
  | [d1, d2, d3, d4, d5] => { results := [.lit (.bool false)], args := [d1, d2, d3, d4, d5] }
  | _ => none }
def LengthGetsWrongFalsely : Prop := lengthGetsRow.holds Try.pinned (OpenSpec.ofChange lengthGetsWrong)

/-- 'spandrellaw04.LengthBack': WHATEVER THE INPUT: true; the input reads as it did. -/
def lengthBackSpec : ChangeSpec := { name := "lengthBack", fn := fun _ => fun
  | [d1, d2, d3, d4, d5] => { results := [.lit (.bool true)], args := [d1, d2, d3, d4, d5] }
  | _ => none }
def lengthBackRow : OpenClaim := { program := "ytebmmfhkgglkgaa", sum := "787b638a4dd0fc1ef21e69f3f77709659e7b09cc6b5cd6ca66b04eddccaf59b2", func := "spandrel/spandrellaw04.LengthBack", spec := "lengthBack", recurses := true, apart := false }
def LengthBackSaid : Prop := lengthBackRow.holds Try.pinned (OpenSpec.ofChange lengthBackSpec)

/-- ITS FALSE NEIGHBOUR: 'it returns false'. Refute it at one input. -/
def lengthBackWrong : ChangeSpec := { name := "lengthBack", fn := fun _ => fun
  | [d1, d2, d3, d4, d5] => { results := [.lit (.bool false)], args := [d1, d2, d3, d4, d5] }
  | _ => none }
def LengthBackWrongFalsely : Prop := lengthBackRow.holds Try.pinned (OpenSpec.ofChange lengthBackWrong)

/-- 'spandrellaw04.LengthSmall': WHATEVER THE INPUT: true; the input reads as it did. -/
def lengthSmallSpec : ChangeSpec := { name := "lengthSmall", fn := fun _ => fun
  | [d1, d2, d3] => { results := [.lit (.bool true)], args := [d1, d2, d3] }
  | _ => none }
def lengthSmallRow : OpenClaim := { program := "ytebmmfhkgglkgaa", sum := "787b638a4dd0fc1ef21e69f3f77709659e7b09cc6b5cd6ca66b04eddccaf59b2", func := "spandrel/spandrellaw04.LengthSmall", spec := "lengthSmall", recurses := true, apart := false }
def LengthSmallSaid : Prop := lengthSmallRow.holds Try.pinned (OpenSpec.ofChange lengthSmallSpec)

/-- ITS FALSE NEIGHBOUR: 'it returns false'. Refute it at one input. -/
def lengthSmallWrong : ChangeSpec := { name := "lengthSmall", fn := fun _ => fun
  | [d1, d2, d3] => { results := [.lit (.bool false)], args := [d1, d2, d3] }
  | _ => none }
def LengthSmallWrongFalsely : Prop := lengthSmallRow.holds Try.pinned (OpenSpec.ofChange lengthSmallWrong)

/-- 'spandrellaw04.LengthPieces': WHATEVER THE INPUT: true; the input reads as it did. -/
def lengthPiecesSpec : ChangeSpec := { name := "lengthPieces", fn := fun _ => fun
  | [d] => { results := [.lit (.bool true)], args := [d] }
  | _ => none }
def lengthPiecesRow : OpenClaim := { program := "ytebmmfhkgglkgaa", sum := "787b638a4dd0fc1ef21e69f3f77709659e7b09cc6b5cd6ca66b04eddccaf59b2", func := "spandrel/spandrellaw04.LengthPieces", spec := "lengthPieces", recurses := true, apart := false }
def LengthPiecesSaid : Prop := lengthPiecesRow.holds Try.pinned (OpenSpec.ofChange lengthPiecesSpec)

/-- ITS FALSE NEIGHBOUR: 'it returns false'. Refute it at one input. -/
def lengthPiecesWrong : ChangeSpec := { name := "lengthPieces", fn := fun _ => fun
  | [d] => { results := [.lit (.bool false)], args := [d] }
  | _ => none }
def LengthPiecesWrongFalsely : Prop := lengthPiecesRow.holds Try.pinned (OpenSpec.ofChange lengthPiecesWrong)

/-- 'spandrellaw04.LengthNone': WHATEVER THE INPUT: true; the input reads as it did. -/
def lengthNoneSpec : ChangeSpec := { name := "lengthNone", fn := fun _ => fun
  | [d1, d2, d3, d4] => { results := [.lit (.bool true)], args := [d1, d2, d3, d4] }
  | _ => none }
def lengthNoneRow : OpenClaim := { program := "ytebmmfhkgglkgaa", sum := "787b638a4dd0fc1ef21e69f3f77709659e7b09cc6b5cd6ca66b04eddccaf59b2", func := "spandrel/spandrellaw04.LengthNone", spec := "lengthNone", recurses := true, apart := false }
def LengthNoneSaid : Prop := lengthNoneRow.holds Try.pinned (OpenSpec.ofChange lengthNoneSpec)

/-- ITS FALSE NEIGHBOUR: 'it returns false'. Refute it at one input. -/
def lengthNoneWrong : ChangeSpec := { name := "lengthNone", fn := fun _ => fun
  | [d1, d2, d3, d4] => { results := [.lit (.bool false)], args := [d1, d2, d3, d4] }
  | _ => none }
def LengthNoneWrongFalsely : Prop := lengthNoneRow.holds Try.pinned (OpenSpec.ofChange lengthNoneWrong)

/-- 'spandrellaw04.LengthOrder': WHATEVER THE INPUT: true; the input reads as it did. -/
def lengthOrderSpec : ChangeSpec := { name := "lengthOrder", fn := fun _ => fun
  | [d1, d2] => { results := [.lit (.bool true)], args := [d1, d2] }
  | _ => none }
def lengthOrderRow : OpenClaim := { program := "ytebmmfhkgglkgaa", sum := "787b638a4dd0fc1ef21e69f3f77709659e7b09cc6b5cd6ca66b04eddccaf59b2", func := "spandrel/spandrellaw04.LengthOrder", spec := "lengthOrder", recurses := true, apart := false }
def LengthOrderSaid : Prop := lengthOrderRow.holds Try.pinned (OpenSpec.ofChange lengthOrderSpec)

/-- ITS FALSE NEIGHBOUR: 'it returns false'. Refute it at one input. -/
def lengthOrderWrong : ChangeSpec := { name := "lengthOrder", fn := fun _ => fun
  | [d1, d2] => { results := [.lit (.bool false)], args := [d1, d2] }
  | _ => none }
def LengthOrderWrongFalsely : Prop := lengthOrderRow.holds Try.pinned (OpenSpec.ofChange lengthOrderWrong)

/- THE SECOND FORM. 'bulk': how many values and letters a reading holds, each counted each time it is reached (what is shared counts as often as it is met; a slice's spare places count too). A statement '..UptoSaid' is the law's where the arguments, and the package variables that the reading takes, are together of bulk at most 1048576: NARROWER than '..Said'. Prove '..Said' where nothing that the law and all that it calls make is longer than what came in: it says more and counts as full. Else prove '..UptoSaid'. A law counts once. -/
mutual
def uptoBulk {H : Type} : DataW H → Nat
  | .lit (.string bytes) => bytes.length + 1
  | .lit _ => 1
  | .nil => 1
  | .ptr d => uptoBulk d + 1
  | .slice elems spare => uptoBulkAll elems + uptoBulkAll spare + 1
  | .agg parts => uptoBulkAll parts + 1
  | .iface _ d => uptoBulk d + 1
  | .map entries => uptoBulkEntries entries + 1
  | .held _ => 1
def uptoBulkAll {H : Type} : List (DataW H) → Nat
  | [] => 0
  | d :: r => uptoBulk d + uptoBulkAll r
def uptoBulkEntries {H : Type} : List (Lit × DataW H) → Nat
  | [] => 0
  | x :: r => uptoBulkEntry x + uptoBulkEntries r
def uptoBulkEntry {H : Type} : Lit × DataW H → Nat
  | (.string bytes, d) => bytes.length + uptoBulk d + 1
  | (_, d) => uptoBulk d + 1
 end
def uptoSmall : (H : Type) → List (DataW H) → Bool := fun _ ds => decide (uptoBulkAll ds ≤ 1048576)
def OpenSpec.upto (s : _root_.Go.ChangeSpec) : _root_.Go.OpenSpec := { _root_.Go.OpenSpec.ofChange s with cond := some uptoSmall }

/-- 'spandrellaw04.LengthPuts', WHERE WHAT IT READS IS OF BULK AT MOST 1048576: true; the input reads as it did. -/
def lengthPutsUptoRow : OpenClaim := { program := "ytebmmfhkgglkgaa", sum := "787b638a4dd0fc1ef21e69f3f77709659e7b09cc6b5cd6ca66b04eddccaf59b2", func := "spandrel/spandrellaw04.LengthPuts", spec := "lengthPuts", recurses := true, apart := false, narrowed := true }
def LengthPutsUptoSaid : Prop := lengthPutsUptoRow.holds Try.pinned (OpenSpec.upto lengthPutsSpec)

/-- 'spandrellaw04.LengthGets', WHERE WHAT IT READS IS OF BULK AT MOST 1048576: true; the input reads as it did. -/
def lengthGetsUptoRow : OpenClaim := { program := "ytebmmfhkgglkgaa", sum := "787b638a4dd0fc1ef21e69f3f77709659e7b09cc6b5cd6ca66b04eddccaf59b2", func := "spandrel/spandrellaw04.LengthGets", spec := "lengthGets", recurses := true, apart := false, narrowed := true }
def LengthGetsUptoSaid : Prop := lengthGetsUptoRow.holds Try.pinned (OpenSpec.upto lengthGetsSpec)

/-- 'spandrellaw04.LengthBack', WHERE WHAT IT READS IS OF BULK AT MOST 1048576: true; the input reads as it did. -/
def lengthBackUptoRow : OpenClaim := { program := "ytebmmfhkgglkgaa", sum := "787b638a4dd0fc1ef21e69f3f77709659e7b09cc6b5cd6ca66b04eddccaf59b2", func := "spandrel/spandrellaw04.LengthBack", spec := "lengthBack", recurses := true, apart := false, narrowed := true }
def LengthBackUptoSaid : Prop := lengthBackUptoRow.holds Try.pinned (OpenSpec.upto lengthBackSpec)

/-- 'spandrellaw04.LengthSmall', WHERE WHAT IT READS IS OF BULK AT MOST 1048576: true; the input reads as it did. -/
def lengthSmallUptoRow : OpenClaim := { program := "ytebmmfhkgglkgaa", sum := "787b638a4dd0fc1ef21e69f3f77709659e7b09cc6b5cd6ca66b04eddccaf59b2", func := "spandrel/spandrellaw04.LengthSmall", spec := "lengthSmall", recurses := true, apart := false, narrowed := true }
def LengthSmallUptoSaid : Prop := lengthSmallUptoRow.holds Try.pinned (OpenSpec.upto lengthSmallSpec)

/-- 'spandrellaw04.LengthPieces', WHERE WHAT IT READS IS OF BULK AT MOST 1048576: true; the input reads as it did. -/
def lengthPiecesUptoRow : OpenClaim := { program := "ytebmmfhkgglkgaa", sum := "787b638a4dd0fc1ef21e69f3f77709659e7b09cc6b5cd6ca66b04eddccaf59b2", func := "spandrel/spandrellaw04.LengthPieces", spec := "lengthPieces", recurses := true, apart := false, narrowed := true }
def LengthPiecesUptoSaid : Prop := lengthPiecesUptoRow.holds Try.pinned (OpenSpec.upto lengthPiecesSpec)

/-- 'spandrellaw04.LengthNone', WHERE WHAT IT READS IS OF BULK AT MOST 1048576: true; the input reads as it did. -/
def lengthNoneUptoRow : OpenClaim := { program := "ytebmmfhkgglkgaa", sum := "787b638a4dd0fc1ef21e69f3f77709659e7b09cc6b5cd6ca66b04eddccaf59b2", func := "spandrel/spandrellaw04.LengthNone", spec := "lengthNone", recurses := true, apart := false, narrowed := true }
def LengthNoneUptoSaid : Prop := lengthNoneUptoRow.holds Try.pinned (OpenSpec.upto lengthNoneSpec)

/-- 'spandrellaw04.LengthOrder', WHERE WHAT IT READS IS OF BULK AT MOST 1048576: true; the input reads as it did. -/
def lengthOrderUptoRow : OpenClaim := { program := "ytebmmfhkgglkgaa", sum := "787b638a4dd0fc1ef21e69f3f77709659e7b09cc6b5cd6ca66b04eddccaf59b2", func := "spandrel/spandrellaw04.LengthOrder", spec := "lengthOrder", recurses := true, apart := false, narrowed := true }
def LengthOrderUptoSaid : Prop := lengthOrderUptoRow.holds Try.pinned (OpenSpec.upto lengthOrderSpec)

end Rows
end Go.Proofs.Ytebmmfhkgglkgaa
