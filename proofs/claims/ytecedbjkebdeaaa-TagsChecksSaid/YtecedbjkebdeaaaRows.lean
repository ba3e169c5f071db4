/-
  NARROWER THAN 'FOR EVERY INPUT', by the rows' own cells (each row's printed sentence says how): TagsChecks: loops · TagsRises: loops.
  DERIVED. THE GIVEN ROWS OF THIS SEAT. 2 by the template 'for every input the law returns true; each argument reads behind the call as it read before'; 0 by the template 'total and deterministic' (their statements: YtecedbjkebdeaaaTotals.lean).
  GIVEN WITH THE SEED: the statements are not yours to turn. If you find one false, say at which input.
  Laid BY PROGRAM, IN A SANDBOX (cutbox-rows.mjs): the forced cells as the released guide's own fill.sh prints them over the translation 85015a3d1cd5d3fe… (all of the seat's roots in one cut). By AI agents, Wed Nov 11 2026. No macro, syntax, notation, axiom, sorry.
-/
import Derived.Test.YtecedbjkebdeaaaChecked
import GoSem.Claim
import GoSem.ClaimJoined
import GoSem.ClaimMapViews
import Derived.JoinedTies
import Derived.KernelRfl
namespace Go.Proofs.Ytecedbjkebdeaaa
/- THE CELL 'sum', in the pinned program and in every row, IS THE sha256 OF THE DUMP (.gsa) THAT YtecedbjkebdeaaaProg.lean LOADS. Nothing in Lean hashes anything: it is a label: what it is worth is what the hold of that sum in a sandbox is worth. -/
noncomputable def Try.pinned : Pinned := { name := "ytecedbjkebdeaaa", sum := "85015a3d1cd5d3fec21aef49d63b00ec498dacdefe2a4c5ebe57907797442e2d", checked := Try.checked }
namespace Rows
def none {H : Type} : Left H := { results := [], args := [] }

/-- 'spandrellaw13.TagsChecks': WHATEVER THE INPUT: true; the input reads as it did. -/
def tagsChecksSpec : ChangeSpec := { name := "tagsChecks", fn := fun _ => fun
  | [d] => { results := [.lit (.bool true)], args := [d] }
  | _ => none }
def tagsChecksRow : OpenClaim := { program := "ytecedbjkebdeaaa", sum := "85015a3d1cd5d3fec21aef49d63b00ec498dacdefe2a4c5ebe57907797442e2d", func := "spandrel/spandrellaw13.TagsChecks", spec := "tagsChecks", unfollowed := true, recurses := true, loops := true, apart := false }
def TagsChecksSaid : Prop := tagsChecksRow.holds Try.pinned (OpenSpec.ofChange tagsChecksSpec)

/-- ITS FALSE NEIGHBOUR: 'it returns false'. Refute it at one input. -/
def tagsChecksWrong : ChangeSpec := { name := "tagsChecks", fn := fun _ => fun
  | [d] => { results := [.lit (.bool false)], args := [d] }
  | _ => none }
def TagsChecksWrongFalsely : Prop := tagsChecksRow.holds Try.pinned (OpenSpec.ofChange tagsChecksWrong)

/-- 'spandrellaw13.TagsRises': WHATEVER THE INPUT: true; the input reads as it did. -/
def tagsRisesSpec : ChangeSpec := { name := "tagsRises", fn := fun _ => fun
  | [d1, d2] => { results := [.lit (.bool true)], args := [d1, d2] }
  | _ => none }
def tagsRisesRow : OpenClaim := { program := "ytecedbjkebdeaaa", sum := "85015a3d1cd5d3fec21aef49d63b00ec498dacdefe2a4c5ebe57907797442e2d", func := "spandrel/spandrellaw13.TagsRises", spec := "tagsRises", unfollowed := true, recurses := true, loops := true, apart := false }
def TagsRisesSaid : Prop := tagsRisesRow.holds Try.pinned (OpenSpec.ofChange tagsRisesSpec)

/-- ITS FALSE NEIGHBOUR: 'it returns false'. Refute it at one input. -/
def tagsRisesWrong : ChangeSpec := { name := "tagsRises", fn := fun _ => fun
  | [d1, d2] => { results := [.lit (.bool false)], args := [d1, d2] }
  | _ => none }
def TagsRisesWrongFalsely : Prop := tagsRisesRow.holds Try.pinned (OpenSpec.ofChange tagsRisesWrong)

/- THE SECOND FORM. 'bulk': how many values and letters a reading holds, each counted each time it is reached (what is shared counts as often as it is met; a slice's spare places count too). A statement '..UptoSaid' is the law's where the arguments, and the package variables that the reading takes, are together of bulk at most 1048576: NARROWER than '..Said'. Prove '..Said' where nothing that the law and all that it calls make is longer than what came in: it says more and counts as full. Else prove '..UptoSaid'. A law counts once. -/
mutual
def uptoBulk {H : Type} : DataW H → Nat
  | .lit (.string bytes) => bytes.length + 1
  | .lit _ => 1
  | .nil => 1
  | .ptr d => uptoBulk d + 1
  | .slice elems spare => uptoBulkAll elems + uptoBulkAll spare + 1
  | .agg parts => uptoBulkAll parts + 1
  | .iface _ d => uptoBulk d + 1
  | .map entries => uptoBulkEntries entries + 1
  | .held _ => 1
def uptoBulkAll {H : Type} : List (DataW H) → Nat
  | [] => 0
  | d :: r => uptoBulk d + uptoBulkAll r
def uptoBulkEntries {H : Type} : List (Lit × DataW H) → Nat
  | [] => 0
  | x :: r => uptoBulkEntry x + uptoBulkEntries r
def uptoBulkEntry {H : Type} : Lit × DataW H → Nat
  | (.string bytes, d) => bytes.length + uptoBulk d + 1
  | (_, d) => uptoBulk d + 1
 end
def uptoSmall : (H : Type) → List (DataW H) → Bool := fun _ ds => decide (uptoBulkAll ds ≤ 1048576)
def OpenSpec.upto (s : _root_.Go.ChangeSpec) : _root_.Go.OpenSpec := { _root_.Go.OpenSpec.ofChange s with cond := some uptoSmall }

/-- 'spandrellaw13.TagsChecks', WHERE WHAT IT READS IS OF BULK AT MOST 1048576: true; the input reads as it did. -/
def tagsChecksUptoRow : OpenClaim := { program := "ytecedbjkebdeaaa", sum := "85015a3d1cd5d3fec21aef49d63b00ec498dacdefe2a4c5ebe57907797442e2d", func := "spandrel/spandrellaw13.TagsChecks", spec := "tagsChecks", unfollowed := true, recurses := true, loops := true, apart := false, narrowed := true }
def TagsChecksUptoSaid : Prop := tagsChecksUptoRow.holds Try.pinned (OpenSpec.upto tagsChecksSpec)

/-- 'spandrellaw13.TagsRises', WHERE WHAT IT READS IS OF BULK AT MOST 1048576: true; the input reads as it did. -/
def tagsRisesUptoRow : OpenClaim := { program := "ytecedbjkebdeaaa", sum := "85015a3d1cd5d3fec21aef49d63b00ec498dacdefe2a4c5ebe57907797442e2d", func := "spandrel/spandrellaw13.TagsRises", spec := "tagsRises", unfollowed := true, recurses := true, loops := true, apart := false, narrowed := true }
def TagsRisesUptoSaid : Prop := tagsRisesUptoRow.holds Try.pinned (OpenSpec.upto tagsRisesSpec)

end Rows
end Go.Proofs.Ytecedbjkebdeaaa
