/-
  NARROWER THAN 'FOR EVERY INPUT', by the rows' own cells (each row's printed sentence says how): BoundsSets: loops · BoundsTypes: loops · BoundsHas: loops · BoundsParts: loops · BoundsEnds: loops.
  DERIVED. THE GIVEN ROWS OF THIS SEAT. 5 by the template 'for every input the law returns true; each argument reads behind the call as it read before'; 0 by the template 'total and deterministic' (their statements: YtfnpjdglfaaegaaTotals.lean).
  GIVEN WITH THE SEED: the statements are not yours to turn. If you find one false, say at which input.
  Laid BY PROGRAM, IN A SANDBOX (cutbox-rows.mjs): the forced cells as the released guide's own fill.sh prints them over the translation e98859442af4c37e… (all of the seat's roots in one cut). By AI agents, Wed Nov 11 2026. No macro, syntax, notation, axiom, sorry.
-/
import Derived.Test.YtfnpjdglfaaegaaChecked
import GoSem.Claim
import GoSem.ClaimJoined
import GoSem.ClaimMapViews
import Derived.JoinedTies
import Derived.KernelRfl
namespace Go.Proofs.Ytfnpjdglfaaegaa
/- THE CELL 'sum', in the pinned program and in every row, IS THE sha256 OF THE DUMP (.gsa) THAT YtfnpjdglfaaegaaProg.lean LOADS. Nothing in Lean hashes anything: it is a label: what it is worth is what the hold of that sum in a sandbox is worth. -/
noncomputable def Try.pinned : Pinned := { name := "ytfnpjdglfaaegaa", sum := "e98859442af4c37ecbd92d2300f670fa8f3a9a05cc03b323d62f116194660c29", checked := Try.checked }
namespace Rows
def none {H : Type} : Left H := { results := [], args := [] }

/-- 'spandrellaw12.BoundsSets': WHATEVER THE INPUT: true; the input reads as it did. -/
def boundsSetsSpec : ChangeSpec := { name := "boundsSets", fn := fun _ => fun
  | [d1, d2] => { results := [.lit (.bool true)], args := [d1, d2] }
  | _ => none }
def boundsSetsRow : OpenClaim := { program := "ytfnpjdglfaaegaa", sum := "e98859442af4c37ecbd92d2300f670fa8f3a9a05cc03b323d62f116194660c29", func := "spandrel/spandrellaw12.BoundsSets", spec := "boundsSets", unfollowed := true, recurses := true, loops := true, apart := false }
def BoundsSetsSaid : Prop := boundsSetsRow.holds Try.pinned (OpenSpec.ofChange boundsSetsSpec)

/-- ITS FALSE NEIGHBOUR: 'it returns false'. Refute it at one input. -/
def boundsSetsWrong : ChangeSpec := { name := "boundsSets", fn := fun _ => fun
  | [d1, d2] => { results := [.lit (.bool false)], args := [d1, d2] }
  | _ => none }
def BoundsSetsWrongFalsely : Prop := boundsSetsRow.holds Try.pinned (OpenSpec.ofChange boundsSetsWrong)

/-- 'spandrellaw12.BoundsTypes': WHATEVER THE INPUT: true; the input reads as it did. -/
def boundsTypesSpec : ChangeSpec := { name := "boundsTypes", fn := fun _ => fun
  | [d1, d2] => { results := [.lit (.bool true)], args := [d1, d2] }
  | _ => none }
def boundsTypesRow : OpenClaim := { program := "ytfnpjdglfaaegaa", sum := "e98859442af4c37ecbd92d2300f670fa8f3a9a05cc03b323d62f116194660c29", func := "spandrel/spandrellaw12.BoundsTypes", spec := "boundsTypes", unfollowed := true, recurses := true, loops := true, apart := false }
def BoundsTypesSaid : Prop := boundsTypesRow.holds Try.pinned (OpenSpec.ofChange boundsTypesSpec)

/-- ITS FALSE NEIGHBOUR: 'it returns false'. Refute it at one input. -/
def boundsTypesWrong : ChangeSpec := { name := "boundsTypes", fn := fun _ => fun
  | [d1, d2] => { results := [.lit (.bool false)], args := [d1, d2] }
  | _ => none }
def BoundsTypesWrongFalsely : Prop := boundsTypesRow.holds Try.pinned (OpenSpec.ofChange boundsTypesWrong)

/-- 'spandrellaw12.BoundsHas': WHATEVER THE INPUT: true; the input reads as it did. -/
def boundsHasSpec : ChangeSpec := { name := "boundsHas", fn := fun _ => fun
  | [d1, d2, d3] => { results := [.lit (.bool true)], args := [d1, d2, d3] }
  | _ => none }
def boundsHasRow : OpenClaim := { program := "ytfnpjdglfaaegaa", sum := "e98859442af4c37ecbd92d2300f670fa8f3a9a05cc03b323d62f116194660c29", func := "spandrel/spandrellaw12.BoundsHas", spec := "boundsHas", unfollowed := true, recurses := true, loops := true, apart := false }
def BoundsHasSaid : Prop := boundsHasRow.holds Try.pinned (OpenSpec.ofChange boundsHasSpec)

/-- ITS FALSE NEIGHBOUR: 'it returns false'. Refute it at one input. -/
def boundsHasWrong : ChangeSpec := { name := "boundsHas", fn := fun _ => fun
  | [d1, d2, d3] => { results := [.lit (.bool false)], args := [d1, d2, d3] }
  | _ => none }
def BoundsHasWrongFalsely : Prop := boundsHasRow.holds Try.pinned (OpenSpec.ofChange boundsHasWrong)

/-- 'spandrellaw12.BoundsParts': WHATEVER THE INPUT: true; the input reads as it did. -/
def boundsPartsSpec : ChangeSpec := { name := "boundsParts", fn := fun _ => fun
  | [d1, d2, d3] => { results := [.lit (.bool true)], args := [d1, d2, d3] }
  | _ => none }
def boundsPartsRow : OpenClaim := { program := "ytfnpjdglfaaegaa", sum := "e98859442af4c37ecbd92d2300f670fa8f3a9a05cc03b323d62f116194660c29", func := "spandrel/spandrellaw12.BoundsParts", spec := "boundsParts", unfollowed := true, recurses := true, loops := true, apart := false }
def BoundsPartsSaid : Prop := boundsPartsRow.holds Try.pinned (OpenSpec.ofChange boundsPartsSpec)

/-- ITS FALSE NEIGHBOUR: 'it returns false'. Refute it at one input. -/
def boundsPartsWrong : ChangeSpec := { name := "boundsParts", fn := fun _ => fun
  | [d1, d2, d3] => { results := [.lit (.bool false)], args := [d1, d2, d3] }
  | _ => none }
def BoundsPartsWrongFalsely : Prop := boundsPartsRow.holds Try.pinned (OpenSpec.ofChange boundsPartsWrong)

/-- 'spandrellaw12.BoundsEnds': WHATEVER THE INPUT: true; the input reads as it did. -/
def boundsEndsSpec : ChangeSpec := { name := "boundsEnds", fn := fun _ => fun
  | [d1, d2, d3] => { results := [.lit (.bool true)], args := [d1, d2, d3] }
  | _ => none }
def boundsEndsRow : OpenClaim := { program := "ytfnpjdglfaaegaa", sum := "e98859442af4c37ecbd92d2300f670fa8f3a9a05cc03b323d62f116194660c29", func := "spandrel/spandrellaw12.BoundsEnds", spec := "boundsEnds", unfollowed := true, recurses := true, loops := true, apart := false }
def BoundsEndsSaid : Prop := boundsEndsRow.holds Try.pinned (OpenSpec.ofChange boundsEndsSpec)

/-- ITS FALSE NEIGHBOUR: 'it returns false'. Refute it at one input. -/
def boundsEndsWrong : ChangeSpec := { name := "boundsEnds", fn := fun _ => fun
  | [d1, d2, d3] => { results := [.lit (.bool false)], args := [d1, d2, d3] }
  | _ => none }
def BoundsEndsWrongFalsely : Prop := boundsEndsRow.holds Try.pinned (OpenSpec.ofChange boundsEndsWrong)

/- THE SECOND FORM. 'bulk': how many values and letters a reading holds, each counted each time it is reached (what is shared counts as often as it is met; a slice's spare places count too). A statement '..UptoSaid' is the law's where the arguments, and the package variables that the reading takes, are together of bulk at most 1048576: NARROWER than '..Said'. Prove '..Said' where nothing that the law and all that it calls make is longer than what came in: it says more and counts as full. Else prove '..UptoSaid'. A law counts once. -/
mutual
def uptoBulk {H : Type} : DataW H → Nat
  | .lit (.string bytes) => bytes.length + 1
  | .lit _ => 1
  | .nil => 1
  | .ptr d => uptoBulk d + 1
  | .slice elems spare => uptoBulkAll elems + uptoBulkAll spare + 1
  | .agg parts => uptoBulkAll parts + 1
  | .iface _ d => uptoBulk d + 1
  | .map entries => uptoBulkEntries entries + 1
  | .held _ => 1
def uptoBulkAll {H : Type} : List (DataW H) → Nat
  | [] => 0
  | d :: r => uptoBulk d + uptoBulkAll r
def uptoBulkEntries {H : Type} : List (Lit × DataW H) → Nat
  | [] => 0
  | x :: r => uptoBulkEntry x + uptoBulkEntries r
def uptoBulkEntry {H : Type} : Lit × DataW H → Nat
  | (.string bytes, d) => bytes.length + uptoBulk d + 1
  | (_, d) => uptoBulk d + 1
 end
def uptoSmall : (H : Type) → List (DataW H) → Bool := fun _ ds => decide (uptoBulkAll ds ≤ 1048576)
def OpenSpec.upto (s : _root_.Go.ChangeSpec) : _root_.Go.OpenSpec := { _root_.Go.OpenSpec.ofChange s with cond := some uptoSmall }

/-- 'spandrellaw12.BoundsSets', WHERE WHAT IT READS IS OF BULK AT MOST 1048576: true; the input reads as it did. -/
def boundsSetsUptoRow : OpenClaim := { program := "ytfnpjdglfaaegaa", sum := "e98859442af4c37ecbd92d2300f670fa8f3a9a05cc03b323d62f116194660c29", func := "spandrel/spandrellaw12.BoundsSets", spec := "boundsSets", unfollowed := true, recurses := true, loops := true, apart := false, narrowed := true }
def BoundsSetsUptoSaid : Prop := boundsSetsUptoRow.holds Try.pinned (OpenSpec.upto boundsSetsSpec)

/-- 'spandrellaw12.BoundsTypes', WHERE WHAT IT READS IS OF BULK AT MOST 1048576: true; the input reads as it did. -/
def boundsTypesUptoRow : OpenClaim := { program := "ytfnpjdglfaaegaa", sum := "e98859442af4c37ecbd92d2300f670fa8f3a9a05cc03b323d62f116194660c29", func := "spandrel/spandrellaw12.BoundsTypes", spec := "boundsTypes", unfollowed := true, recurses := true, loops := true, apart := false, narrowed := true }
def BoundsTypesUptoSaid : Prop := boundsTypesUptoRow.holds Try.pinned (OpenSpec.upto boundsTypesSpec)

/-- 'spandrellaw12.BoundsHas', WHERE WHAT IT READS IS OF BULK AT MOST 1048576: true; the input reads as it did. -/
def boundsHasUptoRow : OpenClaim := { program := "ytfnpjdglfaaegaa", sum := "e98859442af4c37ecbd92d2300f670fa8f3a9a05cc03b323d62f116194660c29", func := "spandrel/spandrellaw12.BoundsHas", spec := "boundsHas", unfollowed := true, recurses := true, loops := true, apart := false, narrowed := true }
def BoundsHasUptoSaid : Prop := boundsHasUptoRow.holds Try.pinned (OpenSpec.upto boundsHasSpec)

/-- 'spandrellaw12.BoundsParts', WHERE WHAT IT READS IS OF BULK AT MOST 1048576: true; the input reads as it did. -/
def boundsPartsUptoRow : OpenClaim := { program := "ytfnpjdglfaaegaa", sum := "e98859442af4c37ecbd92d2300f670fa8f3a9a05cc03b323d62f116194660c29", func := "spandrel/spandrellaw12.BoundsParts", spec := "boundsParts", unfollowed := true, recurses := true, loops := true, apart := false, narrowed := true }
def BoundsPartsUptoSaid : Prop := boundsPartsUptoRow.holds Try.pinned (OpenSpec.upto boundsPartsSpec)

/-- 'spandrellaw12.BoundsEnds', WHERE WHAT IT READS IS OF BULK AT MOST 1048576: true; the input reads as it did. -/
def boundsEndsUptoRow : OpenClaim := { program := "ytfnpjdglfaaegaa", sum := "e98859442af4c37ecbd92d2300f670fa8f3a9a05cc03b323d62f116194660c29", func := "spandrel/spandrellaw12.BoundsEnds", spec := "boundsEnds", unfollowed := true, recurses := true, loops := true, apart := false, narrowed := true }
def BoundsEndsUptoSaid : Prop := boundsEndsUptoRow.holds Try.pinned (OpenSpec.upto boundsEndsSpec)

end Rows
end Go.Proofs.Ytfnpjdglfaaegaa
