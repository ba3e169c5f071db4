/-
  No cell of these rows narrows 'for every input' (looked for: loops, veiled, ifaces, maps, wideKeys, modest, calm, conditions, laid).
  DERIVED. THE GIVEN ROWS OF THIS SEAT. 7 by the template 'for every input the law returns true; each argument reads behind the call as it read before'; 0 by the template 'total and deterministic' (their statements: YtinggfelgcdkfaaTotals.lean).
  GIVEN WITH THE SEED: the statements are not yours to turn. If you find one false, say at which input.
  Laid BY PROGRAM, IN A SANDBOX (cutbox-rows.mjs): the forced cells as the released guide's own fill.sh prints them over the translation 085fec2fa4f5787b… (all of the seat's roots in one cut). By AI agents, Wed Nov 11 2026. No macro, syntax, notation, axiom, sorry.
-/
import Derived.Test.YtinggfelgcdkfaaChecked
import GoSem.Claim
import GoSem.ClaimJoined
import GoSem.ClaimMapViews
import Derived.JoinedTies
import Derived.KernelRfl
namespace Go.Proofs.Ytinggfelgcdkfaa
/- THE CELL 'sum', in the pinned program and in every row, IS THE sha256 OF THE DUMP (.gsa) THAT YtinggfelgcdkfaaProg.lean LOADS. Nothing in Lean hashes anything: it is a label: what it is worth is what the hold of that sum in a sandbox is worth. -/
noncomputable def Try.pinned : Pinned := { name := "ytinggfelgcdkfaa", sum := "085fec2fa4f5787b1c255fe39d562511b73a6d4f738a2acb2820912e5ef2771a", checked := Try.checked }
namespace Rows
def none {H : Type} : Left H := { results := [], args := [] }

/-- 'spandrellaw05.OpenPuts': WHATEVER THE INPUT: true; the input reads as it did. -/
def openPutsSpec : ChangeSpec := { name := "openPuts", fn := fun _ => fun
  | [d1, d2, d3, d4, d5] => { results := [.lit (.bool true)], args := [d1, d2, d3, d4, d5] }
  | _ => none }
def openPutsRow : OpenClaim := { program := "ytinggfelgcdkfaa", sum := "085fec2fa4f5787b1c255fe39d562511b73a6d4f738a2acb2820912e5ef2771a", func := "spandrel/spandrellaw05.OpenPuts", spec := "openPuts", unfollowed := true, recurses := true, apart := false }
def OpenPutsSaid : Prop := openPutsRow.holds Try.pinned (OpenSpec.ofChange openPutsSpec)

/-- ITS FALSE NEIGHBOUR: 'it returns false'. Refute it at one input. -/
def openPutsWrong : ChangeSpec := { name := "openPuts", fn := fun _ => fun
  | [d1, d2, d3, d4, d5] => { results := [.lit (.bool false)], args := [d1, d2, d3, d4, d5] }
  | _ => none }
def OpenPutsWrongFalsely : Prop := openPutsRow.holds Try.pinned (OpenSpec.ofChange openPutsWrong)

/-- 'spandrellaw05.OpenGets': WHATEVER THE INPUT: true; the input reads as it did. -/
def openGetsSpec : ChangeSpec := { name := "openGets", fn := fun _ => fun
  | [d1, d2, d3, d4] => { results := [.lit (.bool true)], args := [d1, d2, d3, d4] }
  | _ => none }
def openGetsRow : OpenClaim := { program := "ytinggfelgcdkfaa", sum := "085fec2fa4f5787b1c255fe39d562511b73a6d4f738a2acb2820912e5ef2771a", func := "spandrel/spandrellaw05.OpenGets", spec := "openGets", unfollowed := true, recurses := true, apart := false }
def OpenGetsSaid : Prop := openGetsRow.holds Try.pinned (OpenSpec.ofChange openGetsSpec)

/-- ITS FALSE NEIGHBOUR: 'it returns false'. Refute it at one input. -/
def openGetsWrong : ChangeSpec := { name := "openGets", fn := fun _ => fun
  | [d1, d2, d3, d4] => { results := [.lit (.bool false)], args := [d1, d2, d3, d4] }
  | _ => none }
def OpenGetsWrongFalsely : Prop := openGetsRow.holds Try.pinned (OpenSpec.ofChange openGetsWrong)

/-- 'spandrellaw05.OpenBack': WHATEVER THE INPUT: true; the input reads as it did. -/
def openBackSpec : ChangeSpec := { name := "openBack", fn := fun _ => fun
  | [d1, d2, d3, d4] => { results := [.lit (.bool true)], args := [d1, d2, d3, d4] }
  | _ => none }
def openBackRow : OpenClaim := { program := "ytinggfelgcdkfaa", sum := "085fec2fa4f5787b1c255fe39d562511b73a6d4f738a2acb2820912e5ef2771a", func := "spandrel/spandrellaw05.OpenBack", spec := "openBack", unfollowed := true, recurses := true, apart := false }
def OpenBackSaid : Prop := openBackRow.holds Try.pinned (OpenSpec.ofChange openBackSpec)

/-- ITS FALSE NEIGHBOUR: 'it returns false'. Refute it at one input. -/
def openBackWrong : ChangeSpec := { name := "openBack", fn := fun _ => fun
  | [d1, d2, d3, d4] => { results := [.lit (.bool false)], args := [d1, d2, d3, d4] }
  | _ => none }
def OpenBackWrongFalsely : Prop := openBackRow.holds Try.pinned (OpenSpec.ofChange openBackWrong)

/-- 'spandrellaw05.OpenWhole': WHATEVER THE INPUT: true; the input reads as it did. -/
def openWholeSpec : ChangeSpec := { name := "openWhole", fn := fun _ => fun
  | [d1, d2, d3, d4] => { results := [.lit (.bool true)], args := [d1, d2, d3, d4] }
  | _ => none }
def openWholeRow : OpenClaim := { program := "ytinggfelgcdkfaa", sum := "085fec2fa4f5787b1c255fe39d562511b73a6d4f738a2acb2820912e5ef2771a", func := "spandrel/spandrellaw05.OpenWhole", spec := "openWhole", unfollowed := true, recurses := true, apart := false }
def OpenWholeSaid : Prop := openWholeRow.holds Try.pinned (OpenSpec.ofChange openWholeSpec)

/-- ITS FALSE NEIGHBOUR: 'it returns false'. Refute it at one input. -/
def openWholeWrong : ChangeSpec := { name := "openWhole", fn := fun _ => fun
  | [d1, d2, d3, d4] => { results := [.lit (.bool false)], args := [d1, d2, d3, d4] }
  | _ => none }
def OpenWholeWrongFalsely : Prop := openWholeRow.holds Try.pinned (OpenSpec.ofChange openWholeWrong)

/-- 'spandrellaw05.OpenNone': WHATEVER THE INPUT: true; the input reads as it did. -/
def openNoneSpec : ChangeSpec := { name := "openNone", fn := fun _ => fun
  | [d1, d2, d3, d4] => { results := [.lit (.bool true)], args := [d1, d2, d3, d4] }
  | _ => none }
def openNoneRow : OpenClaim := { program := "ytinggfelgcdkfaa", sum := "085fec2fa4f5787b1c255fe39d562511b73a6d4f738a2acb2820912e5ef2771a", func := "spandrel/spandrellaw05.OpenNone", spec := "openNone", unfollowed := true, recurses := true, apart := false }
def OpenNoneSaid : Prop := openNoneRow.holds Try.pinned (OpenSpec.ofChange openNoneSpec)

/-- ITS FALSE NEIGHBOUR: 'it returns false'. Refute it at one input. -/
def openNoneWrong : ChangeSpec := { name := "openNone", fn := fun _ => fun
  | [d1, d2, d3, d4] => { results := [.lit (.bool false)], args := [d1, d2, d3, d4] }
  | _ => none }
def OpenNoneWrongFalsely : Prop := openNoneRow.holds Try.pinned (OpenSpec.ofChange openNoneWrong)

/-- 'spandrellaw05.OpenJoins': WHATEVER THE INPUT: true; the input reads as it did. -/
def openJoinsSpec : ChangeSpec := { name := "openJoins", fn := fun _ => fun
  | [d1, d2, d3, d4] => { results := [.lit (.bool true)], args := [d1, d2, d3, d4] }
  | _ => none }
def openJoinsRow : OpenClaim := { program := "ytinggfelgcdkfaa", sum := "085fec2fa4f5787b1c255fe39d562511b73a6d4f738a2acb2820912e5ef2771a", func := "spandrel/spandrellaw05.OpenJoins", spec := "openJoins", unfollowed := true, recurses := true, apart := false }
def OpenJoinsSaid : Prop := openJoinsRow.holds Try.pinned (OpenSpec.ofChange openJoinsSpec)

/-- ITS FALSE NEIGHBOUR: 'it returns false'. Refute it at one input. -/
def openJoinsWrong : ChangeSpec := { name := "openJoins", fn := fun _ => fun
  | [d1, d2, d3, d4] => { results := [.lit (.bool false)], args := [d1, d2, d3, d4] }
  | _ => none }
def OpenJoinsWrongFalsely : Prop := openJoinsRow.holds Try.pinned (OpenSpec.ofChange openJoinsWrong)

/-- 'spandrellaw05.OpenMoves': WHATEVER THE INPUT: true; the input reads as it did. -/
def openMovesSpec : ChangeSpec := { name := "openMoves", fn := fun _ => fun
  | [d1, d2, d3, d4] => { results := [.lit (.bool true)], args := [d1, d2, d3, d4] }
  | _ => none }
def openMovesRow : OpenClaim := { program := "ytinggfelgcdkfaa", sum := "085fec2fa4f5787b1c255fe39d562511b73a6d4f738a2acb2820912e5ef2771a", func := "spandrel/spandrellaw05.OpenMoves", spec := "openMoves", unfollowed := true, recurses := true, apart := false }
def OpenMovesSaid : Prop := openMovesRow.holds Try.pinned (OpenSpec.ofChange openMovesSpec)

/-- ITS FALSE NEIGHBOUR: 'it returns false'. Refute it at one input. -/
def openMovesWrong : ChangeSpec := { name := "openMoves", fn := fun _ => fun
  | [d1, d2, d3, d4] => { results := [.lit (.bool false)], args := [d1, d2, d3, d4] }
  | _ => none }
def OpenMovesWrongFalsely : Prop := openMovesRow.holds Try.pinned (OpenSpec.ofChange openMovesWrong)

/- THE SECOND FORM. 'bulk': how many values and letters a reading holds, each counted each time it is reached (what is shared counts as often as it is met; a slice's spare places count too). A statement '..UptoSaid' is the law's where the arguments, and the package variables that the reading takes, are together of bulk at most 1048576: NARROWER than '..Said'. Prove '..Said' where nothing that the law and all that it calls make is longer than what came in: it says more and counts as full. Else prove '..UptoSaid'. A law counts once. -/
mutual
def uptoBulk {H : Type} : DataW H → Nat
  | .lit (.string bytes) => bytes.length + 1
  | .lit _ => 1
  | .nil => 1
  | .ptr d => uptoBulk d + 1
  | .slice elems spare => uptoBulkAll elems + uptoBulkAll spare + 1
  | .agg parts => uptoBulkAll parts + 1
  | .iface _ d => uptoBulk d + 1
  | .map entries => uptoBulkEntries entries + 1
  | .held _ => 1
def uptoBulkAll {H : Type} : List (DataW H) → Nat
  | [] => 0
  | d :: r => uptoBulk d + uptoBulkAll r
def uptoBulkEntries {H : Type} : List (Lit × DataW H) → Nat
  | [] => 0
  | x :: r => uptoBulkEntry x + uptoBulkEntries r
def uptoBulkEntry {H : Type} : Lit × DataW H → Nat
  | (.string bytes, d) => bytes.length + uptoBulk d + 1
  | (_, d) => uptoBulk d + 1
 end
def uptoSmall : (H : Type) → List (DataW H) → Bool := fun _ ds => decide (uptoBulkAll ds ≤ 1048576)
def OpenSpec.upto (s : _root_.Go.ChangeSpec) : _root_.Go.OpenSpec := { _root_.Go.OpenSpec.ofChange s with cond := some uptoSmall }

/-- 'spandrellaw05.OpenPuts', WHERE WHAT IT READS IS OF BULK AT MOST 1048576: true; the input reads as it did. -/
def openPutsUptoRow : OpenClaim := { program := "ytinggfelgcdkfaa", sum := "085fec2fa4f5787b1c255fe39d562511b73a6d4f738a2acb2820912e5ef2771a", func := "spandrel/spandrellaw05.OpenPuts", spec := "openPuts", unfollowed := true, recurses := true, apart := false, narrowed := true }
def OpenPutsUptoSaid : Prop := openPutsUptoRow.holds Try.pinned (OpenSpec.upto openPutsSpec)

/-- 'spandrellaw05.OpenGets', WHERE WHAT IT READS IS OF BULK AT MOST 1048576: true; the input reads as it did. -/
def openGetsUptoRow : OpenClaim := { program := "ytinggfelgcdkfaa", sum := "085fec2fa4f5787b1c255fe39d562511b73a6d4f738a2acb2820912e5ef2771a", func := "spandrel/spandrellaw05.OpenGets", spec := "openGets", unfollowed := true, recurses := true, apart := false, narrowed := true }
def OpenGetsUptoSaid : Prop := openGetsUptoRow.holds Try.pinned (OpenSpec.upto openGetsSpec)

/-- 'spandrellaw05.OpenBack', WHERE WHAT IT READS IS OF BULK AT MOST 1048576: true; the input reads as it did. -/
def openBackUptoRow : OpenClaim := { program := "ytinggfelgcdkfaa", sum := "085fec2fa4f5787b1c255fe39d562511b73a6d4f738a2acb2820912e5ef2771a", func := "spandrel/spandrellaw05.OpenBack", spec := "openBack", unfollowed := true, recurses := true, apart := false, narrowed := true }
def OpenBackUptoSaid : Prop := openBackUptoRow.holds Try.pinned (OpenSpec.upto openBackSpec)

/-- 'spandrellaw05.OpenWhole', WHERE WHAT IT READS IS OF BULK AT MOST 1048576: true; the input reads as it did. -/
def openWholeUptoRow : OpenClaim := { program := "ytinggfelgcdkfaa", sum := "085fec2fa4f5787b1c255fe39d562511b73a6d4f738a2acb2820912e5ef2771a", func := "spandrel/spandrellaw05.OpenWhole", spec := "openWhole", unfollowed := true, recurses := true, apart := false, narrowed := true }
def OpenWholeUptoSaid : Prop := openWholeUptoRow.holds Try.pinned (OpenSpec.upto openWholeSpec)

/-- 'spandrellaw05.OpenNone', WHERE WHAT IT READS IS OF BULK AT MOST 1048576: true; the input reads as it did. -/
def openNoneUptoRow : OpenClaim := { program := "ytinggfelgcdkfaa", sum := "085fec2fa4f5787b1c255fe39d562511b73a6d4f738a2acb2820912e5ef2771a", func := "spandrel/spandrellaw05.OpenNone", spec := "openNone", unfollowed := true, recurses := true, apart := false, narrowed := true }
def OpenNoneUptoSaid : Prop := openNoneUptoRow.holds Try.pinned (OpenSpec.upto openNoneSpec)

/-- 'spandrellaw05.OpenJoins', WHERE WHAT IT READS IS OF BULK AT MOST 1048576: true; the input reads as it did. -/
def openJoinsUptoRow : OpenClaim := { program := "ytinggfelgcdkfaa", sum := "085fec2fa4f5787b1c255fe39d562511b73a6d4f738a2acb2820912e5ef2771a", func := "spandrel/spandrellaw05.OpenJoins", spec := "openJoins", unfollowed := true, recurses := true, apart := false, narrowed := true }
def OpenJoinsUptoSaid : Prop := openJoinsUptoRow.holds Try.pinned (OpenSpec.upto openJoinsSpec)

/-- 'spandrellaw05.OpenMoves', WHERE WHAT IT READS IS OF BULK AT MOST 1048576: true; the input reads as it did. -/
def openMovesUptoRow : OpenClaim := { program := "ytinggfelgcdkfaa", sum := "085fec2fa4f5787b1c255fe39d562511b73a6d4f738a2acb2820912e5ef2771a", func := "spandrel/spandrellaw05.OpenMoves", spec := "openMoves", unfollowed := true, recurses := true, apart := false, narrowed := true }
def OpenMovesUptoSaid : Prop := openMovesUptoRow.holds Try.pinned (OpenSpec.upto openMovesSpec)

end Rows
end Go.Proofs.Ytinggfelgcdkfaa
