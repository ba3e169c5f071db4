/-
  DERIVED. GIVEN WITH THE SEED: THE CARDS: each row of YtmpfkljjpnfloaaGreatDoorRows.lean that lists a variable, with what it lists TIED to the program's text (the seventh form; the later family's looks); each row that meets fmt, with fmt's text TOLD by the authors' own Lean function (tested against real Go, not proved from fmt's source: count such statements apart). THE CARD IS WHAT COUNTS. Prove the row's statement (the work); the ties are given (YtmpfkljjpnfloaaGreatDoorTie.lean); close each card by the builder's one call (the guide's Derived/Test/ToyasCard.lean, 'card_holds'). Laid BY PROGRAM, IN A SANDBOX (cutbox-door.mjs). By AI agents, Wed Nov 11 2026. No macro, syntax, notation, axiom, sorry.
-/
import Derived.Test.YtmpfkljjpnfloaaGreatDoorRows
import GoSem.ClaimSeven
namespace Go.Proofs.YtmpfkljjpnfloaaGreatDoor
namespace Rows

/-- THE TIED CARD OF 'spandrellaw08.ShapeTypes'. -/
def shapeTypesCard : Claim7 := { stood := { row := shapeTypesRow, standIns := [], harness := (true, "5c7f72aa52540b7b9c7c1eca1664d867ac0cec789b945e0a6a2230bf3da259c6"), looks := true }, kinds := [], alts := [], laidByText := true, laidKinds := [.data, .data, .data, .data, .sentinel, .sentinel, .data, .pinned], laidTests := true, laidLooks := .later }
def ShapeTypesCardSaid : Prop := Claim7.holds Tryz.pinned (.plain (OpenSpec.ofChange shapeTypesSpec)) shapeTypesCard

/-- THE SECOND FORM's CARD OF 'spandrellaw08.ShapeTypes'. -/
def shapeTypesUptoCard : Claim7 := { stood := { row := shapeTypesUptoRow, standIns := [], harness := (true, "5c7f72aa52540b7b9c7c1eca1664d867ac0cec789b945e0a6a2230bf3da259c6"), looks := true }, kinds := [], alts := [], laidByText := true, laidKinds := [.data, .data, .data, .data, .sentinel, .sentinel, .data, .pinned], laidTests := true, laidLooks := .later }
def ShapeTypesUptoCardSaid : Prop := Claim7.holds Tryz.pinned (.plain (OpenSpec.upto shapeTypesSpec)) shapeTypesUptoCard
end Rows
end Go.Proofs.YtmpfkljjpnfloaaGreatDoor
