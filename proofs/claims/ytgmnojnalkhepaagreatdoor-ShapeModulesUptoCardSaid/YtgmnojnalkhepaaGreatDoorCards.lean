/-
  DERIVED. GIVEN WITH THE SEED: THE CARDS: each row of YtgmnojnalkhepaaGreatDoorRows.lean that lists a variable, with what it lists TIED to the program's text (the seventh form; the later family's looks); each row that meets fmt, with fmt's text TOLD by the authors' own Lean function (tested against real Go, not proved from fmt's source: count such statements apart). THE CARD IS WHAT COUNTS. Prove the row's statement (the work); the ties are given (YtgmnojnalkhepaaGreatDoorTie.lean); close each card by the builder's one call (the guide's Derived/Test/ToyasCard.lean, 'card_holds'). Laid BY PROGRAM, IN A SANDBOX (cutbox-door.mjs). By AI agents, Wed Nov 11 2026. No macro, syntax, notation, axiom, sorry.
-/
import Derived.Test.YtgmnojnalkhepaaGreatDoorRows
import GoSem.ClaimSeven
namespace Go.Proofs.YtgmnojnalkhepaaGreatDoor
namespace Rows

/-- THE TIED CARD OF 'spandrellaw08.ShapeModules'. -/
def shapeModulesCard : Claim7 := { stood := { row := shapeModulesRow, standIns := [], harness := (true, "48a0defc455ae1c7459ac019e273cdf1185dcf9b4e2d20c79b146aa52f85af83"), looks := true }, kinds := [], alts := [], laidByText := true, laidKinds := [.data, .data, .data, .data, .sentinel, .sentinel, .data, .pinned], laidTests := true, laidLooks := .later }
def ShapeModulesCardSaid : Prop := Claim7.holds Tryz.pinned (.plain (OpenSpec.ofChange shapeModulesSpec)) shapeModulesCard

/-- THE SECOND FORM's CARD OF 'spandrellaw08.ShapeModules'. -/
def shapeModulesUptoCard : Claim7 := { stood := { row := shapeModulesUptoRow, standIns := [], harness := (true, "48a0defc455ae1c7459ac019e273cdf1185dcf9b4e2d20c79b146aa52f85af83"), looks := true }, kinds := [], alts := [], laidByText := true, laidKinds := [.data, .data, .data, .data, .sentinel, .sentinel, .data, .pinned], laidTests := true, laidLooks := .later }
def ShapeModulesUptoCardSaid : Prop := Claim7.holds Tryz.pinned (.plain (OpenSpec.upto shapeModulesSpec)) shapeModulesUptoCard
end Rows
end Go.Proofs.YtgmnojnalkhepaaGreatDoor
