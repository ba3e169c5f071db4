/-
  DERIVED. GIVEN WITH THE SEED: THE CARDS: each row of YtgibjhljcdhppaaGreatDoorRows.lean that lists a variable, with what it lists TIED to the program's text (the seventh form; the later family's looks); each row that meets fmt, with fmt's text TOLD by the authors' own Lean function (tested against real Go, not proved from fmt's source: count such statements apart). THE CARD IS WHAT COUNTS. Prove the row's statement (the work); the ties are given (YtgibjhljcdhppaaGreatDoorTie.lean); close each card by the builder's one call (the guide's Derived/Test/ToyasCard.lean, 'card_holds'). Laid BY PROGRAM, IN A SANDBOX (cutbox-door.mjs). By AI agents, Wed Nov 11 2026. No macro, syntax, notation, axiom, sorry.
-/
import Derived.Test.YtgibjhljcdhppaaGreatDoorRows
import GoSem.ClaimSeven
namespace Go.Proofs.YtgibjhljcdhppaaGreatDoor
namespace Rows

/-- THE TIED CARD OF 'spandrellaw08.ShapeCons'. -/
def shapeConsCard : Claim7 := { stood := { row := shapeConsRow, standIns := [], harness := (true, "a7b64ff5a9ab2b5df8d7e99cc6e65fce216891dfd9a29e65d278c9dbd4cb77be"), looks := true }, kinds := [], alts := [], laidByText := true, laidKinds := [.data, .data, .data, .data, .sentinel, .sentinel, .data, .pinned], laidTests := true, laidLooks := .later }
def ShapeConsCardSaid : Prop := Claim7.holds Tryz.pinned (.plain (OpenSpec.ofChange shapeConsSpec)) shapeConsCard

/-- THE TIED CARD OF 'spandrellaw08.ShapeTypes'. -/
def shapeTypesCard : Claim7 := { stood := { row := shapeTypesRow, standIns := [], harness := (true, "a7b64ff5a9ab2b5df8d7e99cc6e65fce216891dfd9a29e65d278c9dbd4cb77be"), looks := true }, kinds := [], alts := [], laidByText := true, laidKinds := [.data, .data, .data, .data, .sentinel, .sentinel, .data, .pinned], laidTests := true, laidLooks := .later }
def ShapeTypesCardSaid : Prop := Claim7.holds Tryz.pinned (.plain (OpenSpec.ofChange shapeTypesSpec)) shapeTypesCard

/-- THE TIED CARD OF 'spandrellaw08.ShapeModules'. -/
def shapeModulesCard : Claim7 := { stood := { row := shapeModulesRow, standIns := [], harness := (true, "a7b64ff5a9ab2b5df8d7e99cc6e65fce216891dfd9a29e65d278c9dbd4cb77be"), looks := true }, kinds := [], alts := [], laidByText := true, laidKinds := [.data, .data, .data, .data, .sentinel, .sentinel, .data, .pinned], laidTests := true, laidLooks := .later }
def ShapeModulesCardSaid : Prop := Claim7.holds Tryz.pinned (.plain (OpenSpec.ofChange shapeModulesSpec)) shapeModulesCard

/-- THE TIED CARD OF 'spandrellaw08.ShapeSame'. -/
def shapeSameCard : Claim7 := { stood := { row := shapeSameRow, standIns := [], harness := (true, "a7b64ff5a9ab2b5df8d7e99cc6e65fce216891dfd9a29e65d278c9dbd4cb77be"), looks := true }, kinds := [], alts := [], laidByText := true, laidKinds := [.data, .data, .data, .data, .sentinel, .sentinel, .data, .pinned], laidTests := true, laidLooks := .later }
def ShapeSameCardSaid : Prop := Claim7.holds Tryz.pinned (.plain (OpenSpec.ofChange shapeSameSpec)) shapeSameCard

/-- THE TIED CARD OF 'spandrellaw08.ShapeScans'. -/
def shapeScansCard : Claim7 := { stood := { row := shapeScansRow, standIns := [], harness := (true, "a7b64ff5a9ab2b5df8d7e99cc6e65fce216891dfd9a29e65d278c9dbd4cb77be"), looks := true }, kinds := [], alts := [], laidByText := true, laidKinds := [.data, .data, .data, .data, .sentinel, .sentinel, .data, .pinned], laidTests := true, laidLooks := .later }
def ShapeScansCardSaid : Prop := Claim7.holds Tryz.pinned (.plain (OpenSpec.ofChange shapeScansSpec)) shapeScansCard

/-- THE TIED CARD OF 'spandrellaw08.ShapeDeep'. -/
def shapeDeepCard : Claim7 := { stood := { row := shapeDeepRow, standIns := [], harness := (true, "a7b64ff5a9ab2b5df8d7e99cc6e65fce216891dfd9a29e65d278c9dbd4cb77be"), looks := true }, kinds := [], alts := [], laidByText := true, laidKinds := [.data, .data, .data, .data, .sentinel, .sentinel, .data, .pinned], laidTests := true, laidLooks := .later }
def ShapeDeepCardSaid : Prop := Claim7.holds Tryz.pinned (.plain (OpenSpec.ofChange shapeDeepSpec)) shapeDeepCard

/-- THE TIED CARD OF 'spandrellaw08.ShapeParts'. -/
def shapePartsCard : Claim7 := { stood := { row := shapePartsRow, standIns := [], harness := (true, "a7b64ff5a9ab2b5df8d7e99cc6e65fce216891dfd9a29e65d278c9dbd4cb77be"), looks := true }, kinds := [], alts := [], laidByText := true, laidKinds := [.data, .data, .data, .data, .sentinel, .sentinel, .data, .pinned], laidTests := true, laidLooks := .later }
def ShapePartsCardSaid : Prop := Claim7.holds Tryz.pinned (.plain (OpenSpec.ofChange shapePartsSpec)) shapePartsCard

/-- THE SECOND FORM's CARD OF 'spandrellaw08.ShapeCons'. -/
def shapeConsUptoCard : Claim7 := { stood := { row := shapeConsUptoRow, standIns := [], harness := (true, "a7b64ff5a9ab2b5df8d7e99cc6e65fce216891dfd9a29e65d278c9dbd4cb77be"), looks := true }, kinds := [], alts := [], laidByText := true, laidKinds := [.data, .data, .data, .data, .sentinel, .sentinel, .data, .pinned], laidTests := true, laidLooks := .later }
def ShapeConsUptoCardSaid : Prop := Claim7.holds Tryz.pinned (.plain (OpenSpec.upto shapeConsSpec)) shapeConsUptoCard

/-- THE SECOND FORM's CARD OF 'spandrellaw08.ShapeTypes'. -/
def shapeTypesUptoCard : Claim7 := { stood := { row := shapeTypesUptoRow, standIns := [], harness := (true, "a7b64ff5a9ab2b5df8d7e99cc6e65fce216891dfd9a29e65d278c9dbd4cb77be"), looks := true }, kinds := [], alts := [], laidByText := true, laidKinds := [.data, .data, .data, .data, .sentinel, .sentinel, .data, .pinned], laidTests := true, laidLooks := .later }
def ShapeTypesUptoCardSaid : Prop := Claim7.holds Tryz.pinned (.plain (OpenSpec.upto shapeTypesSpec)) shapeTypesUptoCard

/-- THE SECOND FORM's CARD OF 'spandrellaw08.ShapeModules'. -/
def shapeModulesUptoCard : Claim7 := { stood := { row := shapeModulesUptoRow, standIns := [], harness := (true, "a7b64ff5a9ab2b5df8d7e99cc6e65fce216891dfd9a29e65d278c9dbd4cb77be"), looks := true }, kinds := [], alts := [], laidByText := true, laidKinds := [.data, .data, .data, .data, .sentinel, .sentinel, .data, .pinned], laidTests := true, laidLooks := .later }
def ShapeModulesUptoCardSaid : Prop := Claim7.holds Tryz.pinned (.plain (OpenSpec.upto shapeModulesSpec)) shapeModulesUptoCard

/-- THE SECOND FORM's CARD OF 'spandrellaw08.ShapeSame'. -/
def shapeSameUptoCard : Claim7 := { stood := { row := shapeSameUptoRow, standIns := [], harness := (true, "a7b64ff5a9ab2b5df8d7e99cc6e65fce216891dfd9a29e65d278c9dbd4cb77be"), looks := true }, kinds := [], alts := [], laidByText := true, laidKinds := [.data, .data, .data, .data, .sentinel, .sentinel, .data, .pinned], laidTests := true, laidLooks := .later }
def ShapeSameUptoCardSaid : Prop := Claim7.holds Tryz.pinned (.plain (OpenSpec.upto shapeSameSpec)) shapeSameUptoCard

/-- THE SECOND FORM's CARD OF 'spandrellaw08.ShapeScans'. -/
def shapeScansUptoCard : Claim7 := { stood := { row := shapeScansUptoRow, standIns := [], harness := (true, "a7b64ff5a9ab2b5df8d7e99cc6e65fce216891dfd9a29e65d278c9dbd4cb77be"), looks := true }, kinds := [], alts := [], laidByText := true, laidKinds := [.data, .data, .data, .data, .sentinel, .sentinel, .data, .pinned], laidTests := true, laidLooks := .later }
def ShapeScansUptoCardSaid : Prop := Claim7.holds Tryz.pinned (.plain (OpenSpec.upto shapeScansSpec)) shapeScansUptoCard

/-- THE SECOND FORM's CARD OF 'spandrellaw08.ShapeDeep'. -/
def shapeDeepUptoCard : Claim7 := { stood := { row := shapeDeepUptoRow, standIns := [], harness := (true, "a7b64ff5a9ab2b5df8d7e99cc6e65fce216891dfd9a29e65d278c9dbd4cb77be"), looks := true }, kinds := [], alts := [], laidByText := true, laidKinds := [.data, .data, .data, .data, .sentinel, .sentinel, .data, .pinned], laidTests := true, laidLooks := .later }
def ShapeDeepUptoCardSaid : Prop := Claim7.holds Tryz.pinned (.plain (OpenSpec.upto shapeDeepSpec)) shapeDeepUptoCard

/-- THE SECOND FORM's CARD OF 'spandrellaw08.ShapeParts'. -/
def shapePartsUptoCard : Claim7 := { stood := { row := shapePartsUptoRow, standIns := [], harness := (true, "a7b64ff5a9ab2b5df8d7e99cc6e65fce216891dfd9a29e65d278c9dbd4cb77be"), looks := true }, kinds := [], alts := [], laidByText := true, laidKinds := [.data, .data, .data, .data, .sentinel, .sentinel, .data, .pinned], laidTests := true, laidLooks := .later }
def ShapePartsUptoCardSaid : Prop := Claim7.holds Tryz.pinned (.plain (OpenSpec.upto shapePartsSpec)) shapePartsUptoCard
end Rows
end Go.Proofs.YtgibjhljcdhppaaGreatDoor
