/-
  A bundle of texts, one behind the other: ShQ1, ShQ2, ShQ3.
-/
import Derived.Test.YtgmnojnalkhepaaGreatDoorJB
/-
  The library's EqualFunc at constraints, values, parts, types, over whatever function tells whether two are the same.
-/
namespace Go.Proofs.YtgmnojnalkhepaaGreatDoor
open Go.RowKit
set_option linter.unusedVariables false
set_option linter.unusedSimpArgs false
set_option maxRecDepth 100000


def PredN2 (w : World) (fn : FuncId) (n : Nat) (c1 c2 : Nat → List Value) (p : Nat → Bool) : Prop :=
  ∀ i, i < n → ∀ w', Below w.heap.size w w' → Calls Tryz.prog fn #[.agg (c1 i).toArray, .agg (c2 i).toArray] w' fun e w'' => e = .returned (.bool (p i)) ∧ Below w'.heap.size w' w''
def Ones (n k : Nat) (c : Nat → List Value) : Prop := ∀ i, i < n → (c i).length = k ∧ ∀ v ∈ c i, v.oneCell' = true
theorem info_qC : (Tryz.prog.info? 34).map (·.size) = some 6 := by kernel_rfl
end Go.Proofs.YtgmnojnalkhepaaGreatDoor

/-
  The library's EqualFunc at constraints, values, parts, types, over whatever function tells whether two are the same.
-/
namespace Go.Proofs.YtgmnojnalkhepaaGreatDoor
open Go.RowKit
set_option linter.unusedVariables false
set_option linter.unusedSimpArgs false
set_option maxRecDepth 100000


theorem info_qV : (Tryz.prog.info? 44).map (·.size) = some 5 := by kernel_rfl
theorem info_qT : (Tryz.prog.info? 39).map (·.size) = some 15 := by kernel_rfl
end Go.Proofs.YtgmnojnalkhepaaGreatDoor

/-
  The library's EqualFunc at constraints, values, parts, types, over whatever function tells whether two are the same.
-/
namespace Go.Proofs.YtgmnojnalkhepaaGreatDoor
open Go.RowKit
set_option linter.unusedVariables false
set_option linter.unusedSimpArgs false
set_option maxRecDepth 100000


theorem info_qP : (Tryz.prog.info? 42).map (·.size) = some 18 := by kernel_rfl
end Go.Proofs.YtgmnojnalkhepaaGreatDoor
