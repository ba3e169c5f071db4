/-
  A bundle of texts, one behind the other: ShY5.
-/
import Derived.Test.YtgmnojnalkhepaaGreatDoorJK
import Derived.Test.YtgmnojnalkhepaaGreatDoorJB
import Derived.Test.YtgmnojnalkhepaaGreatDoorJM
/-
  The document's depth of a type: 'depth', 'Depth'.
-/
namespace Go.Proofs.YtgmnojnalkhepaaGreatDoor
open Go.RowKit
set_option linter.unusedVariables false
set_option linter.unusedSimpArgs false
set_option maxRecDepth 100000

theorem range_part {w : World} {g o : Nat} {p : PD} {t : TT} (h : w.rangeAt g o (pcells p t)) : w.rangeAt g (o + 1) t.cells := fun j v hv => by
  have hj : j < t.cells.length := (List.getElem?_eq_some_iff.1 hv).1
  have h2 : (pcells p t)[1 + j]? = some v := by
    show ([Value.string p.name] ++ t.cells ++ [.bool p.opt, p.d.v])[1 + j]? = some v
    rw [List.getElem?_append_left (by simp; omega), List.getElem?_append_right (by simp)]
    simpa using hv
  have h3 := h (1 + j) v h2
  rwa [← Nat.add_assoc] at h3
def RelDq (w : World) (g : Nat) (cs : List Value) (n off : Nat) (D : Nat → Nat) (dv iv : Value) (wr : World) : Prop :=
  ∃ i : Nat, i ≤ n ∧ iv = .int .i64 (i : Nat) ∧ dv = .int .i64 (D (off + i) : Nat) ∧ Bx wr g cs.toArray 39 ∧ Below w.heap.size w wr
end Go.Proofs.YtgmnojnalkhepaaGreatDoor
