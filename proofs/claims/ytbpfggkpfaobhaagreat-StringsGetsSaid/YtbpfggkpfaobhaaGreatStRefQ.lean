/-
  The document's answer for package strings: put.
-/
import Derived.Test.YtbpfggkpfaobhaaGreatStRefP
namespace Go.Proofs.YtbpfggkpfaobhaaGreat
open Go.RowKit Go.Shelf
set_option linter.unusedVariables false
set_option linter.unusedSimpArgs false
set_option maxRecDepth 100000

/-- is no number wrong? -/
def posOk (z : List Int) : Bool := z.all fun x => decide (0 ≤ x)
theorem posOk_no {z : List Int} (i : Nat) (hi : i < z.length) (h : z.getD i 0 < 0) : posOk z = false := by
  cases hb : posOk z with
  | false => rfl
  | true =>
    unfold posOk at hb
    rw [List.all_eq_true] at hb
    have := hb z[i] (List.getElem_mem hi)
    rw [List.getD_eq_getElem?_getD, List.getElem?_eq_getElem hi] at h
    simp at this h
    omega
theorem posOk_all {z : List Int} (h : ∀ i, i < z.length → 0 ≤ z.getD i 0) : posOk z = true := by
  unfold posOk
  rw [List.all_eq_true]
  intro x hx
  obtain ⟨i, hi, rfl⟩ := List.getElem_of_mem hx
  have := h i hi
  rw [List.getD_eq_getElem?_getD, List.getElem?_eq_getElem hi] at this
  simpa using this
theorem ints_toNat {z : List Int} (h : posOk z = true) : ints (z.map Int.toNat) = z := by
  unfold ints
  rw [List.map_map]
  conv => rhs; rw [← List.map_id z]
  apply List.map_congr_left
  intro x hx
  have := (List.all_eq_true.1 h) x hx
  simp at this
  simp
  omega
end Go.Proofs.YtbpfggkpfaobhaaGreat
