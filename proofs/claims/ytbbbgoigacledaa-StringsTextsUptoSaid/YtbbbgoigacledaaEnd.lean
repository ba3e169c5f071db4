/-
  The reference's End, at the start too: the same as the Reader's.
-/
import Derived.Test.YtbbbgoigacledaaRef3
import Derived.Test.YtbbbgoigacledaaRead2
namespace Go.Proofs.Ytbbbgoigacledaa
open Go.RowKit
set_option linter.unusedVariables false
set_option linter.unusedSimpArgs false
set_option maxRecDepth 100000

theorem zeros_str (B : List Bool) : ((bchars B).toList == [48, 48, 48, 48, 48, 48, 48, 48]) = decide (B = List.replicate 8 false) := by
  rw [ByteArray.toList_eq, bchars_data]
  by_cases h : B = List.replicate 8 false
  · subst h; rfl
  · rw [decide_eq_false h, beq_eq_false_iff_ne]
    intro he
    apply h
    have hl : B.length = 8 := by
      have := congrArg List.length he
      simpa using this
    apply List.ext_getElem
    · simp [hl]
    · intro i h1 h2
      have h3 := congrArg (fun l => l[i]?) he
      simp only [List.getElem?_map, List.getElem?_eq_getElem h1, Option.map_some] at h3
      have h4 : ([48, 48, 48, 48, 48, 48, 48, 48] : List UInt8)[i]? = some 48 := by
        match i, h1 with
        | 0, _ | 1, _ | 2, _ | 3, _ | 4, _ | 5, _ | 6, _ | 7, _ => rfl
        | i + 8, h1 => omega
      rw [h4] at h3
      rw [List.getElem_replicate]
      generalize B[i] = t at *
      cases t
      · rfl
      · exact absurd h3 (by decide)
/-- what End tells -/
def endE (L : List Nat) (p : Nat) : Int := if endB L p = true then 0 else 3
theorem zeros_iff (B : List Bool) (h : B.length = 8) : allz B 0 8 = decide (B = List.replicate 8 false) := by
  by_cases hz : B = List.replicate 8 false
  · subst hz; rfl
  · rw [decide_eq_false hz]
    by_cases ha : allz B 0 8 = true
    · exfalso
      apply hz
      apply List.ext_getElem
      · simp [h]
      · intro i h1 h2
        rw [List.getElem_replicate]
        unfold allz at ha
        have h3 := List.all_eq_true.1 ha i (by simp; omega)
        simpa [List.getD_eq_getElem?_getD, h1] using h3
    · simpa using ha
end Go.Proofs.Ytbbbgoigacledaa
