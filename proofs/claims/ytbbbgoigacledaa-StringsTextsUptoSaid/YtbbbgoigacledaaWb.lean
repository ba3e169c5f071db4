/-
  Plain facts on what is written, and what reading it gives.
-/
import Derived.Test.YtbbbgoigacledaaRead2
namespace Go.Proofs.Ytbbbgoigacledaa
open Go.RowKit
set_option linter.unusedVariables false
set_option linter.unusedSimpArgs false
set_option maxRecDepth 100000

theorem wb_bits (B : List Bool) : ∃ m, bitsOf (wb B) = B ++ List.replicate m false ∧ (B = [] → m = 8) ∧ (B ≠ [] → m < 8) := by
  unfold wb
  by_cases h : B = []
  · subst h
    refine ⟨8, ?_, fun _ => rfl, fun h => absurd rfl h⟩
    rw [if_pos rfl]
    decide
  · rw [if_neg h, bitsOf_octs]
    exact ⟨(8 - B.length % 8) % 8, rfl, fun h' => absurd h' h, fun _ => by omega⟩
theorem wb_length (B : List Bool) (m : Nat) (h : bitsOf (wb B) = B ++ List.replicate m false) : 8 * (wb B).length = B.length + m := by
  rw [← bitsOf_length, h]; simp

theorem bitsAt_mid (A S R : List Bool) (k : Nat) (hk : k = S.length) : bitsAt (A ++ S ++ R) A.length k = num S := by
  unfold bitsAt
  rw [List.append_assoc, List.drop_left, hk, List.take_left]
theorem getD_mid (A S R : List Bool) (i : Nat) (hi : i < S.length) : (A ++ S ++ R).getD (A.length + i) false = S.getD i false := by
  rw [List.append_assoc, List.getD_eq_getElem?_getD, List.getElem?_append_right (by omega), List.getD_eq_getElem?_getD, show A.length + i - A.length = i by omega, List.getElem?_append_left hi]
theorem allz_mid (A R : List Bool) (k : Nat) : allz (A ++ List.replicate k false ++ R) A.length k = true := by
  refine allz_true (fun i hi => ?_)
  rw [getD_mid _ _ _ _ (by simpa using hi), List.getD_eq_getElem?_getD, List.getElem?_replicate, if_pos hi]
  rfl
theorem bitsOf_mid (b : List Nat) (i : Nat) (h : i < b.length) : bitsOf b = bitsOf (b.take i) ++ nb b[i] 8 ++ bitsOf (b.drop (i + 1)) := by
  have e : b = b.take i ++ [b[i]] ++ b.drop (i + 1) := by
    rw [← List.take_succ_eq_append_getElem h, List.take_append_drop]
  conv => lhs; rw [e]
  rw [bitsOf_append, bitsOf_append]
  simp [bitsOf]
theorem octetsAt_mid (A R : List Bool) (b : List Nat) (hb : ∀ i, b.getD i 0 < 256) : octetsAt (A ++ bitsOf b ++ R) A.length b.length = b := by
  apply List.ext_getElem
  · simp [octetsAt]
  · intro i h1 h2
    have e : bitsAt (A ++ bitsOf b ++ R) (A.length + 8 * i) 8 = b[i] := by
      have h3 := hb i
      rw [List.getD_eq_getElem?_getD, List.getElem?_eq_getElem h2] at h3
      rw [bitsOf_mid b i h2]
      have e2 : A ++ (bitsOf (b.take i) ++ nb b[i] 8 ++ bitsOf (b.drop (i + 1))) ++ R = (A ++ bitsOf (b.take i)) ++ nb b[i] 8 ++ (bitsOf (b.drop (i + 1)) ++ R) := by simp
      have e3 : A.length + 8 * i = (A ++ bitsOf (b.take i)).length := by rw [List.length_append, bitsOf_length, List.length_take, Nat.min_eq_left (by omega)]
      rw [e2, e3, bitsAt_mid _ _ _ 8 (by rw [nb_length]), num_nb _ _ (by simpa using h3)]
    simp only [octetsAt, List.getElem_map, List.getElem_range]
    exact e
theorem endB_wb (B : List Bool) : endB (wb B) B.length = true := by
  obtain ⟨m, hm, h0, h1⟩ := wb_bits B
  have hl := wb_length B m hm
  unfold endB
  have hne : wb B ≠ [] := by
    intro h
    rw [h] at hl
    simp at hl
    have hB : B = [] := List.eq_nil_of_length_eq_zero (by omega)
    have := h0 hB
    omega
  rw [if_neg hne, hl, hm, show B.length + m - B.length = m by omega]
  have hlt : ¬ (if B.length = 0 then 8 else 7) < m := by
    by_cases hB : B = []
    · rw [h0 hB, hB]; simp
    · have := h1 hB
      have : B.length ≠ 0 := fun h => hB (List.eq_nil_of_length_eq_zero h)
      rw [if_neg this]; omega
  rw [if_neg hlt]
  have := allz_mid B [] m
  rwa [List.append_nil] at this
end Go.Proofs.Ytbbbgoigacledaa
