/-
  Plain facts on bits, numbers and octets: no program is named here.
-/
namespace Go.Proofs.Ytbbbgoigacledaa
set_option linter.unusedVariables false
set_option linter.unusedSimpArgs false
set_option maxRecDepth 100000

/-- the number that bits are, the first one the most significant -/
def num (C : List Bool) : Nat := C.foldl (fun a b => 2 * a + b.toNat) 0

/-- the w lowest bits of v, the most significant one first -/
def nb (v w : Nat) : List Bool := (List.range w).map fun i => v.testBit (w - 1 - i)

/-- octet j of bits, padded with zeros -/
def oct (B : List Bool) (j : Nat) : Nat := num ((List.range 8).map fun k => B.getD (8 * j + k) false)

/-- the bits of octets -/
def bitsOf (l : List Nat) : List Bool := l.flatMap fun o => nb o 8

theorem num_nil : num [] = 0 := rfl
theorem num_snoc (C : List Bool) (b : Bool) : num (C ++ [b]) = 2 * num C + b.toNat := by
  simp [num, List.foldl_append]
theorem num_lt (C : List Bool) : num C < 2 ^ C.length := by
  suffices h : ∀ r : List Bool, num r.reverse < 2 ^ r.length by simpa using h C.reverse
  intro r
  induction r with
  | nil => simp [num]
  | cons b r ih =>
    rw [List.reverse_cons, num_snoc, List.length_cons, Nat.pow_succ]
    have : b.toNat ≤ 1 := by cases b <;> simp
    omega
theorem num_testBit (C : List Bool) (i : Nat) : (num C).testBit i = (decide (i < C.length) && C.getD (C.length - 1 - i) false) := by
  suffices h : ∀ (r : List Bool) (i : Nat), (num r.reverse).testBit i = r.getD i false by
    have := h C.reverse i
    rw [List.reverse_reverse] at this
    rw [this]
    by_cases hi : i < C.length
    · rw [List.getD_eq_getElem?_getD, List.getD_eq_getElem?_getD, List.getElem?_reverse hi]; simp [hi]
    · simp [hi, List.getD_eq_getElem?_getD]
  intro r
  induction r with
  | nil => simp [num]
  | cons b r ih =>
    intro i
    rw [List.reverse_cons, num_snoc]
    cases i with
    | zero =>
      simp [Nat.testBit_zero]
      cases b <;> simp <;> omega
    | succ i =>
      rw [Nat.testBit_succ]
      have : (2 * num r.reverse + b.toNat) / 2 = num r.reverse := by cases b <;> simp <;> omega
      rw [this, ih]; simp

theorem nb_length (v w : Nat) : (nb v w).length = w := by simp [nb]
theorem nb_getElem (v w i : Nat) (h : i < (nb v w).length) : (nb v w)[i] = v.testBit (w - 1 - i) := by simp [nb]
theorem nb_getD (v w i : Nat) (h : i < w) : (nb v w).getD i false = v.testBit (w - 1 - i) := by
  simp [nb, List.getD_eq_getElem?_getD, h]
theorem num_nb (v w : Nat) (h : v < 2 ^ w) : num (nb v w) = v := by
  apply Nat.eq_of_testBit_eq
  intro i
  rw [num_testBit, nb_length]
  by_cases hi : i < w
  · rw [nb_getD _ _ _ (by omega)]
    simp [hi]
    congr 1; omega
  · simp [hi]
    exact Nat.testBit_lt_two_pow (Nat.lt_of_lt_of_le h (Nat.pow_le_pow_right (by omega) (by omega)))
theorem nb_num (C : List Bool) : nb (num C) C.length = C := by
  apply List.ext_getElem
  · simp [nb]
  · intro i h1 h2
    rw [nb_getElem, num_testBit]
    simp [List.getD_eq_getElem?_getD]
    have e : C.length - 1 - (C.length - 1 - i) = i := by omega
    rw [e]
    simp [h2]; omega
theorem num_inj {C D : List Bool} (hl : C.length = D.length) (h : num C = num D) : C = D := by
  rw [← nb_num C, ← nb_num D, h, hl]
theorem nb_zero (w : Nat) : nb 0 w = List.replicate w false := by
  apply List.ext_getElem <;> simp [nb]
theorem nb_take_succ (v w k : Nat) (h : k < w) : (nb v w).take (k + 1) = (nb v w).take k ++ [v.testBit (w - 1 - k)] := by
  rw [List.take_succ_eq_append_getElem (by simpa [nb] using h), nb_getElem]
/-- a number in two parts -/
theorem nb_split (v w k : Nat) (h : k ≤ w) : nb v w = nb (v >>> k) (w - k) ++ nb v k := by
  apply List.ext_getElem
  · simp [nb]; omega
  · intro i h1 h2
    rw [nb_length] at h1
    rw [nb_getElem, List.getElem_append]
    split
    · rename_i hi
      rw [nb_length] at hi
      rw [nb_getElem, Nat.testBit_shiftRight]
      congr 1; omega
    · rename_i hi
      rw [nb_length] at hi
      rw [nb_getElem]
      congr 1
      rw [nb_length]; omega
theorem nb_mod (v w : Nat) : nb (v % 2 ^ w) w = nb v w := by
  apply List.ext_getElem
  · simp [nb]
  · intro i h1 h2
    rw [nb_length] at h1
    rw [nb_getElem, nb_getElem, Nat.testBit_mod_two_pow]
    simp; omega

theorem oct_lt (B : List Bool) (j : Nat) : oct B j < 256 := by
  have := num_lt ((List.range 8).map fun k => B.getD (8 * j + k) false)
  simpa [oct] using this
theorem oct_testBit (B : List Bool) (j i : Nat) : (oct B j).testBit i = (decide (i < 8) && B.getD (8 * j + (7 - i)) false) := by
  unfold oct
  rw [num_testBit]
  by_cases hi : i < 8
  · simp [hi, List.getD_eq_getElem?_getD]
    have : 7 - i < 8 := by omega
    simp [this]
  · simp [hi]
theorem oct_congr {B D : List Bool} {i j : Nat} (h : ∀ k, k < 8 → B.getD (8 * i + k) false = D.getD (8 * j + k) false) : oct B i = oct D j := by
  unfold oct
  congr 1
  apply List.map_congr_left
  intro k hk
  exact h k (by simpa using hk)
theorem oct_past (B : List Bool) (j : Nat) (h : B.length ≤ 8 * j) : oct B j = 0 := by
  apply Nat.eq_of_testBit_eq
  intro i
  rw [oct_testBit, List.getD_eq_getElem?_getD, List.getElem?_eq_none (by omega)]
  simp
/-- octets that were complete stay -/
theorem oct_append_before (B C : List Bool) (j : Nat) (h : 8 * j + 8 ≤ B.length) : oct (B ++ C) j = oct B j := by
  apply oct_congr
  intro k hk
  rw [List.getD_eq_getElem?_getD, List.getD_eq_getElem?_getD, List.getElem?_append_left (by omega)]
/-- the octet that is begun -/
theorem oct_append_at (B C : List Bool) (h : C.length ≤ 8 - B.length % 8) :
    oct (B ++ C) (B.length / 8) = oct B (B.length / 8) ||| oct (List.replicate (B.length % 8) false ++ C) 0 := by
  apply Nat.eq_of_testBit_eq
  intro i
  rw [Nat.testBit_or, oct_testBit, oct_testBit, oct_testBit]
  by_cases hi : i < 8
  · simp only [hi, decide_true, Bool.true_and]
    by_cases hk : 7 - i < B.length % 8
    · rw [List.getD_eq_getElem?_getD, List.getElem?_append_left (by omega), ← List.getD_eq_getElem?_getD]
      have : (List.replicate (B.length % 8) false ++ C).getD (8 * 0 + (7 - i)) false = false := by
        rw [List.getD_eq_getElem?_getD, List.getElem?_append_left (by simpa using hk)]
        simp [hk]
      rw [this]; simp
    · have e1 : B.getD (8 * (B.length / 8) + (7 - i)) false = false := by
        rw [List.getD_eq_getElem?_getD, List.getElem?_eq_none (by omega)]; rfl
      rw [e1, List.getD_eq_getElem?_getD, List.getElem?_append_right (by omega), List.getD_eq_getElem?_getD,
        List.getElem?_append_right (by simp; omega)]
      simp only [Bool.false_or, List.length_replicate]
      congr 2
      omega
  · simp [hi]
/-- the octet behind it -/
theorem oct_append_other (B C : List Bool) (j : Nat) (_h : C.length ≤ 8 - B.length % 8) (hj : j ≠ B.length / 8) : oct (B ++ C) j = oct B j := by
  by_cases h2 : j < B.length / 8
  · exact oct_append_before B C j (by omega)
  · rw [oct_past B j (by omega), oct_past (B ++ C) j (by simp; omega)]

theorem bitsOf_length (l : List Nat) : (bitsOf l).length = 8 * l.length := by
  induction l with
  | nil => rfl
  | cons a l ih => simp only [bitsOf, List.flatMap_cons, List.length_append, nb_length, List.length_cons] at *; omega
theorem bitsOf_append (a b : List Nat) : bitsOf (a ++ b) = bitsOf a ++ bitsOf b := by simp [bitsOf]
theorem bitsOf_getD (l : List Nat) (j k : Nat) (hk : k < 8) (hj : j < l.length) : (bitsOf l).getD (8 * j + k) false = (l.getD j 0).testBit (7 - k) := by
  induction l generalizing j with
  | nil => simp at hj
  | cons a l ih =>
    have e : bitsOf (a :: l) = nb a 8 ++ bitsOf l := by simp [bitsOf]
    rw [e]
    cases j with
    | zero =>
      rw [List.getD_eq_getElem?_getD, List.getElem?_append_left (by rw [nb_length]; omega), ← List.getD_eq_getElem?_getD, nb_getD _ _ _ (by omega)]
      simp
    | succ j =>
      rw [List.getD_eq_getElem?_getD, List.getElem?_append_right (by rw [nb_length]; omega), nb_length, ← List.getD_eq_getElem?_getD]
      rw [show 8 * (j + 1) + k - 8 = 8 * j + k by omega, ih j (by simpa using hj)]
      simp
theorem oct_bitsOf (l : List Nat) (j : Nat) (hj : j < l.length) (hl : l.getD j 0 < 256) : oct (bitsOf l) j = l.getD j 0 := by
  apply Nat.eq_of_testBit_eq
  intro i
  rw [oct_testBit]
  by_cases hi : i < 8
  · rw [bitsOf_getD _ _ _ (by omega) hj]
    simp [hi]
    congr 1; omega
  · simp [hi]
    have := Nat.testBit_lt_two_pow (x := l.getD j 0) (i := i) (Nat.lt_of_lt_of_le hl (by have := Nat.pow_le_pow_right (n := 2) (by omega) (show 8 ≤ i by omega); simpa using this))
    simpa [List.getD_eq_getElem?_getD] using this

/-- the octets of bits, padded -/
def octs (B : List Bool) : List Nat := (List.range ((B.length + 7) / 8)).map (oct B)
theorem octs_length (B : List Bool) : (octs B).length = (B.length + 7) / 8 := by simp [octs]
theorem octs_getD (B : List Bool) (j : Nat) (h : j < (B.length + 7) / 8) : (octs B).getD j 0 = oct B j := by
  simp [octs, List.getD_eq_getElem?_getD, h]
/-- bits, padded to octets -/
def padded (B : List Bool) : List Bool := B ++ List.replicate ((8 - B.length % 8) % 8) false
theorem padded_length (B : List Bool) : (padded B).length = 8 * ((B.length + 7) / 8) := by simp [padded]; omega
theorem padded_getD (B : List Bool) (i : Nat) : (padded B).getD i false = B.getD i false := by
  unfold padded
  rw [List.getD_eq_getElem?_getD, List.getD_eq_getElem?_getD]
  by_cases h : i < B.length
  · rw [List.getElem?_append_left h]
  · rw [List.getElem?_append_right (by omega), List.getElem?_eq_none (show B.length ≤ i by omega)]
    by_cases h2 : i - B.length < (8 - B.length % 8) % 8 <;> simp [h2]
theorem bitsOf_octs (B : List Bool) : bitsOf (octs B) = padded B := by
  apply List.ext_getElem
  · rw [bitsOf_length, octs_length, padded_length]
  · intro i h1 h2
    have hl : i < 8 * ((B.length + 7) / 8) := by rw [← padded_length]; exact h2
    have e1 : (bitsOf (octs B))[i] = (bitsOf (octs B)).getD i false := by simp [List.getD_eq_getElem?_getD, h1]
    have e2 : (padded B)[i] = (padded B).getD i false := by simp [List.getD_eq_getElem?_getD, h2]
    rw [e1, e2, padded_getD]
    have hi : i = 8 * (i / 8) + i % 8 := by omega
    rw [hi, bitsOf_getD _ _ _ (by omega) (by rw [octs_length]; omega), octs_getD _ _ (by omega), oct_testBit]
    simp
    rw [show 7 - (7 - i % 8) = i % 8 by omega]
    simp; omega
end Go.Proofs.Ytbbbgoigacledaa
