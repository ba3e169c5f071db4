/-
  Tokens in plain words: what a text's tokens are, and where each ends: no walk here.
-/
import Derived.Test.YthcodmcfkmochaaDoorProg
import Derived.WalkKit
import Derived.Lib.Hide
import Derived.KernelRfl
import Derived.Lib.AtoiAll
import Derived.Lib.Replace
namespace Go.Proofs.YthcodmcfkmochaaDoor
set_option linter.unusedVariables false
set_option linter.unusedSimpArgs false
set_option maxRecDepth 100000

/-! ### a text's codes -/
def cods (s : ByteArray) : List Nat := s.data.toList.map (·.toNat)
theorem cods_length (s : ByteArray) : (cods s).length = s.size := by unfold cods; rw [List.length_map]; rfl
theorem cods_at (s : ByteArray) (i : Nat) (h : i < s.size) : (s[i]'h).toNat = (cods s).getD i 0 := by
  unfold cods
  rw [List.getD_eq_getElem?_getD, List.getElem?_map, List.getElem?_eq_getElem (by simpa using h)]
  rfl
theorem cods_lt (s : ByteArray) (i : Nat) : (cods s).getD i 0 < 256 := by
  rcases Nat.lt_or_ge i s.size with h | h
  · rw [← cods_at s i h]
    exact UInt8.toNat_lt _
  · rw [List.getD_eq_getElem?_getD, List.getElem?_eq_none (by rw [cods_length]; omega)]
    decide
def bstr (l : List Nat) : ByteArray := ⟨(l.map UInt8.ofNat).toArray⟩
theorem bstr_size (l : List Nat) : (bstr l).size = l.length := by show (l.map UInt8.ofNat).toArray.size = l.length; simp
theorem cods_bstr (l : List Nat) (h : ∀ x ∈ l, x < 256) : cods (bstr l) = l := by
  unfold cods bstr
  show ((l.map UInt8.ofNat).toArray.toList).map (·.toNat) = l
  rw [List.toList_toArray, List.map_map]
  conv => rhs; rw [← List.map_id l]
  apply List.map_congr_left
  intro x hx
  show (UInt8.ofNat x).toNat = x
  rw [UInt8.toNat_ofNat']
  exact Nat.mod_eq_of_lt (h x hx)
theorem bstr_cods (s : ByteArray) : bstr (cods s) = s := by
  unfold bstr cods
  rw [List.map_map]
  have : (fun x : UInt8 => UInt8.ofNat x.toNat) = id := by funext x; simp
  rw [show (UInt8.ofNat ∘ fun x : UInt8 => x.toNat) = id from this, List.map_id]
theorem cods_inj {s t : ByteArray} (h : cods s = cods t) : s = t := by rw [← bstr_cods s, ← bstr_cods t, h]
theorem cods_extract (s : ByteArray) (i j : Nat) : cods (s.extract i j) = ((cods s).take j).drop i := by
  unfold cods
  rw [ByteArray.data_extract, Array.toList_extract, List.extract_eq_take_drop, List.map_take, List.map_drop, List.drop_take]

/-- the code at a place; behind the end it is 0 -/
def tAt (l : List Nat) (i : Nat) : Nat := l.getD i 0
theorem tAt_in {l : List Nat} {i : Nat} (h : tAt l i ≠ 0) : i < l.length := by
  rcases Nat.lt_or_ge i l.length with h1 | h1
  · exact h1
  · exfalso
    apply h
    unfold tAt
    rw [List.getD_eq_getElem?_getD, List.getElem?_eq_none h1]
    rfl
theorem tAt_out {l : List Nat} {i : Nat} (h : l.length ≤ i) : tAt l i = 0 := by
  unfold tAt
  rw [List.getD_eq_getElem?_getD, List.getElem?_eq_none h]
  rfl

/-! ### kinds of codes -/
def isUp (c : Nat) : Bool := decide (65 ≤ c) && decide (c ≤ 90)
def isLo (c : Nat) : Bool := decide (97 ≤ c) && decide (c ≤ 122)
def isLt (c : Nat) : Bool := isUp c || isLo c
def isDg (c : Nat) : Bool := decide (48 ≤ c) && decide (c ≤ 57)
def isWs (c : Nat) : Bool := c == 32 || (c == 9 || (c == 10 || c == 13))
def isQt (c : Nat) : Bool := decide (32 ≤ c) && decide (c ≤ 126)
def isA (c : Nat) : Bool := isLt c || isDg c
theorem isUp_iff {c : Nat} : isUp c = true ↔ 65 ≤ c ∧ c ≤ 90 := by simp [isUp]
theorem isLo_iff {c : Nat} : isLo c = true ↔ 97 ≤ c ∧ c ≤ 122 := by simp [isLo]
theorem isDg_iff {c : Nat} : isDg c = true ↔ 48 ≤ c ∧ c ≤ 57 := by simp [isDg]
theorem isQt_iff {c : Nat} : isQt c = true ↔ 32 ≤ c ∧ c ≤ 126 := by simp [isQt]
theorem isWs_iff {c : Nat} : isWs c = true ↔ c = 32 ∨ c = 9 ∨ c = 10 ∨ c = 13 := by simp [isWs]
theorem isLt_iff {c : Nat} : isLt c = true ↔ (65 ≤ c ∧ c ≤ 90) ∨ (97 ≤ c ∧ c ≤ 122) := by simp [isLt, isUp, isLo]
theorem isA_iff {c : Nat} : isA c = true ↔ ((65 ≤ c ∧ c ≤ 90) ∨ (97 ≤ c ∧ c ≤ 122)) ∨ (48 ≤ c ∧ c ≤ 57) := by simp [isA, isLt, isUp, isLo, isDg]

/-! ### where tokens end -/
/-- a word: e: so far; n: steps enough -/
def wGo (l : List Nat) (p : Nat) : Nat → Nat → Nat
  | 0, e => e
  | n + 1, e => if isA (tAt l e) = true then wGo l p n (e + 1) else if tAt l e ≠ 45 ∨ tAt l (e + 1) = 45 then e else if isA (tAt l (e + 1)) = true then wGo l p n (e + 2) else p
def wEnd (l : List Nat) (p : Nat) : Nat := wGo l p (l.length + 1) (p + 1)
/-- digits -/
def dGo (l : List Nat) : Nat → Nat → Nat
  | 0, e => e
  | n + 1, e => if isDg (tAt l e) = true then dGo l n (e + 1) else e
def dEnd (l : List Nat) (f : Nat) : Nat := dGo l (l.length + 1) f
/-- what digits spell -/
def decV (acc : Nat) (ds : List Nat) : Nat := ds.foldl (fun a c => a * 10 + (c - 48)) acc
def cut (l : List Nat) (i j : Nat) : List Nat := (l.take j).drop i
/-- where an integer's digits begin -/
def iFst (l : List Nat) (p : Nat) : Nat := if tAt l p = 45 then p + 1 else p
def iBad (l : List Nat) (p : Nat) : Prop := (tAt l (iFst l p) = 48 ∧ (tAt l p = 45 ∨ 1 < dEnd l (iFst l p) - iFst l p)) ∨ isLt (tAt l (dEnd l (iFst l p))) = true
instance (l : List Nat) (p : Nat) : Decidable (iBad l p) := by unfold iBad; infer_instance
def iVal (l : List Nat) (p : Nat) : Nat := decV 0 (cut l (iFst l p) (dEnd l (iFst l p)))
def iEnd (l : List Nat) (p : Nat) : Nat := if iBad l p then p else if iVal l p < 9223372036854775808 then dEnd l (iFst l p) else p
/-- a text in quotes -/
def qGo (l : List Nat) (p : Nat) : Nat → Nat → Nat
  | 0, _ => p
  | n + 1, e => if isQt (tAt l e) = true then (if tAt l e ≠ 34 then qGo l p n (e + 1) else if tAt l (e + 1) = 34 then qGo l p n (e + 2) else e + 1) else p
def qEnd (l : List Nat) (p : Nat) : Nat := qGo l p (l.length + 1) (p + 1)
/-- the signs -/
def sgns : List (List Nat) := [[58, 58, 61], [46, 46, 46], [46, 46], [123], [125], [40], [41], [91], [93], [44], [59], [124], [94], [61], [45]]
def hasP (l : List Nat) (p : Nat) (g : List Nat) : Bool := decide ((l.drop p).take g.length = g)
def sGo (l : List Nat) (p : Nat) : List (List Nat) → Nat
  | [] => p
  | g :: r => if hasP l p g = true then p + g.length else sGo l p r
def sEnd (l : List Nat) (p : Nat) : Nat := sGo l p sgns
/-- the kind of the token that starts at p, and where it ends -/
def tkEnd (l : List Nat) (p : Nat) : Nat × Nat :=
  if isLt (tAt l p) = true then (1, wEnd l p)
  else if isDg (tAt l p) = true ∨ (tAt l p = 45 ∧ isDg (tAt l (p + 1)) = true) then (2, iEnd l p)
  else if tAt l p = 34 then (4, qEnd l p)
  else (3, sEnd l p)
/-- the end of a comment -/
def cGo (l : List Nat) : Nat → Nat → Nat
  | 0, _ => l.length
  | n + 1, e => if e < l.length then (if tAt l e = 10 then e else if tAt l e = 45 ∧ tAt l (e + 1) = 45 then e + 2 else cGo l n (e + 1)) else l.length
def cEnd (l : List Nat) (p : Nat) : Nat := cGo l (l.length + 1) (p + 2)
/-- behind white space and comments -/
def kGo (l : List Nat) : Nat → Nat → Nat
  | 0, p => p
  | n + 1, p => if isWs (tAt l p) = true then kGo l n (p + 1) else if tAt l p = 45 ∧ tAt l (p + 1) = 45 then kGo l n (cEnd l p) else p
def skp (l : List Nat) (p : Nat) : Nat := kGo l (l.length + 1) p

/-! ### tokens -/
structure Tk where
  k : Nat
  t : ByteArray
  n : Int
  a : Nat
def sub (s : ByteArray) (i j : Nat) : ByteArray := s.extract i j
/-- a text in quotes, without them -/
def unq (s : ByteArray) : ByteArray := ⟨(Lib.replaceAll s.data.toList [34, 34] [34]).toArray⟩
def tkOf (s : ByteArray) (k p e : Nat) : Tk :=
  if k = 2 then ⟨2, ⟨#[]⟩, if tAt (cods s) p = 45 then -(iVal (cods s) p : Int) else (iVal (cods s) p : Int), p⟩
  else if k = 4 then ⟨4, unq (sub s (p + 1) (e - 1)), 0, p⟩
  else ⟨k, sub s p e, 0, p⟩
/-- what a text's tokens are, where they end, and the error -/
structure Sc where
  l : List Tk
  p : Nat
  e : Int
def scGo (s : ByteArray) : Nat → Nat → List Tk → Sc
  | 0, p, acc => ⟨acc, p, 0⟩
  | n + 1, p, acc =>
    if p < s.size then
      (if (tkEnd (cods s) p).2 = p then ⟨[], p, 6⟩
       else scGo s n (skp (cods s) (tkEnd (cods s) p).2) (acc ++ [tkOf s (tkEnd (cods s) p).1 p (tkEnd (cods s) p).2]))
    else ⟨acc, p, 0⟩
def scF (s : ByteArray) : Sc := scGo s (s.size + 1) (skp (cods s) 0) []

/-! ### bounds -/
theorem isA_in {l : List Nat} {i : Nat} (h : isA (tAt l i) = true) : i < l.length := tAt_in (by rw [isA_iff] at h; omega)
theorem isDg_in {l : List Nat} {i : Nat} (h : isDg (tAt l i) = true) : i < l.length := tAt_in (by rw [isDg_iff] at h; omega)
theorem isQt_in {l : List Nat} {i : Nat} (h : isQt (tAt l i) = true) : i < l.length := tAt_in (by rw [isQt_iff] at h; omega)
theorem isWs_in {l : List Nat} {i : Nat} (h : isWs (tAt l i) = true) : i < l.length := tAt_in (by rw [isWs_iff] at h; omega)
theorem wGo_step {l : List Nat} {p n e : Nat} (h : isA (tAt l e) = true) : wGo l p (n + 1) e = wGo l p n (e + 1) := if_pos h
theorem wGo_end {l : List Nat} {p n e : Nat} (h : ¬ isA (tAt l e) = true) (h2 : tAt l e ≠ 45 ∨ tAt l (e + 1) = 45) : wGo l p (n + 1) e = e := (if_neg h).trans (if_pos h2)
theorem wGo_two {l : List Nat} {p n e : Nat} (h : ¬ isA (tAt l e) = true) (h2 : ¬ (tAt l e ≠ 45 ∨ tAt l (e + 1) = 45)) (h3 : isA (tAt l (e + 1)) = true) : wGo l p (n + 1) e = wGo l p n (e + 2) := (if_neg h).trans ((if_neg h2).trans (if_pos h3))
theorem wGo_bad {l : List Nat} {p n e : Nat} (h : ¬ isA (tAt l e) = true) (h2 : ¬ (tAt l e ≠ 45 ∨ tAt l (e + 1) = 45)) (h3 : ¬ isA (tAt l (e + 1)) = true) : wGo l p (n + 1) e = p := (if_neg h).trans ((if_neg h2).trans (if_neg h3))
theorem wGo_le (l : List Nat) (p : Nat) : ∀ (n e : Nat), e ≤ l.length → wGo l p n e = p ∨ (e ≤ wGo l p n e ∧ wGo l p n e ≤ l.length)
  | 0, e, h => .inr ⟨Nat.le_refl _, h⟩
  | n + 1, e, h => by
    by_cases h1 : isA (tAt l e) = true
    · rw [wGo_step h1]
      have := isA_in h1
      rcases wGo_le l p n (e + 1) this with h | ⟨h2, h3⟩
      · exact .inl h
      · exact .inr ⟨by omega, h3⟩
    · by_cases h2 : tAt l e ≠ 45 ∨ tAt l (e + 1) = 45
      · rw [wGo_end h1 h2]; exact .inr ⟨Nat.le_refl _, h⟩
      · by_cases h3 : isA (tAt l (e + 1)) = true
        · rw [wGo_two h1 h2 h3]
          have := isA_in h3
          rcases wGo_le l p n (e + 2) this with h | ⟨h4, h5⟩
          · exact .inl h
          · exact .inr ⟨by omega, h5⟩
        · rw [wGo_bad h1 h2 h3]; exact .inl rfl
theorem dGo_step {l : List Nat} {n e : Nat} (h : isDg (tAt l e) = true) : dGo l (n + 1) e = dGo l n (e + 1) := if_pos h
theorem dGo_end {l : List Nat} {n e : Nat} (h : ¬ isDg (tAt l e) = true) : dGo l (n + 1) e = e := if_neg h
theorem dGo_le (l : List Nat) : ∀ (n e : Nat), e ≤ l.length → e ≤ dGo l n e ∧ dGo l n e ≤ l.length
  | 0, e, h => ⟨Nat.le_refl _, h⟩
  | n + 1, e, h => by
    by_cases h1 : isDg (tAt l e) = true
    · rw [dGo_step h1]
      have := dGo_le l n (e + 1) (isDg_in h1)
      omega
    · rw [dGo_end h1]; exact ⟨Nat.le_refl _, h⟩
theorem dGo_all (l : List Nat) : ∀ (n e : Nat), ∀ i, e ≤ i → i < dGo l n e → isDg (tAt l i) = true
  | 0, e, i, h1, h2 => by unfold dGo at h2; omega
  | n + 1, e, i, h1, h2 => by
    by_cases h : isDg (tAt l e) = true
    · rw [dGo_step h] at h2
      by_cases e1 : i = e
      · subst e1; exact h
      · exact dGo_all l n (e + 1) i (by omega) h2
    · rw [dGo_end h] at h2; omega
theorem qGo_step {l : List Nat} {p n e : Nat} (h : isQt (tAt l e) = true) (h2 : tAt l e ≠ 34) : qGo l p (n + 1) e = qGo l p n (e + 1) := (if_pos h).trans (if_pos h2)
theorem qGo_two {l : List Nat} {p n e : Nat} (h : isQt (tAt l e) = true) (h2 : tAt l e = 34) (h3 : tAt l (e + 1) = 34) : qGo l p (n + 1) e = qGo l p n (e + 2) := (if_pos h).trans ((if_neg (fun h => h h2)).trans (if_pos h3))
theorem qGo_end {l : List Nat} {p n e : Nat} (h : isQt (tAt l e) = true) (h2 : tAt l e = 34) (h3 : ¬ tAt l (e + 1) = 34) : qGo l p (n + 1) e = e + 1 := (if_pos h).trans ((if_neg (fun h => h h2)).trans (if_neg h3))
theorem qGo_bad {l : List Nat} {p n e : Nat} (h : ¬ isQt (tAt l e) = true) : qGo l p (n + 1) e = p := if_neg h
theorem qGo_le (l : List Nat) (p : Nat) : ∀ (n e : Nat), qGo l p n e = p ∨ (e + 1 ≤ qGo l p n e ∧ qGo l p n e ≤ l.length)
  | 0, e => .inl rfl
  | n + 1, e => by
    by_cases h : isQt (tAt l e) = true
    · have hi := isQt_in h
      by_cases h2 : tAt l e = 34
      · by_cases h3 : tAt l (e + 1) = 34
        · rw [qGo_two h h2 h3]
          rcases qGo_le l p n (e + 2) with h | ⟨h4, h5⟩
          · exact .inl h
          · exact .inr ⟨by omega, h5⟩
        · rw [qGo_end h h2 h3]; exact .inr ⟨Nat.le_refl _, hi⟩
      · rw [qGo_step h h2]
        rcases qGo_le l p n (e + 1) with h | ⟨h4, h5⟩
        · exact .inl h
        · exact .inr ⟨by omega, h5⟩
    · rw [qGo_bad h]; exact .inl rfl
theorem hasP_len {l : List Nat} {p : Nat} {g : List Nat} (h : hasP l p g = true) (hg : g ≠ []) : p + g.length ≤ l.length := by
  have h1 := of_decide_eq_true h
  have h2 : ((l.drop p).take g.length).length = g.length := by rw [h1]
  rw [List.length_take, List.length_drop] at h2
  have : 0 < g.length := List.length_pos_iff.2 hg
  omega
theorem sGo_le (l : List Nat) (p : Nat) : ∀ (r : List (List Nat)), (∀ g ∈ r, g ≠ []) → sGo l p r = p ∨ (p + 1 ≤ sGo l p r ∧ sGo l p r ≤ l.length)
  | [], _ => .inl rfl
  | g :: r, h => by
    unfold sGo
    split
    · rename_i h1
      have h2 := hasP_len h1 (h g (List.mem_cons_self ..))
      have : 0 < g.length := List.length_pos_iff.2 (h g (List.mem_cons_self ..))
      exact .inr ⟨by omega, h2⟩
    · exact sGo_le l p r fun g' hg' => h g' (List.mem_cons_of_mem _ hg')
theorem sgns_ne : ∀ g ∈ sgns, g ≠ [] := by decide
theorem iFst_le {l : List Nat} {p : Nat} (h : isDg (tAt l p) = true ∨ (tAt l p = 45 ∧ isDg (tAt l (p + 1)) = true)) : p ≤ iFst l p ∧ isDg (tAt l (iFst l p)) = true ∧ iFst l p < l.length ∧ iFst l p < dEnd l (iFst l p) ∧ dEnd l (iFst l p) ≤ l.length := by
  have key : p ≤ iFst l p ∧ isDg (tAt l (iFst l p)) = true := by
    unfold iFst
    split
    · rename_i h1
      rcases h with h | h
      · rw [h1] at h; exact absurd h (by decide)
      · exact ⟨Nat.le_succ _, h.2⟩
    · rename_i h1
      exact ⟨Nat.le_refl _, h.resolve_right fun h2 => h1 h2.1⟩
  have h3 := isDg_in key.2
  refine ⟨key.1, key.2, h3, ?_⟩
  unfold dEnd
  rw [dGo_step key.2]
  have := dGo_le l l.length (iFst l p + 1) h3
  omega
/-- a token, if there is one, is not empty and ends in the text -/
theorem tkEnd_le {l : List Nat} {p : Nat} (hp : p < l.length) : (tkEnd l p).2 = p ∨ (p + 1 ≤ (tkEnd l p).2 ∧ (tkEnd l p).2 ≤ l.length) := by
  unfold tkEnd
  split
  · exact (wGo_le l p (l.length + 1) (p + 1) hp).imp id fun h => h
  · split
    · rename_i h
      have h1 := iFst_le h
      show iEnd l p = p ∨ _
      show iEnd l p = p ∨ (p + 1 ≤ iEnd l p ∧ iEnd l p ≤ l.length)
      unfold iEnd
      split
      · exact .inl rfl
      · split
        · exact .inr ⟨by omega, by omega⟩
        · exact .inl rfl
    · split
      · exact (qGo_le l p (l.length + 1) (p + 1)).imp id fun h => ⟨by have := h.1; show p + 1 ≤ qEnd l p; unfold qEnd; omega, h.2⟩
      · exact sGo_le l p sgns sgns_ne
theorem cGo_le (l : List Nat) : ∀ (n e : Nat), e ≤ l.length → e ≤ cGo l n e ∧ cGo l n e ≤ l.length
  | 0, e, h => ⟨h, Nat.le_refl _⟩
  | n + 1, e, h => by
    unfold cGo
    split
    · rename_i h1
      split
      · exact ⟨Nat.le_refl _, h⟩
      · split
        · rename_i h2
          have := tAt_in (l := l) (i := e + 1) (by rw [h2.2]; decide)
          exact ⟨by omega, by omega⟩
        · have := cGo_le l n (e + 1) h1
          omega
    · exact ⟨h, Nat.le_refl _⟩
theorem cEnd_le {l : List Nat} {p : Nat} (h : tAt l p = 45 ∧ tAt l (p + 1) = 45) : p + 2 ≤ cEnd l p ∧ cEnd l p ≤ l.length := by
  have := tAt_in (l := l) (i := p + 1) (by rw [h.2]; decide)
  exact cGo_le l _ (p + 2) (by omega)
theorem kGo_le (l : List Nat) : ∀ (n p : Nat), p ≤ l.length → p ≤ kGo l n p ∧ kGo l n p ≤ l.length
  | 0, p, h => ⟨Nat.le_refl _, h⟩
  | n + 1, p, h => by
    unfold kGo
    split
    · rename_i h1
      have := kGo_le l n (p + 1) (isWs_in h1)
      omega
    · split
      · rename_i h2
        have h3 := cEnd_le h2
        have := kGo_le l n (cEnd l p) h3.2
        omega
      · exact ⟨Nat.le_refl _, h⟩
theorem skp_le {l : List Nat} {p : Nat} (h : p ≤ l.length) : p ≤ skp l p ∧ skp l p ≤ l.length := kGo_le l _ p h
end Go.Proofs.YthcodmcfkmochaaDoor
