/-
  A bundle of texts, one behind the other: TkM, TkN, TkF, TkW, TkQ, TkH, TkS, TkI, TkE, TkU.
-/
import Derived.Test.YtgmnojnalkhepaaGreatDoorProg
import Derived.WalkKit
import Derived.Lib.Hide
import Derived.KernelRfl
import Derived.Lib.AtoiAll
import Derived.Lib.Replace
import Derived.Lib.AtoiAllCases
import Derived.WalkLawsBesides
import Derived.Deep.DeepFit
import Derived.OwnWalk
import Derived.Deep.RegionHeld3
import Derived.Test.YtgmnojnalkhepaaGreatDoorShelf
import Derived.Lib.Strings
import Derived.Deep.Cut
import Derived.Laws.BytesArg
import Derived.Deep.QuietTactic
/-
  Tokens in plain words: what a text's tokens are, and where each ends: no walk here.
-/
namespace Go.Proofs.YtgmnojnalkhepaaGreatDoor
set_option linter.unusedVariables false
set_option linter.unusedSimpArgs false
set_option maxRecDepth 100000

/-! ### a text's codes -/
def cods (s : ByteArray) : List Nat := s.data.toList.map (·.toNat)
theorem cods_length (s : ByteArray) : (cods s).length = s.size := by unfold cods; rw [List.length_map]; rfl
theorem cods_at (s : ByteArray) (i : Nat) (h : i < s.size) : (s[i]'h).toNat = (cods s).getD i 0 := by
  unfold cods
  rw [List.getD_eq_getElem?_getD, List.getElem?_map, List.getElem?_eq_getElem (by simpa using h)]
  rfl
theorem cods_lt (s : ByteArray) (i : Nat) : (cods s).getD i 0 < 256 := by
  rcases Nat.lt_or_ge i s.size with h | h
  · rw [← cods_at s i h]
    exact UInt8.toNat_lt _
  · rw [List.getD_eq_getElem?_getD, List.getElem?_eq_none (by rw [cods_length]; omega)]
    decide
def bstr (l : List Nat) : ByteArray := ⟨(l.map UInt8.ofNat).toArray⟩
theorem bstr_size (l : List Nat) : (bstr l).size = l.length := by show (l.map UInt8.ofNat).toArray.size = l.length; simp
theorem cods_bstr (l : List Nat) (h : ∀ x ∈ l, x < 256) : cods (bstr l) = l := by
  unfold cods bstr
  show ((l.map UInt8.ofNat).toArray.toList).map (·.toNat) = l
  rw [List.toList_toArray, List.map_map]
  conv => rhs; rw [← List.map_id l]
  apply List.map_congr_left
  intro x hx
  show (UInt8.ofNat x).toNat = x
  rw [UInt8.toNat_ofNat']
  exact Nat.mod_eq_of_lt (h x hx)
theorem bstr_cods (s : ByteArray) : bstr (cods s) = s := by
  unfold bstr cods
  rw [List.map_map]
  have : (fun x : UInt8 => UInt8.ofNat x.toNat) = id := by funext x; simp
  rw [show (UInt8.ofNat ∘ fun x : UInt8 => x.toNat) = id from this, List.map_id]
theorem cods_inj {s t : ByteArray} (h : cods s = cods t) : s = t := by rw [← bstr_cods s, ← bstr_cods t, h]
theorem cods_extract (s : ByteArray) (i j : Nat) : cods (s.extract i j) = ((cods s).take j).drop i := by
  unfold cods
  rw [ByteArray.data_extract, Array.toList_extract, List.extract_eq_take_drop, List.map_take, List.map_drop, List.drop_take]

/-- the code at a place; behind the end it is 0 -/
def tAt (l : List Nat) (i : Nat) : Nat := l.getD i 0
theorem tAt_in {l : List Nat} {i : Nat} (h : tAt l i ≠ 0) : i < l.length := by
  rcases Nat.lt_or_ge i l.length with h1 | h1
  · exact h1
  · exfalso
    apply h
    unfold tAt
    rw [List.getD_eq_getElem?_getD, List.getElem?_eq_none h1]
    rfl
theorem tAt_out {l : List Nat} {i : Nat} (h : l.length ≤ i) : tAt l i = 0 := by
  unfold tAt
  rw [List.getD_eq_getElem?_getD, List.getElem?_eq_none h]
  rfl

/-! ### kinds of codes -/
def isUp (c : Nat) : Bool := decide (65 ≤ c) && decide (c ≤ 90)
def isLo (c : Nat) : Bool := decide (97 ≤ c) && decide (c ≤ 122)
def isLt (c : Nat) : Bool := isUp c || isLo c
def isDg (c : Nat) : Bool := decide (48 ≤ c) && decide (c ≤ 57)
def isWs (c : Nat) : Bool := c == 32 || (c == 9 || (c == 10 || c == 13))
def isQt (c : Nat) : Bool := decide (32 ≤ c) && decide (c ≤ 126)
def isA (c : Nat) : Bool := isLt c || isDg c
theorem isUp_iff {c : Nat} : isUp c = true ↔ 65 ≤ c ∧ c ≤ 90 := by simp [isUp]
theorem isLo_iff {c : Nat} : isLo c = true ↔ 97 ≤ c ∧ c ≤ 122 := by simp [isLo]
theorem isDg_iff {c : Nat} : isDg c = true ↔ 48 ≤ c ∧ c ≤ 57 := by simp [isDg]
theorem isQt_iff {c : Nat} : isQt c = true ↔ 32 ≤ c ∧ c ≤ 126 := by simp [isQt]
theorem isWs_iff {c : Nat} : isWs c = true ↔ c = 32 ∨ c = 9 ∨ c = 10 ∨ c = 13 := by simp [isWs]
theorem isLt_iff {c : Nat} : isLt c = true ↔ (65 ≤ c ∧ c ≤ 90) ∨ (97 ≤ c ∧ c ≤ 122) := by simp [isLt, isUp, isLo]
theorem isA_iff {c : Nat} : isA c = true ↔ ((65 ≤ c ∧ c ≤ 90) ∨ (97 ≤ c ∧ c ≤ 122)) ∨ (48 ≤ c ∧ c ≤ 57) := by simp [isA, isLt, isUp, isLo, isDg]

/-! ### where tokens end -/
/-- a word: e: so far; n: steps enough -/
def wGo (l : List Nat) (p : Nat) : Nat → Nat → Nat
  | 0, e => e
  | n + 1, e => if isA (tAt l e) = true then wGo l p n (e + 1) else if tAt l e ≠ 45 ∨ tAt l (e + 1) = 45 then e else if isA (tAt l (e + 1)) = true then wGo l p n (e + 2) else p
def wEnd (l : List Nat) (p : Nat) : Nat := wGo l p (l.length + 1) (p + 1)
/-- digits -/
def dGo (l : List Nat) : Nat → Nat → Nat
  | 0, e => e
  | n + 1, e => if isDg (tAt l e) = true then dGo l n (e + 1) else e
def dEnd (l : List Nat) (f : Nat) : Nat := dGo l (l.length + 1) f
/-- what digits spell -/
def decV (acc : Nat) (ds : List Nat) : Nat := ds.foldl (fun a c => a * 10 + (c - 48)) acc
def cut (l : List Nat) (i j : Nat) : List Nat := (l.take j).drop i
/-- where an integer's digits begin -/
def iFst (l : List Nat) (p : Nat) : Nat := if tAt l p = 45 then p + 1 else p
def iBad (l : List Nat) (p : Nat) : Prop := (tAt l (iFst l p) = 48 ∧ (tAt l p = 45 ∨ 1 < dEnd l (iFst l p) - iFst l p)) ∨ isLt (tAt l (dEnd l (iFst l p))) = true
instance (l : List Nat) (p : Nat) : Decidable (iBad l p) := by unfold iBad; infer_instance
def iVal (l : List Nat) (p : Nat) : Nat := decV 0 (cut l (iFst l p) (dEnd l (iFst l p)))
def iEnd (l : List Nat) (p : Nat) : Nat := if iBad l p then p else if iVal l p < 9223372036854775808 then dEnd l (iFst l p) else p
/-- a text in quotes -/
def qGo (l : List Nat) (p : Nat) : Nat → Nat → Nat
  | 0, _ => p
  | n + 1, e => if isQt (tAt l e) = true then (if tAt l e ≠ 34 then qGo l p n (e + 1) else if tAt l (e + 1) = 34 then qGo l p n (e + 2) else e + 1) else p
def qEnd (l : List Nat) (p : Nat) : Nat := qGo l p (l.length + 1) (p + 1)
/-- the signs -/
def sgns : List (List Nat) := [[58, 58, 61], [46, 46, 46], [46, 46], [123], [125], [40], [41], [91], [93], [44], [59], [124], [94], [61], [45]]
def hasP (l : List Nat) (p : Nat) (g : List Nat) : Bool := decide ((l.drop p).take g.length = g)
def sGo (l : List Nat) (p : Nat) : List (List Nat) → Nat
  | [] => p
  | g :: r => if hasP l p g = true then p + g.length else sGo l p r
def sEnd (l : List Nat) (p : Nat) : Nat := sGo l p sgns
/-- the kind of the token that starts at p, and where it ends -/
def tkEnd (l : List Nat) (p : Nat) : Nat × Nat :=
  if isLt (tAt l p) = true then (1, wEnd l p)
  else if isDg (tAt l p) = true ∨ (tAt l p = 45 ∧ isDg (tAt l (p + 1)) = true) then (2, iEnd l p)
  else if tAt l p = 34 then (4, qEnd l p)
  else (3, sEnd l p)
/-- the end of a comment -/
def cGo (l : List Nat) : Nat → Nat → Nat
  | 0, _ => l.length
  | n + 1, e => if e < l.length then (if tAt l e = 10 then e else if tAt l e = 45 ∧ tAt l (e + 1) = 45 then e + 2 else cGo l n (e + 1)) else l.length
def cEnd (l : List Nat) (p : Nat) : Nat := cGo l (l.length + 1) (p + 2)
/-- behind white space and comments -/
def kGo (l : List Nat) : Nat → Nat → Nat
  | 0, p => p
  | n + 1, p => if isWs (tAt l p) = true then kGo l n (p + 1) else if tAt l p = 45 ∧ tAt l (p + 1) = 45 then kGo l n (cEnd l p) else p
def skp (l : List Nat) (p : Nat) : Nat := kGo l (l.length + 1) p

/-! ### tokens -/
structure Tk where
  k : Nat
  t : ByteArray
  n : Int
  a : Nat
def sub (s : ByteArray) (i j : Nat) : ByteArray := s.extract i j
/-- a text in quotes, without them -/
def unq (s : ByteArray) : ByteArray := ⟨(Lib.replaceAll s.data.toList [34, 34] [34]).toArray⟩
def tkOf (s : ByteArray) (k p e : Nat) : Tk :=
  if k = 2 then ⟨2, ⟨#[]⟩, if tAt (cods s) p = 45 then -(iVal (cods s) p : Int) else (iVal (cods s) p : Int), p⟩
  else if k = 4 then ⟨4, unq (sub s (p + 1) (e - 1)), 0, p⟩
  else ⟨k, sub s p e, 0, p⟩
/-- what a text's tokens are, where they end, and the error -/
structure Sc where
  l : List Tk
  p : Nat
  e : Int
def scGo (s : ByteArray) : Nat → Nat → List Tk → Sc
  | 0, p, acc => ⟨acc, p, 0⟩
  | n + 1, p, acc =>
    if p < s.size then
      (if (tkEnd (cods s) p).2 = p then ⟨[], p, 6⟩
       else scGo s n (skp (cods s) (tkEnd (cods s) p).2) (acc ++ [tkOf s (tkEnd (cods s) p).1 p (tkEnd (cods s) p).2]))
    else ⟨acc, p, 0⟩
def scF (s : ByteArray) : Sc := scGo s (s.size + 1) (skp (cods s) 0) []

/-! ### bounds -/
theorem isA_in {l : List Nat} {i : Nat} (h : isA (tAt l i) = true) : i < l.length := tAt_in (by rw [isA_iff] at h; omega)
theorem isDg_in {l : List Nat} {i : Nat} (h : isDg (tAt l i) = true) : i < l.length := tAt_in (by rw [isDg_iff] at h; omega)
theorem isQt_in {l : List Nat} {i : Nat} (h : isQt (tAt l i) = true) : i < l.length := tAt_in (by rw [isQt_iff] at h; omega)
theorem isWs_in {l : List Nat} {i : Nat} (h : isWs (tAt l i) = true) : i < l.length := tAt_in (by rw [isWs_iff] at h; omega)
theorem wGo_step {l : List Nat} {p n e : Nat} (h : isA (tAt l e) = true) : wGo l p (n + 1) e = wGo l p n (e + 1) := if_pos h
theorem wGo_end {l : List Nat} {p n e : Nat} (h : ¬ isA (tAt l e) = true) (h2 : tAt l e ≠ 45 ∨ tAt l (e + 1) = 45) : wGo l p (n + 1) e = e := (if_neg h).trans (if_pos h2)
theorem wGo_two {l : List Nat} {p n e : Nat} (h : ¬ isA (tAt l e) = true) (h2 : ¬ (tAt l e ≠ 45 ∨ tAt l (e + 1) = 45)) (h3 : isA (tAt l (e + 1)) = true) : wGo l p (n + 1) e = wGo l p n (e + 2) := (if_neg h).trans ((if_neg h2).trans (if_pos h3))
theorem wGo_bad {l : List Nat} {p n e : Nat} (h : ¬ isA (tAt l e) = true) (h2 : ¬ (tAt l e ≠ 45 ∨ tAt l (e + 1) = 45)) (h3 : ¬ isA (tAt l (e + 1)) = true) : wGo l p (n + 1) e = p := (if_neg h).trans ((if_neg h2).trans (if_neg h3))
theorem wGo_le (l : List Nat) (p : Nat) : ∀ (n e : Nat), e ≤ l.length → wGo l p n e = p ∨ (e ≤ wGo l p n e ∧ wGo l p n e ≤ l.length)
  | 0, e, h => .inr ⟨Nat.le_refl _, h⟩
  | n + 1, e, h => by
    by_cases h1 : isA (tAt l e) = true
    · rw [wGo_step h1]
      have := isA_in h1
      rcases wGo_le l p n (e + 1) this with h | ⟨h2, h3⟩
      · exact .inl h
      · exact .inr ⟨by omega, h3⟩
    · by_cases h2 : tAt l e ≠ 45 ∨ tAt l (e + 1) = 45
      · rw [wGo_end h1 h2]; exact .inr ⟨Nat.le_refl _, h⟩
      · by_cases h3 : isA (tAt l (e + 1)) = true
        · rw [wGo_two h1 h2 h3]
          have := isA_in h3
          rcases wGo_le l p n (e + 2) this with h | ⟨h4, h5⟩
          · exact .inl h
          · exact .inr ⟨by omega, h5⟩
        · rw [wGo_bad h1 h2 h3]; exact .inl rfl
theorem dGo_step {l : List Nat} {n e : Nat} (h : isDg (tAt l e) = true) : dGo l (n + 1) e = dGo l n (e + 1) := if_pos h
theorem dGo_end {l : List Nat} {n e : Nat} (h : ¬ isDg (tAt l e) = true) : dGo l (n + 1) e = e := if_neg h
theorem dGo_le (l : List Nat) : ∀ (n e : Nat), e ≤ l.length → e ≤ dGo l n e ∧ dGo l n e ≤ l.length
  | 0, e, h => ⟨Nat.le_refl _, h⟩
  | n + 1, e, h => by
    by_cases h1 : isDg (tAt l e) = true
    · rw [dGo_step h1]
      have := dGo_le l n (e + 1) (isDg_in h1)
      omega
    · rw [dGo_end h1]; exact ⟨Nat.le_refl _, h⟩
theorem dGo_all (l : List Nat) : ∀ (n e : Nat), ∀ i, e ≤ i → i < dGo l n e → isDg (tAt l i) = true
  | 0, e, i, h1, h2 => by unfold dGo at h2; omega
  | n + 1, e, i, h1, h2 => by
    by_cases h : isDg (tAt l e) = true
    · rw [dGo_step h] at h2
      by_cases e1 : i = e
      · subst e1; exact h
      · exact dGo_all l n (e + 1) i (by omega) h2
    · rw [dGo_end h] at h2; omega
theorem qGo_step {l : List Nat} {p n e : Nat} (h : isQt (tAt l e) = true) (h2 : tAt l e ≠ 34) : qGo l p (n + 1) e = qGo l p n (e + 1) := (if_pos h).trans (if_pos h2)
theorem qGo_two {l : List Nat} {p n e : Nat} (h : isQt (tAt l e) = true) (h2 : tAt l e = 34) (h3 : tAt l (e + 1) = 34) : qGo l p (n + 1) e = qGo l p n (e + 2) := (if_pos h).trans ((if_neg (fun h => h h2)).trans (if_pos h3))
theorem qGo_end {l : List Nat} {p n e : Nat} (h : isQt (tAt l e) = true) (h2 : tAt l e = 34) (h3 : ¬ tAt l (e + 1) = 34) : qGo l p (n + 1) e = e + 1 := (if_pos h).trans ((if_neg (fun h => h h2)).trans (if_neg h3))
theorem qGo_bad {l : List Nat} {p n e : Nat} (h : ¬ isQt (tAt l e) = true) : qGo l p (n + 1) e = p := if_neg h
theorem qGo_le (l : List Nat) (p : Nat) : ∀ (n e : Nat), qGo l p n e = p ∨ (e + 1 ≤ qGo l p n e ∧ qGo l p n e ≤ l.length)
  | 0, e => .inl rfl
  | n + 1, e => by
    by_cases h : isQt (tAt l e) = true
    · have hi := isQt_in h
      by_cases h2 : tAt l e = 34
      · by_cases h3 : tAt l (e + 1) = 34
        · rw [qGo_two h h2 h3]
          rcases qGo_le l p n (e + 2) with h | ⟨h4, h5⟩
          · exact .inl h
          · exact .inr ⟨by omega, h5⟩
        · rw [qGo_end h h2 h3]; exact .inr ⟨Nat.le_refl _, hi⟩
      · rw [qGo_step h h2]
        rcases qGo_le l p n (e + 1) with h | ⟨h4, h5⟩
        · exact .inl h
        · exact .inr ⟨by omega, h5⟩
    · rw [qGo_bad h]; exact .inl rfl
theorem hasP_len {l : List Nat} {p : Nat} {g : List Nat} (h : hasP l p g = true) (hg : g ≠ []) : p + g.length ≤ l.length := by
  have h1 := of_decide_eq_true h
  have h2 : ((l.drop p).take g.length).length = g.length := by rw [h1]
  rw [List.length_take, List.length_drop] at h2
  have : 0 < g.length := List.length_pos_iff.2 hg
  omega
theorem sGo_le (l : List Nat) (p : Nat) : ∀ (r : List (List Nat)), (∀ g ∈ r, g ≠ []) → sGo l p r = p ∨ (p + 1 ≤ sGo l p r ∧ sGo l p r ≤ l.length)
  | [], _ => .inl rfl
  | g :: r, h => by
    unfold sGo
    split
    · rename_i h1
      have h2 := hasP_len h1 (h g (List.mem_cons_self ..))
      have : 0 < g.length := List.length_pos_iff.2 (h g (List.mem_cons_self ..))
      exact .inr ⟨by omega, h2⟩
    · exact sGo_le l p r fun g' hg' => h g' (List.mem_cons_of_mem _ hg')
theorem sgns_ne : ∀ g ∈ sgns, g ≠ [] := by decide
theorem iFst_le {l : List Nat} {p : Nat} (h : isDg (tAt l p) = true ∨ (tAt l p = 45 ∧ isDg (tAt l (p + 1)) = true)) : p ≤ iFst l p ∧ isDg (tAt l (iFst l p)) = true ∧ iFst l p < l.length ∧ iFst l p < dEnd l (iFst l p) ∧ dEnd l (iFst l p) ≤ l.length := by
  have key : p ≤ iFst l p ∧ isDg (tAt l (iFst l p)) = true := by
    unfold iFst
    split
    · rename_i h1
      rcases h with h | h
      · rw [h1] at h; exact absurd h (by decide)
      · exact ⟨Nat.le_succ _, h.2⟩
    · rename_i h1
      exact ⟨Nat.le_refl _, h.resolve_right fun h2 => h1 h2.1⟩
  have h3 := isDg_in key.2
  refine ⟨key.1, key.2, h3, ?_⟩
  unfold dEnd
  rw [dGo_step key.2]
  have := dGo_le l l.length (iFst l p + 1) h3
  omega
/-- a token, if there is one, is not empty and ends in the text -/
theorem tkEnd_le {l : List Nat} {p : Nat} (hp : p < l.length) : (tkEnd l p).2 = p ∨ (p + 1 ≤ (tkEnd l p).2 ∧ (tkEnd l p).2 ≤ l.length) := by
  unfold tkEnd
  split
  · exact (wGo_le l p (l.length + 1) (p + 1) hp).imp id fun h => h
  · split
    · rename_i h
      have h1 := iFst_le h
      show iEnd l p = p ∨ _
      show iEnd l p = p ∨ (p + 1 ≤ iEnd l p ∧ iEnd l p ≤ l.length)
      unfold iEnd
      split
      · exact .inl rfl
      · split
        · exact .inr ⟨by omega, by omega⟩
        · exact .inl rfl
    · split
      · exact (qGo_le l p (l.length + 1) (p + 1)).imp id fun h => ⟨by have := h.1; show p + 1 ≤ qEnd l p; unfold qEnd; omega, h.2⟩
      · exact sGo_le l p sgns sgns_ne
theorem cGo_le (l : List Nat) : ∀ (n e : Nat), e ≤ l.length → e ≤ cGo l n e ∧ cGo l n e ≤ l.length
  | 0, e, h => ⟨h, Nat.le_refl _⟩
  | n + 1, e, h => by
    unfold cGo
    split
    · rename_i h1
      split
      · exact ⟨Nat.le_refl _, h⟩
      · split
        · rename_i h2
          have := tAt_in (l := l) (i := e + 1) (by rw [h2.2]; decide)
          exact ⟨by omega, by omega⟩
        · have := cGo_le l n (e + 1) h1
          omega
    · exact ⟨h, Nat.le_refl _⟩
theorem cEnd_le {l : List Nat} {p : Nat} (h : tAt l p = 45 ∧ tAt l (p + 1) = 45) : p + 2 ≤ cEnd l p ∧ cEnd l p ≤ l.length := by
  have := tAt_in (l := l) (i := p + 1) (by rw [h.2]; decide)
  exact cGo_le l _ (p + 2) (by omega)
theorem kGo_le (l : List Nat) : ∀ (n p : Nat), p ≤ l.length → p ≤ kGo l n p ∧ kGo l n p ≤ l.length
  | 0, p, h => ⟨Nat.le_refl _, h⟩
  | n + 1, p, h => by
    unfold kGo
    split
    · rename_i h1
      have := kGo_le l n (p + 1) (isWs_in h1)
      omega
    · split
      · rename_i h2
        have h3 := cEnd_le h2
        have := kGo_le l n (cEnd l p) h3.2
        omega
      · exact ⟨Nat.le_refl _, h⟩
theorem skp_le {l : List Nat} {p : Nat} (h : p ≤ l.length) : p ≤ skp l p ∧ skp l p ≤ l.length := kGo_le l _ p h
end Go.Proofs.YtgmnojnalkhepaaGreatDoor

/-
  Tokens in plain words: what digits spell, against the library's reading of them: no walk here.
-/
namespace Go.Proofs.YtgmnojnalkhepaaGreatDoor
set_option linter.unusedVariables false
set_option linter.unusedSimpArgs false
set_option maxRecDepth 100000

theorem decV_cons (acc c : Nat) (r : List Nat) : decV acc (c :: r) = decV (acc * 10 + (c - 48)) r := by simp only [decV, List.foldl_cons]
theorem decV_ge : ∀ (r : List Nat) (acc : Nat), acc ≤ decV acc r
  | [], acc => Nat.le_refl _
  | c :: r, acc => by
    rw [decV_cons]
    have := decV_ge r (acc * 10 + (c - 48))
    omega
theorem pu10 : ∀ (b : List UInt8) (acc : Nat), (∀ c ∈ b, 48 ≤ c.toNat ∧ c.toNat ≤ 57) → acc < 18446744073709551616 → Lib.parseUint10 acc b = if decV acc (b.map (·.toNat)) < 18446744073709551616 then .ok (decV acc (b.map (·.toNat))) else .range
  | [], acc, _, ha => by
    show Lib.NumEnd.ok acc = if acc < _ then _ else _
    rw [if_pos ha]
    rfl
  | c :: r, acc, h, ha => by
    have hc := h c (List.mem_cons_self ..)
    rw [List.map_cons, decV_cons]
    have hge := decV_ge (r.map (·.toNat)) (acc * 10 + (c.toNat - 48))
    simp only [Lib.parseUint10]
    rw [if_pos hc]
    by_cases h1 : 1844674407370955162 ≤ acc
    · rw [if_pos h1, if_neg (by omega)]
    · rw [if_neg h1]
      by_cases h2 : 18446744073709551616 ≤ acc * 10 + (c.toNat - 48)
      · rw [if_pos h2, if_neg (by omega)]
      · rw [if_neg h2]
        exact pu10 r _ (fun c hc => h c (List.mem_cons_of_mem _ hc)) (by omega)
theorem mag_dig {b : List UInt8} (h : ∀ c ∈ b, 48 ≤ c.toNat ∧ c.toNat ≤ 57) (h0 : b ≠ []) : Lib.parseMag b = if decV 0 (b.map (·.toNat)) < 18446744073709551616 then .ok (decV 0 (b.map (·.toNat))) else .range := by
  unfold Lib.parseMag
  rw [if_neg h0]
  exact pu10 b 0 h (by omega)
theorem mem_cods {s : ByteArray} {P : Nat → Prop} (h : ∀ c ∈ cods s, P c) : ∀ c ∈ s.data.toList, P c.toNat := fun c hc => h _ (List.mem_map.2 ⟨c, hc, rfl⟩)
theorem atoi_dig (b : ByteArray) (h : ∀ c ∈ cods b, 48 ≤ c ∧ c ≤ 57) (h0 : cods b ≠ []) : Lib.atoiAll b.data.toList = if decV 0 (cods b) < 9223372036854775808 then .ok (decV 0 (cods b) : Int) else .range := by
  have hm := mem_cods h
  have hd : cods b = b.data.toList.map (·.toNat) := rfl
  rw [hd] at h0 ⊢
  generalize b.data.toList = l at *
  cases l with
  | nil => exact absurd rfl h0
  | cons c r =>
    have hc := hm c (List.mem_cons_self ..)
    have e := mag_dig hm (by simp)
    rw [Lib.atoiAll_plain c r (by omega) (by omega), e]
    by_cases h1 : decV 0 ((c :: r).map (·.toNat)) < 9223372036854775808
    · rw [if_pos (by omega), if_pos h1]
      unfold Lib.signless
      simp only
      rw [if_neg (by omega)]
    · rw [if_neg h1]
      split
      · unfold Lib.signless
        simp only
        rw [if_pos (by omega)]
      · rfl
theorem atoi_neg (b : ByteArray) (ds : List Nat) (hb : cods b = 45 :: ds) (h : ∀ c ∈ ds, 48 ≤ c ∧ c ≤ 57) (h0 : ds ≠ []) (hv : decV 0 ds < 9223372036854775808) : Lib.atoiAll b.data.toList = .ok (-(decV 0 ds : Int)) := by
  have hd : b.data.toList.map (·.toNat) = 45 :: ds := hb
  cases hl : b.data.toList with
  | nil => rw [hl] at hd; cases hd
  | cons c r =>
    rw [hl] at hd
    injection hd with h1 h2
    have h2 : r.map (·.toNat) = ds := h2
    have hc : c = 45 := UInt8.toNat_inj.1 h1
    subst hc
    have hm : ∀ c ∈ r, 48 ≤ c.toNat ∧ c.toNat ≤ 57 := fun c hc => h _ (by rw [← h2]; exact List.mem_map.2 ⟨c, hc, rfl⟩)
    rw [Lib.atoiAll_minus, mag_dig hm (by intro e; rw [e] at h2; exact h0 h2.symm), h2, if_pos (by omega)]
    unfold Lib.signed
    simp only
    rw [if_neg (by omega)]
theorem cut_length {l : List Nat} {i j : Nat} (h : j ≤ l.length) : (cut l i j).length = j - i := by
  unfold cut
  rw [List.length_drop, List.length_take]
  omega
theorem cut_at {l : List Nat} {i j k : Nat} (h : i + k < j) : (cut l i j).getD k 0 = tAt l (i + k) := by
  unfold cut tAt
  rw [List.getD_eq_getElem?_getD, List.getD_eq_getElem?_getD, List.getElem?_drop, List.getElem?_take, if_pos h]
theorem cut_mem {l : List Nat} {i j : Nat} {P : Nat → Prop} (h : ∀ k, i ≤ k → k < j → P (tAt l k)) (hj : j ≤ l.length) : ∀ c ∈ cut l i j, P c := by
  intro c hc
  obtain ⟨k, hk, e⟩ := List.getElem_of_mem hc
  rw [cut_length hj] at hk
  have h2 := cut_at (l := l) (i := i) (j := j) (k := k) (by omega)
  rw [List.getD_eq_getElem?_getD, List.getElem?_eq_getElem (by rw [cut_length hj]; exact hk)] at h2
  have h3 : c = tAt l (i + k) := e.symm.trans h2
  rw [h3]
  exact h _ (by omega) (by omega)
theorem cut_cons {l : List Nat} {i j : Nat} (h : i < j) (hj : j ≤ l.length) : cut l i j = tAt l i :: cut l (i + 1) j := by
  unfold cut tAt
  have hi : i < (l.take j).length := by rw [List.length_take]; omega
  rw [List.drop_eq_getElem_cons hi]
  congr 1
  rw [List.getD_eq_getElem?_getD, List.getElem?_eq_getElem (show i < l.length by omega), List.getElem_take]
  rfl
theorem cods_sub (s : ByteArray) (i j : Nat) : cods (sub s i j) = cut (cods s) i j := cods_extract s i j
/-- the digits of an integer -/
theorem dig_cut {l : List Nat} {p : Nat} (h : isDg (tAt l p) = true ∨ (tAt l p = 45 ∧ isDg (tAt l (p + 1)) = true)) : (∀ c ∈ cut l (iFst l p) (dEnd l (iFst l p)), 48 ≤ c ∧ c ≤ 57) ∧ cut l (iFst l p) (dEnd l (iFst l p)) ≠ [] := by
  obtain ⟨_, _, _, h4, h5⟩ := iFst_le h
  refine ⟨cut_mem (fun k h1 h2 => isDg_iff.1 (dGo_all l _ _ k h1 h2)) h5, ?_⟩
  intro e
  have := cut_length (l := l) (i := iFst l p) h5
  rw [e] at this
  simp at this
  omega
theorem dGo_stop (l : List Nat) : ∀ (n e : Nat), e ≤ l.length → l.length + 1 ≤ n + e → ¬ isDg (tAt l (dGo l n e)) = true
  | 0, e, h1, h2 => by omega
  | n + 1, e, h1, h2 => by
    by_cases h : isDg (tAt l e) = true
    · rw [dGo_step h]
      exact dGo_stop l n (e + 1) (isDg_in h) (by omega)
    · rw [dGo_end h]; exact h
theorem dEnd_stop (l : List Nat) (f : Nat) (h : f ≤ l.length) : ¬ isDg (tAt l (dEnd l f)) = true := dGo_stop l (l.length + 1) f h (by omega)
theorem atoi_digits (s : ByteArray) (p : Nat) (h : isDg (tAt (cods s) p) = true ∨ (tAt (cods s) p = 45 ∧ isDg (tAt (cods s) (p + 1)) = true)) :
    Lib.atoiAll (sub s (iFst (cods s) p) (dEnd (cods s) (iFst (cods s) p))).data.toList = if iVal (cods s) p < 9223372036854775808 then .ok (iVal (cods s) p : Int) else .range := by
  obtain ⟨h1, h2⟩ := dig_cut h
  have := atoi_dig (sub s (iFst (cods s) p) (dEnd (cods s) (iFst (cods s) p))) (by rw [cods_sub]; exact h1) (by rw [cods_sub]; exact h2)
  rw [cods_sub] at this
  exact this
theorem atoi_token (s : ByteArray) (p : Nat) (h : isDg (tAt (cods s) p) = true ∨ (tAt (cods s) p = 45 ∧ isDg (tAt (cods s) (p + 1)) = true)) (hv : iVal (cods s) p < 9223372036854775808) :
    Lib.atoiAll (sub s p (dEnd (cods s) (iFst (cods s) p))).data.toList = .ok (if tAt (cods s) p = 45 then -(iVal (cods s) p : Int) else (iVal (cods s) p : Int)) := by
  by_cases h45 : tAt (cods s) p = 45
  · rw [if_pos h45]
    have hf : iFst (cods s) p = p + 1 := if_pos h45
    obtain ⟨h1, h2⟩ := dig_cut h
    obtain ⟨_, _, _, h4, h5⟩ := iFst_le h
    unfold iVal at hv ⊢
    rw [hf] at h1 h2 h4 h5 hv ⊢
    refine atoi_neg _ _ ?_ h1 h2 hv
    rw [cods_sub, cut_cons (by omega) h5, h45]
  · rw [if_neg h45]
    have hf : iFst (cods s) p = p := if_neg h45
    have := atoi_digits s p h
    rw [if_pos hv] at this
    rw [hf] at this ⊢
    exact this
end Go.Proofs.YtgmnojnalkhepaaGreatDoor

/-
  Package token: kinds of octets; the octet at a place.
-/
namespace Go.Proofs.YtgmnojnalkhepaaGreatDoor
open Go.RowKit
set_option linter.unusedVariables false
set_option linter.unusedSimpArgs false
set_option maxRecDepth 100000

theorem tup_ok (c : Nat) (w : World) : Calls Tryz.prog 63 #[.int .u8 (c : Nat)] w fun e w' => e = .returned (.bool (isUp c)) ∧ w = w' := by
  by_cases h1 : 65 ≤ c
  · by_cases h2 : c ≤ 90
    · rw [show isUp c = true by simp [isUp, h1, h2]]
      have q1 : decide ((65 : Int) ≤ (c : Int)) = true := decide_eq_true (by omega)
      have q2 : decide ((c : Int) ≤ (90 : Int)) = true := decide_eq_true (by omega)
      have q3 : decide (65 ≤ c) = true := decide_eq_true h1
      have q4 : decide (c ≤ 90) = true := decide_eq_true h2
      clear h1 h2
      go_enter Tryz.func63, Tryz.ntmps63
      go_wp2_with fail
      go_ret
      exact ⟨rfl, rfl⟩
    · rw [show isUp c = false by simp [isUp, h1, h2]]
      have q1 : decide ((65 : Int) ≤ (c : Int)) = true := decide_eq_true (by omega)
      have q2 : decide ((c : Int) ≤ (90 : Int)) = false := decide_eq_false (by omega)
      have q3 : decide (65 ≤ c) = true := decide_eq_true h1
      have q4 : decide (c ≤ 90) = false := decide_eq_false h2
      clear h1 h2
      go_enter Tryz.func63, Tryz.ntmps63
      go_wp2_with fail
      go_ret
      exact ⟨rfl, rfl⟩
  · rw [show isUp c = false by simp [isUp, h1]]
    have q1 : decide ((65 : Int) ≤ (c : Int)) = false := decide_eq_false (by omega)
    have q3 : decide (65 ≤ c) = false := decide_eq_false h1
    clear h1
    go_enter Tryz.func63, Tryz.ntmps63
    go_wp2_with fail
    go_ret
    exact ⟨rfl, rfl⟩
theorem tlo_ok (c : Nat) (w : World) : Calls Tryz.prog 84 #[.int .u8 (c : Nat)] w fun e w' => e = .returned (.bool (isLo c)) ∧ w = w' := by
  by_cases h1 : 97 ≤ c
  · by_cases h2 : c ≤ 122
    · rw [show isLo c = true by simp [isLo, h1, h2]]
      have q1 : decide ((97 : Int) ≤ (c : Int)) = true := decide_eq_true (by omega)
      have q2 : decide ((c : Int) ≤ (122 : Int)) = true := decide_eq_true (by omega)
      have q3 : decide (97 ≤ c) = true := decide_eq_true h1
      have q4 : decide (c ≤ 122) = true := decide_eq_true h2
      clear h1 h2
      go_enter Tryz.func84, Tryz.ntmps84
      go_wp2_with fail
      go_ret
      exact ⟨rfl, rfl⟩
    · rw [show isLo c = false by simp [isLo, h1, h2]]
      have q1 : decide ((97 : Int) ≤ (c : Int)) = true := decide_eq_true (by omega)
      have q2 : decide ((c : Int) ≤ (122 : Int)) = false := decide_eq_false (by omega)
      have q3 : decide (97 ≤ c) = true := decide_eq_true h1
      have q4 : decide (c ≤ 122) = false := decide_eq_false h2
      clear h1 h2
      go_enter Tryz.func84, Tryz.ntmps84
      go_wp2_with fail
      go_ret
      exact ⟨rfl, rfl⟩
  · rw [show isLo c = false by simp [isLo, h1]]
    have q1 : decide ((97 : Int) ≤ (c : Int)) = false := decide_eq_false (by omega)
    have q3 : decide (97 ≤ c) = false := decide_eq_false h1
    clear h1
    go_enter Tryz.func84, Tryz.ntmps84
    go_wp2_with fail
    go_ret
    exact ⟨rfl, rfl⟩
theorem tdg_ok (c : Nat) (w : World) : Calls Tryz.prog 107 #[.int .u8 (c : Nat)] w fun e w' => e = .returned (.bool (isDg c)) ∧ w = w' := by
  by_cases h1 : 48 ≤ c
  · by_cases h2 : c ≤ 57
    · rw [show isDg c = true by simp [isDg, h1, h2]]
      have q1 : decide ((48 : Int) ≤ (c : Int)) = true := decide_eq_true (by omega)
      have q2 : decide ((c : Int) ≤ (57 : Int)) = true := decide_eq_true (by omega)
      have q3 : decide (48 ≤ c) = true := decide_eq_true h1
      have q4 : decide (c ≤ 57) = true := decide_eq_true h2
      clear h1 h2
      go_enter Tryz.func107, Tryz.ntmps107
      go_wp2_with fail
      go_ret
      exact ⟨rfl, rfl⟩
    · rw [show isDg c = false by simp [isDg, h1, h2]]
      have q1 : decide ((48 : Int) ≤ (c : Int)) = true := decide_eq_true (by omega)
      have q2 : decide ((c : Int) ≤ (57 : Int)) = false := decide_eq_false (by omega)
      have q3 : decide (48 ≤ c) = true := decide_eq_true h1
      have q4 : decide (c ≤ 57) = false := decide_eq_false h2
      clear h1 h2
      go_enter Tryz.func107, Tryz.ntmps107
      go_wp2_with fail
      go_ret
      exact ⟨rfl, rfl⟩
  · rw [show isDg c = false by simp [isDg, h1]]
    have q1 : decide ((48 : Int) ≤ (c : Int)) = false := decide_eq_false (by omega)
    have q3 : decide (48 ≤ c) = false := decide_eq_false h1
    clear h1
    go_enter Tryz.func107, Tryz.ntmps107
    go_wp2_with fail
    go_ret
    exact ⟨rfl, rfl⟩
theorem tqt_ok (c : Nat) (w : World) : Calls Tryz.prog 118 #[.int .u8 (c : Nat)] w fun e w' => e = .returned (.bool (isQt c)) ∧ w = w' := by
  by_cases h1 : 32 ≤ c
  · by_cases h2 : c ≤ 126
    · rw [show isQt c = true by simp [isQt, h1, h2]]
      have q1 : decide ((32 : Int) ≤ (c : Int)) = true := decide_eq_true (by omega)
      have q2 : decide ((c : Int) ≤ (126 : Int)) = true := decide_eq_true (by omega)
      have q3 : decide (32 ≤ c) = true := decide_eq_true h1
      have q4 : decide (c ≤ 126) = true := decide_eq_true h2
      clear h1 h2
      go_enter Tryz.func118, Tryz.ntmps118
      go_wp2_with fail
      go_ret
      exact ⟨rfl, rfl⟩
    · rw [show isQt c = false by simp [isQt, h1, h2]]
      have q1 : decide ((32 : Int) ≤ (c : Int)) = true := decide_eq_true (by omega)
      have q2 : decide ((c : Int) ≤ (126 : Int)) = false := decide_eq_false (by omega)
      have q3 : decide (32 ≤ c) = true := decide_eq_true h1
      have q4 : decide (c ≤ 126) = false := decide_eq_false h2
      clear h1 h2
      go_enter Tryz.func118, Tryz.ntmps118
      go_wp2_with fail
      go_ret
      exact ⟨rfl, rfl⟩
  · rw [show isQt c = false by simp [isQt, h1]]
    have q1 : decide ((32 : Int) ≤ (c : Int)) = false := decide_eq_false (by omega)
    have q3 : decide (32 ≤ c) = false := decide_eq_false h1
    clear h1
    go_enter Tryz.func118, Tryz.ntmps118
    go_wp2_with fail
    go_ret
    exact ⟨rfl, rfl⟩
theorem rdg_ok (c : Nat) (w : World) : Calls Tryz.prog 89 #[.int .u8 (c : Nat)] w fun e w' => e = .returned (.bool (isDg c)) ∧ w = w' := by
  by_cases h1 : 48 ≤ c
  · by_cases h2 : c ≤ 57
    · rw [show isDg c = true by simp [isDg, h1, h2]]
      have q1 : decide ((48 : Int) ≤ (c : Int)) = true := decide_eq_true (by omega)
      have q2 : decide ((c : Int) ≤ (57 : Int)) = true := decide_eq_true (by omega)
      have q3 : decide (48 ≤ c) = true := decide_eq_true h1
      have q4 : decide (c ≤ 57) = true := decide_eq_true h2
      clear h1 h2
      go_enter Tryz.func89, Tryz.ntmps89
      go_wp2_with fail
      go_ret
      exact ⟨rfl, rfl⟩
    · rw [show isDg c = false by simp [isDg, h1, h2]]
      have q1 : decide ((48 : Int) ≤ (c : Int)) = true := decide_eq_true (by omega)
      have q2 : decide ((c : Int) ≤ (57 : Int)) = false := decide_eq_false (by omega)
      have q3 : decide (48 ≤ c) = true := decide_eq_true h1
      have q4 : decide (c ≤ 57) = false := decide_eq_false h2
      clear h1 h2
      go_enter Tryz.func89, Tryz.ntmps89
      go_wp2_with fail
      go_ret
      exact ⟨rfl, rfl⟩
  · rw [show isDg c = false by simp [isDg, h1]]
    have q1 : decide ((48 : Int) ≤ (c : Int)) = false := decide_eq_false (by omega)
    have q3 : decide (48 ≤ c) = false := decide_eq_false h1
    clear h1
    go_enter Tryz.func89, Tryz.ntmps89
    go_wp2_with fail
    go_ret
    exact ⟨rfl, rfl⟩
theorem tlt_ok (c : Nat) (w : World) : Calls Tryz.prog 105 #[.int .u8 (c : Nat)] w fun e w' => e = .returned (.bool (isLt c)) ∧ w = w' := by
  have H1 := Lib.hid (fun w => tup_ok c w)
  have H2 := Lib.hid (fun w => tlo_ok c w)
  unfold isLt
  cases h1 : isUp c with
  | true =>
    rw [h1] at H1
    clear h1
    go_enter Tryz.func105, Tryz.ntmps105
    go_wp2_with fail
    refine (H1.out _).mono ?_
    rintro e w1 ⟨rfl, rfl⟩
    go_wp2_with fail
    go_ret
    exact ⟨rfl, rfl⟩
  | false =>
    rw [h1] at H1
    clear h1
    generalize isLo c = b at *
    go_enter Tryz.func105, Tryz.ntmps105
    go_wp2_with fail
    refine (H1.out _).mono ?_
    rintro e w1 ⟨rfl, rfl⟩
    go_wp2_with fail
    refine (H2.out _).mono ?_
    rintro e w2 ⟨rfl, rfl⟩
    go_wp2_with fail
    go_ret
    exact ⟨by simp, rfl⟩
theorem rlt_ok (c : Nat) (w : World) : Calls Tryz.prog 88 #[.int .u8 (c : Nat)] w fun e w' => e = .returned (.bool (isLt c)) ∧ w = w' := by
  by_cases g0 : 97 ≤ c ∧ c ≤ 122
  · rw [show isLt c = true from isLt_iff.2 (by omega)]
    have q0 : decide ((97 : Int) ≤ (c : Int)) = true := decide_eq_true (by omega)
    have r0 : decide (97 ≤ c) = true := decide_eq_true (by omega)
    have q1 : decide ((c : Int) ≤ (122 : Int)) = true := decide_eq_true (by omega)
    have r1 : decide (c ≤ 122) = true := decide_eq_true (by omega)
    clear g0
    go_enter Tryz.func88, Tryz.ntmps88
    go_wp2_with fail
    go_ret
    exact ⟨rfl, rfl⟩
  by_cases g1 : 122 < c
  · rw [show isLt c = false from Bool.eq_false_iff.2 fun h => by rw [isLt_iff] at h; omega]
    have q0 : decide ((97 : Int) ≤ (c : Int)) = true := decide_eq_true (by omega)
    have r0 : decide (97 ≤ c) = true := decide_eq_true (by omega)
    have q1 : decide ((c : Int) ≤ (122 : Int)) = false := decide_eq_false (by omega)
    have r1 : decide (c ≤ 122) = false := decide_eq_false (by omega)
    have q2 : decide ((65 : Int) ≤ (c : Int)) = true := decide_eq_true (by omega)
    have r2 : decide (65 ≤ c) = true := decide_eq_true (by omega)
    have q3 : decide ((c : Int) ≤ (90 : Int)) = false := decide_eq_false (by omega)
    have r3 : decide (c ≤ 90) = false := decide_eq_false (by omega)
    clear g0 g1
    go_enter Tryz.func88, Tryz.ntmps88
    go_wp2_with fail
    go_ret
    exact ⟨rfl, rfl⟩
  by_cases g2 : 90 < c ∧ c < 97
  · rw [show isLt c = false from Bool.eq_false_iff.2 fun h => by rw [isLt_iff] at h; omega]
    have q0 : decide ((97 : Int) ≤ (c : Int)) = false := decide_eq_false (by omega)
    have r0 : decide (97 ≤ c) = false := decide_eq_false (by omega)
    have q1 : decide ((65 : Int) ≤ (c : Int)) = true := decide_eq_true (by omega)
    have r1 : decide (65 ≤ c) = true := decide_eq_true (by omega)
    have q2 : decide ((c : Int) ≤ (90 : Int)) = false := decide_eq_false (by omega)
    have r2 : decide (c ≤ 90) = false := decide_eq_false (by omega)
    clear g0 g1 g2
    go_enter Tryz.func88, Tryz.ntmps88
    go_wp2_with fail
    go_ret
    exact ⟨rfl, rfl⟩
  by_cases g3 : 65 ≤ c ∧ c ≤ 90
  · rw [show isLt c = true from isLt_iff.2 (by omega)]
    have q0 : decide ((97 : Int) ≤ (c : Int)) = false := decide_eq_false (by omega)
    have r0 : decide (97 ≤ c) = false := decide_eq_false (by omega)
    have q1 : decide ((65 : Int) ≤ (c : Int)) = true := decide_eq_true (by omega)
    have r1 : decide (65 ≤ c) = true := decide_eq_true (by omega)
    have q2 : decide ((c : Int) ≤ (90 : Int)) = true := decide_eq_true (by omega)
    have r2 : decide (c ≤ 90) = true := decide_eq_true (by omega)
    clear g0 g1 g2 g3
    go_enter Tryz.func88, Tryz.ntmps88
    go_wp2_with fail
    go_ret
    exact ⟨rfl, rfl⟩
  rw [show isLt c = false from Bool.eq_false_iff.2 fun h => by rw [isLt_iff] at h; omega]
  have q0 : decide ((97 : Int) ≤ (c : Int)) = false := decide_eq_false (by omega)
  have r0 : decide (97 ≤ c) = false := decide_eq_false (by omega)
  have q1 : decide ((65 : Int) ≤ (c : Int)) = false := decide_eq_false (by omega)
  have r1 : decide (65 ≤ c) = false := decide_eq_false (by omega)
  clear g0 g1 g2 g3
  go_enter Tryz.func88, Tryz.ntmps88
  go_wp2_with fail
  go_ret
  exact ⟨rfl, rfl⟩
theorem tat_ok (s : ByteArray) (i : Nat) (w : World) : Calls Tryz.prog 104 #[.string s, .int .i64 (i : Nat)] w fun e w' => e = .returned (.int .u8 (tAt (cods s) i : Nat)) ∧ w = w' := by
  rcases Nat.lt_or_ge i s.size with h | h
  · obtain ⟨x, hx⟩ : ∃ x, tAt (cods s) i = x := ⟨_, rfl⟩
    have e1 : (s[i]'h).toNat = x := (cods_at s i h).trans hx
    rw [hx]
    have q1 : decide ((s.size : Int) ≤ (i : Int)) = false := decide_eq_false (by omega)
    have q2 : decide (s.size ≤ i) = false := decide_eq_false (by omega)
    have q3 : (i : Int) < (s.size : Int) := by omega
    have q4 : (0 : Int) ≤ (i : Int) := by omega
    clear hx
    go_enter Tryz.func104, Tryz.ntmps104
    go_wp2_with fail
    go_ret
    exact ⟨rfl, rfl⟩
  · rw [tAt_out (by rw [cods_length]; exact h)]
    have q1 : decide ((s.size : Int) ≤ (i : Int)) = true := decide_eq_true (by omega)
    have q2 : decide (s.size ≤ i) = true := decide_eq_true h
    clear h
    go_enter Tryz.func104, Tryz.ntmps104
    go_wp2_with fail
    go_ret
    exact ⟨rfl, rfl⟩
end Go.Proofs.YtgmnojnalkhepaaGreatDoor

/-
  Package token: where a word ends.
-/
namespace Go.Proofs.YtgmnojnalkhepaaGreatDoor
open Go.RowKit
set_option linter.unusedVariables false
set_option linter.unusedSimpArgs false
set_option maxRecDepth 100000

/-- a scanner's own copy -/
theorem scbox (w : World) (s : ByteArray) (p : Int) : Below w.heap.size w (w.alloc (.cells #[.string s, .int .i64 p] 116)) ∧ ∀ w' : World, Below (w.alloc (.cells #[.string s, .int .i64 p] 116)).heap.size (w.alloc (.cells #[.string s, .int .i64 p] 116)) w' → w'.cell? ⟨w.heap.size, 0, none⟩ = some (.string s) ∧ w'.cell? ⟨w.heap.size, 1, none⟩ = some (.int .i64 p) := by
  refine ⟨(Below.refl w.heap.size w).alloc (Nat.le_refl _) _, fun w' h => ?_⟩
  have hlt : w.heap.size < (w.alloc (.cells #[.string s, .int .i64 p] 116)).heap.size := by simp
  have e := (h.block w.heap.size hlt).trans (heap_alloc_new w _)
  exact ⟨cell_of_row _ _ _ _ _ _ e, cell_of_row _ _ _ _ _ _ e⟩
theorem tat_int (s : ByteArray) (z : Int) (i : Nat) (h : z = i) (x : Nat) (hx : tAt (cods s) i = x) (w : World) : Calls Tryz.prog 104 #[.string s, .int .i64 z] w fun e w' => e = .returned (.int .u8 (x : Nat)) ∧ w = w' := by
  subst h
  subst hx
  exact tat_ok s i w
def RelE (W : World) (l : List Nat) (G : Nat → Nat → Nat) (R : Nat) (ev : Value) (wr : World) : Prop := ∃ j n : Nat, ev = .int .i64 j ∧ j ≤ l.length ∧ G n j = R ∧ l.length + 1 ≤ n + j ∧ Below W.heap.size W wr
set_option maxHeartbeats 4000000 in
theorem wordEnd_ok (s : ByteArray) (p : Nat) (w : World) (hp : p < s.size) (hs : s.size ≤ 140737488355328) :
    Calls Tryz.prog 106 #[.agg #[.string s, .int .i64 (p : Nat)]] w fun e w' => e = .returned (.int .i64 (wEnd (cods s) p : Nat)) ∧ Below w.heap.size w w' := by
  obtain ⟨hb0, hk⟩ := scbox w s p
  have HB0 := Lib.hid hb0
  have HK := Lib.hid hk
  have HAT := Lib.hid (fun z i h x hx w => tat_int s z i h x hx w)
  have hlen := cods_length s
  obtain ⟨R, hR⟩ : ∃ R, wEnd (cods s) p = R := ⟨_, rfl⟩
  rw [hR]
  have HG0 := Lib.hid (show wGo (cods s) p (s.size + 1) (p + 1) = R by rw [← hR]; unfold wEnd; rw [hlen])
  have HL := Lib.hid hlen
  generalize cods s = l at *
  clear hb0 hk hR hlen
  go_enter Tryz.func106, Tryz.ntmps106
  go_wp2_with fail
  generalize w.alloc (.cells #[.string s, .int .i64 (p : Nat)] 116) = W at *
  go_loopw [3] (fun ev wr => RelE W l (wGo l p) R ev wr) (fun ev _ => s.size + 1 - (intOf ev).toNat)
  case atStart => exact ⟨p + 1, s.size + 1, by go_num, by rw [HL.out]; exact hp, HG0.out, by rw [HL.out]; omega, Below.refl _ _⟩
  case round =>
    clear HG0
    obtain ⟨j, n, rfl, hj, hgo, hn, hb⟩ := hrel
    rw [HL.out] at hj hn
    obtain ⟨m, rfl⟩ : ∃ m, n = m + 1 := ⟨n - 1, by omega⟩
    have HGO := Lib.hid hgo
    have HB := Lib.hid hb.drew
    obtain ⟨k0, k1⟩ := HK.out wr hb
    have q1 : IntKind.i64.wrap ((j : Int) + 1) = (j : Int) + 1 := by rw [IntKind.wrap_i64]; omega
    obtain ⟨x, hx⟩ : ∃ x, tAt l j = x := ⟨_, rfl⟩
    obtain ⟨y, hy⟩ : ∃ y, tAt l (j + 1) = y := ⟨_, rfl⟩
    have HA0 := Lib.hid (fun (z : Int) (h : z = j) w => HAT.out z j h x hx w)
    have HA1 := Lib.hid (fun (z : Int) (h : z = (j : Int) + 1) w => HAT.out z (j + 1) (by omega) y hy w)
    have HLx := Lib.hid (fun w => tlt_ok x w)
    have HDx := Lib.hid (fun w => tdg_ok x w)
    have HLy := Lib.hid (fun w => tlt_ok y w)
    have HDy := Lib.hid (fun w => tdg_ok y w)
    have HX := Lib.hid hx
    have HY := Lib.hid hy
    clear hgo hb hx hy
    go_wp2_with fail
    go_region_held3 (fun w' => w'.cell? ⟨w.heap.size, 0, none⟩ = some (.string s)) (first | exact k0) (first | (go_at_call 104; refine (HA0.out _ (by first | rfl | omega) _).mono ?_; rintro e w5 ⟨rfl, rfl⟩) | (go_at_call 104; refine (HA1.out _ (by first | exact q1 | rfl | omega) _).mono ?_; rintro e w5 ⟨rfl, rfl⟩))
    clear k0 k1 HA0 HA1
    generalize World.drew wr = wd at *
    obtain ⟨k0, k1⟩ := HK.out wd HB.out
    cases hlx : isLt x with
    | true =>
      rw [hlx] at HLx
      have hA : isA (tAt l j) = true := by rw [HX.out]; unfold isA; rw [hlx]; rfl
      have h1 := isA_in hA
      rw [HL.out] at h1
      have HN := Lib.hid ((wGo_step hA).symm.trans HGO.out)
      clear hlx hA
      go_wp2_with fail
      refine (HLx.out _).mono ?_
      rintro e w5 ⟨rfl, rfl⟩
      go_wp2_with fail
      go_roundw
      case rel => exact ⟨j + 1, m, by go_num, by rw [HL.out]; exact h1, HN.out, by rw [HL.out]; omega, HB.out⟩
      case measure => simp [intOf]; omega
    | false =>
      rw [hlx] at HLx
      cases hdx : isDg x with
      | true =>
        rw [hdx] at HDx
        have hA : isA (tAt l j) = true := by rw [HX.out]; unfold isA; rw [hlx, hdx]; rfl
        have h1 := isA_in hA
        rw [HL.out] at h1
        have HN := Lib.hid ((wGo_step hA).symm.trans HGO.out)
        clear hlx hdx hA
        go_wp2_with fail
        refine (HLx.out _).mono ?_
        rintro e w5 ⟨rfl, rfl⟩
        go_wp2_with fail
        refine (HDx.out _).mono ?_
        rintro e w5 ⟨rfl, rfl⟩
        go_wp2_with fail
        go_roundw
        case rel => exact ⟨j + 1, m, by go_num, by rw [HL.out]; exact h1, HN.out, by rw [HL.out]; omega, HB.out⟩
        case measure => simp [intOf]; omega
      | false =>
        rw [hdx] at HDx
        have hA : ¬ isA (tAt l j) = true := by rw [HX.out]; unfold isA; rw [hlx, hdx]; decide
        have HNA := Lib.hid hA
        clear hlx hdx hA
        by_cases hx : x = 45
        · have q2 : ((x : Int) == 45) = true := by rw [hx]; rfl
          have q3 : ((x : Int) != 45) = false := by rw [hx]; rfl
          by_cases hy : y = 45
          · have q4 : ((y : Int) == 45) = true := by rw [hy]; rfl
            have HE := Lib.hid ((wGo_end HNA.out (.inr (HY.out.trans hy))).symm.trans HGO.out)
            clear hx hy
            go_wp2_with fail
            refine (HLx.out _).mono ?_
            rintro e w5 ⟨rfl, rfl⟩
            go_wp2_with fail
            refine (HDx.out _).mono ?_
            rintro e w5 ⟨rfl, rfl⟩
            go_wp2_with fail
            go_ret
            rw [← HE.out]
            exact ⟨rfl, HB0.out.trans (HB.out.mono HB0.out.size)⟩
          · have q4 : ((y : Int) == 45) = false := beq_false_of_ne (by omega)
            have q5 : decide (y = 45) = false := decide_eq_false hy
            have hno : ¬ (tAt l j ≠ 45 ∨ tAt l (j + 1) = 45) := by rw [HX.out, HY.out]; omega
            have HNO := Lib.hid hno
            clear hx hy hno
            cases hly : isLt y with
            | true =>
              rw [hly] at HLy
              have hA : isA (tAt l (j + 1)) = true := by rw [HY.out]; unfold isA; rw [hly]; rfl
              have h1 := isA_in hA
              rw [HL.out] at h1
              have HN := Lib.hid ((wGo_two HNA.out HNO.out hA).symm.trans HGO.out)
              clear hly hA
              go_wp2_with fail
              refine (HLx.out _).mono ?_
              rintro e w5 ⟨rfl, rfl⟩
              go_wp2_with fail
              refine (HDx.out _).mono ?_
              rintro e w5 ⟨rfl, rfl⟩
              go_wp2_with fail
              refine (HLy.out _).mono ?_
              rintro e w5 ⟨rfl, rfl⟩
              go_wp2_with fail
              go_roundw
              case rel => exact ⟨j + 2, m, by go_num, by rw [HL.out]; omega, HN.out, by rw [HL.out]; omega, HB.out⟩
              case measure => simp [intOf]; omega
            | false =>
              rw [hly] at HLy
              cases hdy : isDg y with
              | true =>
                rw [hdy] at HDy
                have hA : isA (tAt l (j + 1)) = true := by rw [HY.out]; unfold isA; rw [hly, hdy]; rfl
                have h1 := isA_in hA
                rw [HL.out] at h1
                have HN := Lib.hid ((wGo_two HNA.out HNO.out hA).symm.trans HGO.out)
                clear hly hdy hA
                go_wp2_with fail
                refine (HLx.out _).mono ?_
                rintro e w5 ⟨rfl, rfl⟩
                go_wp2_with fail
                refine (HDx.out _).mono ?_
                rintro e w5 ⟨rfl, rfl⟩
                go_wp2_with fail
                refine (HLy.out _).mono ?_
                rintro e w5 ⟨rfl, rfl⟩
                go_wp2_with fail
                refine (HDy.out _).mono ?_
                rintro e w5 ⟨rfl, rfl⟩
                go_wp2_with fail
                go_roundw
                case rel => exact ⟨j + 2, m, by go_num, by rw [HL.out]; omega, HN.out, by rw [HL.out]; omega, HB.out⟩
                case measure => simp [intOf]; omega
              | false =>
                rw [hdy] at HDy
                have hA : ¬ isA (tAt l (j + 1)) = true := by rw [HY.out]; unfold isA; rw [hly, hdy]; decide
                have HE := Lib.hid ((wGo_bad HNA.out HNO.out hA).symm.trans HGO.out)
                clear hly hdy hA
                go_wp2_with fail
                refine (HLx.out _).mono ?_
                rintro e w5 ⟨rfl, rfl⟩
                go_wp2_with fail
                refine (HDx.out _).mono ?_
                rintro e w5 ⟨rfl, rfl⟩
                go_wp2_with fail
                refine (HLy.out _).mono ?_
                rintro e w5 ⟨rfl, rfl⟩
                go_wp2_with fail
                refine (HDy.out _).mono ?_
                rintro e w5 ⟨rfl, rfl⟩
                go_wp2_with fail
                go_ret
                rw [← HE.out]
                exact ⟨rfl, HB0.out.trans (HB.out.mono HB0.out.size)⟩
        · have q2 : ((x : Int) == 45) = false := beq_false_of_ne (by omega)
          have q3 : ((x : Int) != 45) = true := by simp; omega
          have q5 : decide (x = 45) = false := decide_eq_false hx
          have HE := Lib.hid ((wGo_end HNA.out (.inl (by rw [HX.out]; exact hx))).symm.trans HGO.out)
          clear hx
          go_wp2_with fail
          refine (HLx.out _).mono ?_
          rintro e w5 ⟨rfl, rfl⟩
          go_wp2_with fail
          refine (HDx.out _).mono ?_
          rintro e w5 ⟨rfl, rfl⟩
          go_wp2_with fail
          go_ret
          rw [← HE.out]
          exact ⟨rfl, HB0.out.trans (HB.out.mono HB0.out.size)⟩
end Go.Proofs.YtgmnojnalkhepaaGreatDoor

/-
  Package token: where a text in quotes ends.
-/
namespace Go.Proofs.YtgmnojnalkhepaaGreatDoor
open Go.RowKit
set_option linter.unusedVariables false
set_option linter.unusedSimpArgs false
set_option maxRecDepth 100000

set_option maxHeartbeats 4000000 in
theorem quotedEnd_ok (s : ByteArray) (p : Nat) (w : World) (hp : p < s.size) (hs : s.size ≤ 140737488355328) :
    Calls Tryz.prog 109 #[.agg #[.string s, .int .i64 (p : Nat)]] w fun e w' => e = .returned (.int .i64 (qEnd (cods s) p : Nat)) ∧ Below w.heap.size w w' := by
  obtain ⟨hb0, hk⟩ := scbox w s p
  have HB0 := Lib.hid hb0
  have HK := Lib.hid hk
  have HAT := Lib.hid (fun z i h x hx w => tat_int s z i h x hx w)
  have hlen := cods_length s
  obtain ⟨R, hR⟩ : ∃ R, qEnd (cods s) p = R := ⟨_, rfl⟩
  rw [hR]
  have HG0 := Lib.hid (show qGo (cods s) p (s.size + 1) (p + 1) = R by rw [← hR]; unfold qEnd; rw [hlen])
  have HL := Lib.hid hlen
  generalize cods s = l at *
  clear hb0 hk hR hlen
  go_enter Tryz.func109, Tryz.ntmps109
  go_wp2_with fail
  generalize w.alloc (.cells #[.string s, .int .i64 (p : Nat)] 116) = W at *
  go_loopw [3] (fun ev wr => RelE W l (qGo l p) R ev wr) (fun ev _ => s.size + 1 - (intOf ev).toNat)
  case atStart => exact ⟨p + 1, s.size + 1, by go_num, by rw [HL.out]; exact hp, HG0.out, by rw [HL.out]; omega, Below.refl _ _⟩
  case round =>
    clear HG0
    obtain ⟨j, n, rfl, hj, hgo, hn, hb⟩ := hrel
    rw [HL.out] at hj hn
    obtain ⟨m, rfl⟩ : ∃ m, n = m + 1 := ⟨n - 1, by omega⟩
    have HGO := Lib.hid hgo
    have HB := Lib.hid hb
    obtain ⟨k0, k1⟩ := HK.out wr hb
    obtain ⟨x, hx⟩ : ∃ x, tAt l j = x := ⟨_, rfl⟩
    obtain ⟨y, hy⟩ : ∃ y, tAt l (j + 1) = y := ⟨_, rfl⟩
    have HA0 := Lib.hid (fun w => HAT.out (j : Int) j rfl x hx w)
    have HA1 := Lib.hid (fun w => HAT.out ((j : Int) + 1) (j + 1) (by omega) y hy w)
    have HQx := Lib.hid (fun w => tqt_ok x w)
    have HX := Lib.hid hx
    have HY := Lib.hid hy
    clear hgo hb hx hy
    cases hqx : isQt x with
    | false =>
      rw [hqx] at HQx
      have HE := Lib.hid ((qGo_bad (by rw [HX.out, hqx]; decide)).symm.trans HGO.out)
      clear hqx
      go_wp2_with fail
      refine (HA0.out _).mono ?_
      rintro e w5 ⟨rfl, rfl⟩
      go_wp2_with fail
      refine (HQx.out _).mono ?_
      rintro e w5 ⟨rfl, rfl⟩
      go_wp2_with fail
      go_ret
      rw [← HE.out]
      exact ⟨rfl, HB0.out.trans (HB.out.mono HB0.out.size)⟩
    | true =>
      rw [hqx] at HQx
      have hQ : isQt (tAt l j) = true := by rw [HX.out]; exact hqx
      have h1 := isQt_in hQ
      rw [HL.out] at h1
      have HQ := Lib.hid hQ
      clear hqx hQ
      by_cases hx : x = 34
      · have q2 : ((x : Int) == 34) = true := by rw [hx]; rfl
        have q3 : ((x : Int) != 34) = false := by rw [hx]; rfl
        by_cases hy : y = 34
        · have q4 : ((y : Int) == 34) = true := by rw [hy]; rfl
          have hin := tAt_in (l := l) (i := j + 1) (by rw [HY.out, hy]; decide)
          rw [HL.out] at hin
          have HN := Lib.hid ((qGo_two HQ.out (HX.out.trans hx) (HY.out.trans hy)).symm.trans HGO.out)
          clear hx hy
          go_wp2_with fail
          refine (HA0.out _).mono ?_
          rintro e w5 ⟨rfl, rfl⟩
          go_wp2_with fail
          refine (HQx.out _).mono ?_
          rintro e w5 ⟨rfl, rfl⟩
          go_wp2_with fail
          refine (HA0.out _).mono ?_
          rintro e w5 ⟨rfl, rfl⟩
          go_wp2_with fail
          refine (HA1.out _).mono ?_
          rintro e w5 ⟨rfl, rfl⟩
          go_wp2_with fail
          go_roundw
          case rel => exact ⟨j + 2, m, by go_num, by rw [HL.out]; omega, HN.out, by rw [HL.out]; omega, HB.out⟩
          case measure => simp [intOf]; omega
        · have q4 : ((y : Int) == 34) = false := beq_false_of_ne (by omega)
          have q5 : decide (y = 34) = false := decide_eq_false hy
          have HE := Lib.hid ((qGo_end HQ.out (HX.out.trans hx) (by rw [HY.out]; exact hy)).symm.trans HGO.out)
          clear hx hy
          go_wp2_with fail
          refine (HA0.out _).mono ?_
          rintro e w5 ⟨rfl, rfl⟩
          go_wp2_with fail
          refine (HQx.out _).mono ?_
          rintro e w5 ⟨rfl, rfl⟩
          go_wp2_with fail
          refine (HA0.out _).mono ?_
          rintro e w5 ⟨rfl, rfl⟩
          go_wp2_with fail
          refine (HA1.out _).mono ?_
          rintro e w5 ⟨rfl, rfl⟩
          go_wp2_with fail
          go_ret
          rw [← HE.out]
          exact ⟨by go_num, HB0.out.trans (HB.out.mono HB0.out.size)⟩
      · have q2 : ((x : Int) == 34) = false := beq_false_of_ne (by omega)
        have q3 : ((x : Int) != 34) = true := by simp; omega
        have q5 : decide (x = 34) = false := decide_eq_false hx
        have HN := Lib.hid ((qGo_step HQ.out (by rw [HX.out]; exact hx)).symm.trans HGO.out)
        clear hx
        go_wp2_with fail
        refine (HA0.out _).mono ?_
        rintro e w5 ⟨rfl, rfl⟩
        go_wp2_with fail
        refine (HQx.out _).mono ?_
        rintro e w5 ⟨rfl, rfl⟩
        go_wp2_with fail
        refine (HA0.out _).mono ?_
        rintro e w5 ⟨rfl, rfl⟩
        go_wp2_with fail
        go_roundw
        case rel => exact ⟨j + 1, m, by go_num, by rw [HL.out]; omega, HN.out, by rw [HL.out]; omega, HB.out⟩
        case measure => simp [intOf]; omega
end Go.Proofs.YtgmnojnalkhepaaGreatDoor

/-
  Package token: what stands at a place; where a comment ends; where a sign ends.
-/
namespace Go.Proofs.YtgmnojnalkhepaaGreatDoor
open Go.RowKit
set_option linter.unusedVariables false
set_option linter.unusedSimpArgs false
set_option maxRecDepth 100000

theorem nat_inj : ∀ {a b : List UInt8}, a.map (·.toNat) = b.map (·.toNat) → a = b
  | [], [], _ => rfl
  | [], _ :: _, h => by cases h
  | _ :: _, [], h => by cases h
  | x :: a, y :: b, h => by
    injection h with h1 h2
    rw [UInt8.toNat_inj.1 h1, nat_inj h2]
theorem tail_list (s : ByteArray) (i : Nat) : (s.extract i s.size).data.toList = s.data.toList.drop i := by
  rw [ByteArray.data_extract, Array.toList_extract, List.extract_eq_take_drop]
  exact List.take_of_length_le (by rw [List.length_drop]; exact Nat.le_refl _)
theorem pre_has (s g : ByteArray) (i : Nat) : Lib.hasPrefix (s.extract i s.size).data.toList g.data.toList = hasP (cods s) i (cods g) := by
  unfold hasP Lib.hasPrefix
  rw [Bool.eq_iff_iff, List.isPrefixOf_iff_prefix, decide_eq_true_eq, tail_list, List.prefix_iff_eq_take, cods_length]
  have e : ((cods s).drop i).take g.size = ((s.data.toList.drop i).take g.data.toList.length).map (·.toNat) := by
    unfold cods
    rw [List.map_take, List.map_drop]
    rfl
  rw [e]
  unfold cods
  constructor
  · intro h; exact (congrArg (List.map (·.toNat)) h).symm
  · intro h; exact (nat_inj h).symm
theorem has_ok (s g : ByteArray) (i : Nat) (hi : i ≤ s.size) (w : World) : Calls Tryz.prog 119 #[.string s, .int .i64 (i : Nat), .string g] w fun e w' => e = .returned (.bool (hasP (cods s) i (cods g))) ∧ w = w' := by
  have HP := Lib.hid (fun w => Tryz.strings_HasPrefix (s.extract i s.size) g w)
  rw [pre_has] at HP
  have q1 : (i : Int) ≤ (s.size : Int) := by omega
  have q2 : (0 : Int) ≤ (i : Int) := by omega
  generalize hasP (cods s) i (cods g) = b at *
  go_enter Tryz.func119, Tryz.ntmps119
  go_wp2_with fail
  refine (HP.out _).mono ?_
  rintro e w1 ⟨rfl, rfl⟩
  go_wp2_with fail
  go_ret
  exact ⟨rfl, rfl⟩
theorem hyp_codes : cods ⟨#[45, 45]⟩ = [45, 45] := by decide
theorem has_two (l : List Nat) (i x : Nat) (h0 : x ≠ 0) : hasP l i [x, x] = decide (tAt l i = x ∧ tAt l (i + 1) = x) := by
  unfold hasP
  rw [decide_eq_decide]
  constructor
  · intro h0'
    have h : (l.drop i).take 2 = [x, x] := h0'
    have h1 : ((l.drop i).take 2).getD 0 0 = x := by rw [h]; rfl
    have h2 : ((l.drop i).take 2).getD 1 0 = x := by rw [h]; rfl
    rw [List.getD_eq_getElem?_getD, List.getElem?_take, if_pos (by decide), List.getElem?_drop] at h1 h2
    unfold tAt
    rw [List.getD_eq_getElem?_getD, List.getD_eq_getElem?_getD]
    exact ⟨h1, h2⟩
  · rintro ⟨h1, h2⟩
    have i1 := tAt_in (l := l) (i := i + 1) (by rw [h2]; exact h0)
    rw [List.drop_eq_getElem_cons (show i < l.length by omega), List.drop_eq_getElem_cons i1]
    unfold tAt at h1 h2
    rw [List.getD_eq_getElem?_getD, List.getElem?_eq_getElem (by omega)] at h1
    rw [List.getD_eq_getElem?_getD, List.getElem?_eq_getElem i1] at h2
    have h1' : l[i] = x := h1
    have h2' : l[i + 1] = x := h2
    rw [h1', h2']
    rfl
theorem has_hyp (s : ByteArray) (i : Nat) (hi : i ≤ s.size) (b : Bool) (hb : decide (tAt (cods s) i = 45 ∧ tAt (cods s) (i + 1) = 45) = b) (w : World) : Calls Tryz.prog 119 #[.string s, .int .i64 (i : Nat), .string ⟨#[45, 45]⟩] w fun e w' => e = .returned (.bool b) ∧ w = w' := by
  have h := has_ok s ⟨#[45, 45]⟩ i hi w
  rw [hyp_codes, has_two _ _ 45 (by decide), hb] at h
  exact h
theorem cGo_step {l : List Nat} {n e : Nat} (h : e < l.length) (h1 : ¬ tAt l e = 10) (h2 : ¬ (tAt l e = 45 ∧ tAt l (e + 1) = 45)) : cGo l (n + 1) e = cGo l n (e + 1) := (if_pos h).trans ((if_neg h1).trans (if_neg h2))
theorem cGo_line {l : List Nat} {n e : Nat} (h : e < l.length) (h1 : tAt l e = 10) : cGo l (n + 1) e = e := (if_pos h).trans (if_pos h1)
theorem cGo_two {l : List Nat} {n e : Nat} (h : e < l.length) (h1 : ¬ tAt l e = 10) (h2 : tAt l e = 45 ∧ tAt l (e + 1) = 45) : cGo l (n + 1) e = e + 2 := (if_pos h).trans ((if_neg h1).trans (if_pos h2))
theorem cGo_end {l : List Nat} {n e : Nat} (h : ¬ e < l.length) : cGo l (n + 1) e = l.length := if_neg h
end Go.Proofs.YtgmnojnalkhepaaGreatDoor

/-
  Package token: where a sign ends.
-/
namespace Go.Proofs.YtgmnojnalkhepaaGreatDoor
open Go.RowKit
set_option linter.unusedVariables false
set_option linter.unusedSimpArgs false
set_option maxRecDepth 100000

/-- the signs' texts -/
def sgB : List ByteArray := [⟨#[58, 58, 61]⟩, ⟨#[46, 46, 46]⟩, ⟨#[46, 46]⟩, ⟨#[123]⟩, ⟨#[125]⟩, ⟨#[40]⟩, ⟨#[41]⟩, ⟨#[91]⟩, ⟨#[93]⟩, ⟨#[44]⟩, ⟨#[59]⟩, ⟨#[124]⟩, ⟨#[94]⟩, ⟨#[61]⟩, ⟨#[45]⟩]
theorem sgB_codes : sgB.map cods = sgns := by decide
/-- the program's table of signs lies in w -/
def SgAt (w : World) : Prop := ∀ i, i < 15 → w.cell? ⟨0, i, none⟩ = some (.string (sgB.getD i ⟨#[]⟩))
theorem SgAt.lt {w : World} (h : SgAt w) : 0 < w.heap.size := World.block_lt_of_cell? w _ (h 0 (by decide))
theorem SgAt.below {w w' : World} (h : SgAt w) (hb : Below w.heap.size w w') : SgAt w' := fun i hi => (World.cell?_of_block (w := w) (a := ⟨0, i, none⟩) (hb.block 0 h.lt)).trans (h i hi)
theorem sg_index (w : World) (t e : TypeId) (n : Nat) (cs : Array Value) (j : Nat) (v : Value) (ht : Tryz.prog.underlying t = some (.array n e)) (hz : ∀ w, (sizeOf e).run Tryz.prog w = .ok 1 w) (ha : ∀ w, (isAgg e).run Tryz.prog w = .ok false w) (hj : j < n) (hv : cs[j]? = some v) :
    (Instr.index t (.agg cs) (.int .i64 (j : Nat))).run Tryz.prog w = .ok v w := by
  have h1 : (0 : Int) ≤ (j : Int) ∧ (j : Int) < (n : Int) := by omega
  simp [Instr.index, asIntOf, run_underlying ht, hz, Go.part, ha, h1, hv, hj]
theorem wpList_index {ops : Array Oper} {rest : List Oper} {op : Oper} {a : Act} {w : World} {Q : Exit → Act → World → Prop} (hgd : op.guard = none) (t : TypeId) (x i : Operand) (ho : op.op = .index t x i) (v : Value)
    (hrun : (Instr.index t (a.eval x) (a.eval i)).run Tryz.prog w = .ok v w) (hK : wpList Tryz.prog ops Q rest (a.put op.dst v) w) : wpList Tryz.prog ops Q (op :: rest) a w :=
  wpList_plain hgd fun K hK' => by
    unfold Oper.wp execOp
    simp only [ho, Sem.run_bind, hrun, Sem.run_pure, Result.andThen_ok]
    exact hK' _ _ hK
theorem isAgg_str (w : World) : (isAgg 9).run Tryz.prog w = .ok false w := run_isAgg_plain Tryz.underlying9 rfl w
theorem sizeOf_str (w : World) : (sizeOf 9).run Tryz.prog w = .ok 1 w := by kernel_rfl
theorem sg_at : ∀ j, j < 15 → ∃ g : ByteArray, (#[Value.string ⟨#[58, 58, 61]⟩, .string ⟨#[46, 46, 46]⟩, .string ⟨#[46, 46]⟩, .string ⟨#[123]⟩, .string ⟨#[125]⟩, .string ⟨#[40]⟩, .string ⟨#[41]⟩, .string ⟨#[91]⟩, .string ⟨#[93]⟩, .string ⟨#[44]⟩, .string ⟨#[59]⟩, .string ⟨#[124]⟩, .string ⟨#[94]⟩, .string ⟨#[61]⟩, .string ⟨#[45]⟩] : Array Value)[j]? = some (.string g) ∧ sgns.drop j = cods g :: sgns.drop (j + 1) ∧ g.size ≤ 3 := by
  intro j hj
  have h : j = 0 ∨ j = 1 ∨ j = 2 ∨ j = 3 ∨ j = 4 ∨ j = 5 ∨ j = 6 ∨ j = 7 ∨ j = 8 ∨ j = 9 ∨ j = 10 ∨ j = 11 ∨ j = 12 ∨ j = 13 ∨ j = 14 := by omega
  rcases h with rfl | rfl | rfl | rfl | rfl | rfl | rfl | rfl | rfl | rfl | rfl | rfl | rfl | rfl | rfl <;> exact ⟨_, rfl, by decide, by decide⟩
theorem sGo_hit {l : List Nat} {p : Nat} {g : List Nat} {r : List (List Nat)} (h : hasP l p g = true) : sGo l p (g :: r) = p + g.length := if_pos h
theorem sGo_miss {l : List Nat} {p : Nat} {g : List Nat} {r : List (List Nat)} (h : hasP l p g = false) : sGo l p (g :: r) = sGo l p r := if_neg (by rw [h]; decide)
set_option maxHeartbeats 4000000 in
theorem signEnd_ok (s : ByteArray) (p : Nat) (w : World) (hsg : SgAt w) (hp : p ≤ s.size) (hs : s.size ≤ 140737488355328) :
    Calls Tryz.prog 110 #[.agg #[.string s, .int .i64 (p : Nat)]] w fun e w' => e = .returned (.int .i64 (sEnd (cods s) p : Nat)) ∧ Below w.heap.size w w' := by
  obtain ⟨hb0, hk⟩ := scbox w s p
  have HB0 := Lib.hid hb0
  have HK := Lib.hid hk
  have hsgW := hsg.below hb0
  have HH := Lib.hid (fun g w => has_ok s g p (by omega) w)
  obtain ⟨R, hR⟩ : ∃ R, sEnd (cods s) p = R := ⟨_, rfl⟩
  rw [hR]
  have HG0 := Lib.hid (show sGo (cods s) p (sgns.drop 0) = R from hR)
  generalize cods s = l at *
  have g0 := hsgW 0 (by decide)
  have g1 := hsgW 1 (by decide)
  have g2 := hsgW 2 (by decide)
  have g3 := hsgW 3 (by decide)
  have g4 := hsgW 4 (by decide)
  have g5 := hsgW 5 (by decide)
  have g6 := hsgW 6 (by decide)
  have g7 := hsgW 7 (by decide)
  have g8 := hsgW 8 (by decide)
  have g9 := hsgW 9 (by decide)
  have g10 := hsgW 10 (by decide)
  have g11 := hsgW 11 (by decide)
  have g12 := hsgW 12 (by decide)
  have g13 := hsgW 13 (by decide)
  have g14 := hsgW 14 (by decide)
  simp only [sgB, List.getD_cons_zero, List.getD_cons_succ] at g0 g1 g2 g3 g4 g5 g6 g7 g8 g9 g10 g11 g12 g13 g14
  clear hb0 hk hR hsg hsgW
  go_enter Tryz.func110, Tryz.ntmps110
  go_wp2_with fail
  clear g0 g1 g2 g3 g4 g5 g6 g7 g8 g9 g10 g11 g12 g13 g14
  generalize w.alloc (.cells #[.string s, .int .i64 (p : Nat)] 116) = W at *
  go_loopw [6] (fun iv wr => ∃ j : Nat, iv = .int .i64 j ∧ j ≤ 15 ∧ sGo l p (sgns.drop j) = R ∧ Below W.heap.size W wr) (fun iv _ => 15 - (intOf iv).toNat)
  case atStart => exact ⟨0, rfl, by decide, HG0.out, Below.refl _ _⟩
  case round =>
    clear HG0
    obtain ⟨j, rfl, hj, hgo, hb⟩ := hrel
    have HB := Lib.hid hb
    have HGO := Lib.hid hgo
    obtain ⟨k0, k1⟩ := HK.out wr hb
    clear hgo hb
    by_cases hlt : j < 15
    · have q1 : decide ((j : Int) < 15) = true := decide_eq_true (by omega)
      have q1n : decide (j < 15) = true := decide_eq_true hlt
      obtain ⟨g, hg1, hg2, hg3⟩ := sg_at j hlt
      have HHg := Lib.hid (fun w => HH.out g w)
      cases hb : hasP l p (cods g) with
      | true =>
        rw [hb] at HHg
        have HE := Lib.hid (show p + g.size = R by rw [← HGO.out, hg2, sGo_hit hb, cods_length])
        have HG1 := Lib.hid hg1
        clear hb hg1 hg2
        go_wp2_with (refine wpList_index rfl 133 (.tmp 5) (.tmp 6) rfl _ (sg_index _ 133 9 15 _ _ _ Tryz.underlying133 sizeOf_str isAgg_str hlt HG1.out) ?_)
        refine (HHg.out _).mono ?_
        rintro e w5 ⟨rfl, rfl⟩
        go_wp2_with fail
        go_ret
        rw [← HE.out]
        exact ⟨by go_num, HB0.out.trans (HB.out.mono HB0.out.size)⟩
      | false =>
        rw [hb] at HHg
        have HN := Lib.hid (show sGo l p (sgns.drop (j + 1)) = R by rw [← HGO.out, hg2, sGo_miss hb])
        have HG1 := Lib.hid hg1
        clear hb hg1 hg2
        go_wp2_with (refine wpList_index rfl 133 (.tmp 5) (.tmp 6) rfl _ (sg_index _ 133 9 15 _ _ _ Tryz.underlying133 sizeOf_str isAgg_str hlt HG1.out) ?_)
        refine (HHg.out _).mono ?_
        rintro e w5 ⟨rfl, rfl⟩
        go_wp2_with fail
        go_roundw
        case rel => exact ⟨j + 1, by go_num, by omega, HN.out, HB.out⟩
        case measure => simp [intOf]; omega
    · obtain rfl : j = 15 := by omega
      have HE := Lib.hid (show p = R from HGO.out)
      go_wp2_with fail
      go_ret
      rw [← HE.out]
      exact ⟨rfl, HB0.out.trans (HB.out.mono HB0.out.size)⟩
end Go.Proofs.YtgmnojnalkhepaaGreatDoor

/-
  Package token: where an integer ends.
-/
namespace Go.Proofs.YtgmnojnalkhepaaGreatDoor
open Go.RowKit
set_option linter.unusedVariables false
set_option linter.unusedSimpArgs false
set_option maxRecDepth 100000

/-- the library's error for numbers that are too great is an error in w -/
def ErAt (w : World) : Prop := ∃ tp p, w.cell? ⟨6, 0, none⟩ = some (.iface tp p)
theorem ErAt.below {w w' : World} (h : ErAt w) (hb : Below w.heap.size w w') : ErAt w' := by
  obtain ⟨tp, p, h⟩ := h
  exact ⟨tp, p, (World.cell?_of_block (w := w) (a := ⟨6, 0, none⟩) (hb.block 6 (World.block_lt_of_cell? w _ h))).trans h⟩
theorem atoi_yes (D : ByteArray) (v : Int) (hs : D.size ≤ 140737488355328) (h : Lib.atoiAll D.data.toList = .ok v) (w : World) : Calls Tryz.prog 117 #[.string D] w fun e w' => e = .returned (.tuple #[.int .i64 v, .nilIface]) ∧ Below w.heap.size w w' := by
  refine (Tryz.strconv_Atoi_ok D (by omega) v h w).mono ?_
  rintro e w' ⟨rfl, rfl | ⟨t, rfl⟩⟩
  · exact ⟨rfl, Below.refl _ _⟩
  · exact ⟨rfl, Lib.bytesWorld_below _ _ _⟩
theorem atoi_no (D : ByteArray) (hs : D.size ≤ 140737488355328) (h : Lib.atoiAll D.data.toList = .range) (w : World) (her : ErAt w) : Calls Tryz.prog 117 #[.string D] w fun e w' => ∃ (n : Int) (t N : Nat), e = .returned (.tuple #[.int .i64 n, .iface t (.pointer (some ⟨N, 0, none⟩))]) ∧ Below w.heap.size w w' := by
  obtain ⟨tp, p, hc⟩ := her
  refine (Tryz.strconv_Atoi_range D (by omega) h (.iface tp p) w hc (.inr ⟨tp, p, rfl⟩)).mono ?_
  rintro e w' ⟨N, rfl, _, _, hb⟩
  exact ⟨_, _, _, rfl, hb⟩
theorem sub_head (s : ByteArray) (i j : Nat) (h : i < j) (hj : j ≤ s.size) : ∃ h0 : 0 < (s.extract i j).size, ((s.extract i j)[0]'h0).toNat = tAt (cods s) i := by
  have hsz : (s.extract i j).size = j - i := by rw [ByteArray.size_extract]; omega
  refine ⟨by omega, ?_⟩
  rw [cods_at]
  have h1 := cods_sub s i j
  unfold sub at h1
  rw [h1, cut_at (by omega), Nat.add_zero]
def RelD (W : World) (l : List Nat) (E f : Nat) (ev : Value) (wr : World) : Prop := ∃ j n : Nat, ev = .int .i64 j ∧ f ≤ j ∧ j ≤ l.length ∧ dGo l n j = E ∧ l.length + 1 ≤ n + j ∧ Below W.heap.size W wr
set_option maxHeartbeats 8000000 in
theorem integerEnd_ok (s : ByteArray) (p : Nat) (w : World) (her : ErAt w) (hp : p < s.size) (hs : s.size ≤ 140737488355328) (hdg : isDg (tAt (cods s) p) = true ∨ (tAt (cods s) p = 45 ∧ isDg (tAt (cods s) (p + 1)) = true)) :
    Calls Tryz.prog 108 #[.agg #[.string s, .int .i64 (p : Nat)]] w fun e w' => e = .returned (.int .i64 (iEnd (cods s) p : Nat)) ∧ Below w.heap.size w w' := by
  obtain ⟨hb0, hk⟩ := scbox w s p
  have HB0 := Lib.hid hb0
  have HK := Lib.hid hk
  have HER := Lib.hid (her.below hb0)
  have HAT := Lib.hid (fun z i h x hx w => tat_int s z i h x hx w)
  have hlen := cods_length s
  obtain ⟨f1, f2, f3, f4, f5⟩ := iFst_le hdg
  rw [hlen] at f3 f5
  have HATOI := Lib.hid (atoi_digits s p hdg)
  have HHD := Lib.hid (sub_head s _ _ f4 f5)
  have HSZ := Lib.hid (show (s.extract (iFst (cods s) p) (dEnd (cods s) (iFst (cods s) p))).size = dEnd (cods s) (iFst (cods s) p) - iFst (cods s) p by rw [ByteArray.size_extract]; omega)
  have HI := Lib.hid (show (iBad (cods s) p → p = iEnd (cods s) p) ∧ (¬ iBad (cods s) p → iVal (cods s) p < 9223372036854775808 → dEnd (cods s) (iFst (cods s) p) = iEnd (cods s) p) ∧ (¬ iBad (cods s) p → ¬ iVal (cods s) p < 9223372036854775808 → p = iEnd (cods s) p) from ⟨fun h => (if_pos h).symm, fun h h2 => ((if_neg h).trans (if_pos h2)).symm, fun h h2 => ((if_neg h).trans (if_neg h2)).symm⟩)
  have HF := Lib.hid (show iFst (cods s) p = if tAt (cods s) p = 45 then p + 1 else p from rfl)
  have HBAD := Lib.hid (show iBad (cods s) p ↔ ((tAt (cods s) (iFst (cods s) p) = 48 ∧ (tAt (cods s) p = 45 ∨ 1 < dEnd (cods s) (iFst (cods s) p) - iFst (cods s) p)) ∨ isLt (tAt (cods s) (dEnd (cods s) (iFst (cods s) p))) = true) from Iff.rfl)
  have HG0 := Lib.hid (show dGo (cods s) (s.size + 1) (iFst (cods s) p) = dEnd (cods s) (iFst (cods s) p) by unfold dEnd; rw [hlen])
  have hnd : ¬ isDg (tAt (cods s) (dEnd (cods s) (iFst (cods s) p))) = true := dEnd_stop _ _ (by rw [hlen]; omega)
  have HND := Lib.hid hnd
  unfold sub at HATOI
  generalize iEnd (cods s) p = R at *
  generalize iVal (cods s) p = V at *
  have HL := Lib.hid hlen
  obtain ⟨E, hE⟩ : ∃ E, dEnd (cods s) (iFst (cods s) p) = E := ⟨_, rfl⟩
  obtain ⟨f, hf⟩ : ∃ f, iFst (cods s) p = f := ⟨_, rfl⟩
  rw [hf] at hE f1 f2 f3 f4 f5 HATOI HHD HSZ HI HF HBAD HG0 HND
  rw [hE] at f4 f5 HATOI HHD HSZ HI HBAD HG0 HND
  generalize iBad (cods s) p = BAD at *
  obtain ⟨x, hx⟩ : ∃ x, tAt (cods s) p = x := ⟨_, rfl⟩
  obtain ⟨y, hy⟩ : ∃ y, tAt (cods s) E = y := ⟨_, rfl⟩
  obtain ⟨z, hz⟩ : ∃ z, tAt (cods s) f = z := ⟨_, rfl⟩
  rw [hx, hy, hz] at HBAD
  rw [hx] at HF
  rw [hz] at HHD
  have HA0 := Lib.hid (fun w => HAT.out (p : Int) p rfl x hx w)
  have HAE := Lib.hid (fun w => HAT.out (E : Int) E rfl y hy w)
  have HDy := Lib.hid (fun w => tdg_ok y w)
  have HLy := Lib.hid (fun w => tlt_ok y w)
  rw [hy] at HND
  have hndy : isDg y = false := by simpa using HND.out
  rw [hndy] at HDy
  have HATj := Lib.hid (fun (j : Nat) w => HAT.out (j : Int) j rfl _ rfl w)
  have HDj := Lib.hid (fun (j : Nat) (h : isDg (tAt (cods s) j) = true) w => (show Calls Tryz.prog 107 #[.int .u8 (tAt (cods s) j : Nat)] w fun e w' => e = .returned (.bool true) ∧ w = w' from h ▸ tdg_ok (tAt (cods s) j) w))
  generalize cods s = l at *
  clear hb0 hk hlen hdg hE hf hx hy hz hnd HND hndy her HAT
  by_cases hx : x = 45
  · have hfp : f = p + 1 := HF.out.trans (if_pos hx)
    have qx : ((x : Int) == 45) = true := by rw [hx]; rfl
    have HX45 := Lib.hid hx
    have hfi : (p : Int) + 1 = (f : Int) := by omega
    clear hx HF hfp
    go_enter Tryz.func108, Tryz.ntmps108
    go_wp2_with fail
    generalize w.alloc (.cells #[.string s, .int .i64 (p : Nat)] 116) = W at *
    refine (HA0.out _).mono ?_
    rintro e w5 ⟨rfl, rfl⟩
    go_wp2_with fail
    go_loopw [5] (fun ev wr => RelD W l E f ev wr) (fun ev _ => s.size + 1 - (intOf ev).toNat)
    case atStart => exact ⟨f, s.size + 1, rfl, Nat.le_refl _, by rw [HL.out]; omega, HG0.out, by rw [HL.out]; omega, Below.refl _ _⟩
    case round =>
      clear HG0
      obtain ⟨j, n, rfl, hfj, hj, hgo, hn, hb⟩ := hrel
      rw [HL.out] at hj hn
      obtain ⟨m, rfl⟩ : ∃ m, n = m + 1 := ⟨n - 1, by omega⟩
      have HGO := Lib.hid hgo
      have HB := Lib.hid hb
      obtain ⟨k0, k1⟩ := HK.out wr hb
      clear hgo hb
      by_cases hdj : isDg (tAt l j) = true
      · have h1 := isDg_in hdj
        rw [HL.out] at h1
        have HN := Lib.hid ((dGo_step hdj).symm.trans HGO.out)
        have HDD := Lib.hid (fun w => HDj.out j hdj w)
        have HAj := Lib.hid (fun w => HATj.out j w)
        generalize tAt l j = u at *
        clear hdj
        go_wp2_with fail
        refine (HAj.out _).mono ?_
        rintro e w5 ⟨rfl, rfl⟩
        go_wp2_with fail
        refine (HDD.out _).mono ?_
        rintro e w5 ⟨rfl, rfl⟩
        go_wp2_with fail
        go_roundw
        case rel => exact ⟨j + 1, m, by go_num, by omega, by rw [HL.out]; exact h1, HN.out, by rw [HL.out]; omega, HB.out⟩
        case measure => simp [intOf]; omega
      · obtain rfl : j = E := (dGo_end hdj).symm.trans HGO.out
        clear hdj HGO HDj HATj
        have e1 : (f : Int) ≤ (j : Int) := by omega
        have e2 : (j : Int) ≤ (s.size : Int) := by omega
        have e3 : (0 : Int) ≤ (f : Int) := by omega
        have e4 : (0 : Int) ≤ (j : Int) := by omega
        go_wp2_with fail
        refine (HAE.out _).mono ?_
        rintro e w5 ⟨rfl, rfl⟩
        go_wp2_with fail
        refine (HDy.out _).mono ?_
        rintro e w5 ⟨rfl, rfl⟩
        go_upto_region 9 with fail
        obtain ⟨hd0, hd1⟩ := HHD.out
        have hdsz := HSZ.out
        have HA := Lib.hid HATOI.out
        clear HATOI HHD HSZ
        generalize s.extract f j = D at *
        have HDS := Lib.hid hdsz
        have d1 : (0 : Int) < (D.size : Int) := by omega
        have d2 : D.size ≤ 140737488355328 := by omega
        have hlenD : (D.size : Int) = ((j - f : Nat) : Int) := by omega
        have HLD := Lib.hid hlenD
        clear hdsz hlenD
        by_cases hz : z = 48
        · have q2 : ((z : Int) == 48) = true := by rw [hz]; rfl
          have hb : BAD := by rw [HBAD.out]; exact .inl ⟨hz, .inl HX45.out⟩
          clear hz
          have HE := Lib.hid (show p = R from HI.out.1 hb)
          clear hb
          go_wp2_with fail
          go_ret
          rw [← HE.out]
          exact ⟨rfl, HB0.out.trans (HB.out.mono HB0.out.size)⟩
        · have q2 : ((z : Int) == 48) = false := beq_false_of_ne (by omega)
          have q3 : decide (z = 48) = false := decide_eq_false hz
          cases hly : isLt y with
          | true =>
            rw [hly] at HLy
            have hb : BAD := by rw [HBAD.out]; exact .inr hly
            clear hly hz
            have HE := Lib.hid (show p = R from HI.out.1 hb)
            clear hb
            go_wp2_with fail
            refine (HAE.out _).mono ?_
            rintro e w5 ⟨rfl, rfl⟩
            go_wp2_with fail
            refine (HLy.out _).mono ?_
            rintro e w5 ⟨rfl, rfl⟩
            go_wp2_with fail
            go_ret
            rw [← HE.out]
            exact ⟨rfl, HB0.out.trans (HB.out.mono HB0.out.size)⟩
          | false =>
            rw [hly] at HLy
            have hnb : ¬ BAD := by rw [HBAD.out, hly]; rintro (h | h); exact (hz h.1); cases h
            clear hly hz
            have HNB := Lib.hid hnb
            clear hnb
            by_cases hv : V < 9223372036854775808
            · have HY := Lib.hid (fun w => atoi_yes D _ d2 (by rw [HA.out, if_pos hv]) w)
              have HE := Lib.hid (show j = R from HI.out.2.1 HNB.out hv)
              clear hv
              go_wp2_with fail
              refine (HAE.out _).mono ?_
              rintro e w5 ⟨rfl, rfl⟩
              go_wp2_with fail
              refine (HLy.out _).mono ?_
              rintro e w5 ⟨rfl, rfl⟩
              go_wp2_with fail
              refine (HY.out _).mono ?_
              rintro e w5 ⟨rfl, hb5⟩
              have HB5 := Lib.hid (HB.out.trans (hb5.mono HB.out.size))
              clear hb5
              go_wp2_with fail
              go_ret
              rw [← HE.out]
              exact ⟨rfl, HB0.out.trans (HB5.out.mono HB0.out.size)⟩
            · have HE := Lib.hid (show p = R from HI.out.2.2 HNB.out hv)
              have HY := Lib.hid (fun w h => atoi_no D d2 (by rw [HA.out, if_neg hv]) w h)
              clear hv
              go_wp2_with fail
              refine (HAE.out _).mono ?_
              rintro e w5 ⟨rfl, rfl⟩
              go_wp2_with fail
              refine (HLy.out _).mono ?_
              rintro e w5 ⟨rfl, rfl⟩
              go_wp2_with fail
              refine (HY.out _ (HER.out.below HB.out)).mono ?_
              rintro e w5 ⟨n5, t5, N5, rfl, hb5⟩
              have HB5 := Lib.hid (HB.out.trans (hb5.mono HB.out.size))
              clear hb5
              obtain ⟨k0, k1⟩ := HK.out w5 HB5.out
              go_wp2_with fail
              go_ret
              rw [← HE.out]
              exact ⟨rfl, HB0.out.trans (HB5.out.mono HB0.out.size)⟩
  · obtain rfl : p = f := (HF.out.trans (if_neg hx)).symm
    have qx : ((x : Int) == 45) = false := beq_false_of_ne (by omega)
    have qxn : decide (x = 45) = false := decide_eq_false hx
    have HX45 := Lib.hid hx
    clear hx HF
    go_enter Tryz.func108, Tryz.ntmps108
    go_wp2_with fail
    generalize w.alloc (.cells #[.string s, .int .i64 (p : Nat)] 116) = W at *
    refine (HA0.out _).mono ?_
    rintro e w5 ⟨rfl, rfl⟩
    go_wp2_with fail
    go_loopw [5] (fun ev wr => RelD W l E p ev wr) (fun ev _ => s.size + 1 - (intOf ev).toNat)
    case atStart => exact ⟨p, s.size + 1, rfl, Nat.le_refl _, by rw [HL.out]; omega, HG0.out, by rw [HL.out]; omega, Below.refl _ _⟩
    case round =>
      clear HG0
      obtain ⟨j, n, rfl, hfj, hj, hgo, hn, hb⟩ := hrel
      rw [HL.out] at hj hn
      obtain ⟨m, rfl⟩ : ∃ m, n = m + 1 := ⟨n - 1, by omega⟩
      have HGO := Lib.hid hgo
      have HB := Lib.hid hb
      obtain ⟨k0, k1⟩ := HK.out wr hb
      clear hgo hb
      by_cases hdj : isDg (tAt l j) = true
      · have h1 := isDg_in hdj
        rw [HL.out] at h1
        have HN := Lib.hid ((dGo_step hdj).symm.trans HGO.out)
        have HDD := Lib.hid (fun w => HDj.out j hdj w)
        have HAj := Lib.hid (fun w => HATj.out j w)
        generalize tAt l j = u at *
        clear hdj
        go_wp2_with fail
        refine (HAj.out _).mono ?_
        rintro e w5 ⟨rfl, rfl⟩
        go_wp2_with fail
        refine (HDD.out _).mono ?_
        rintro e w5 ⟨rfl, rfl⟩
        go_wp2_with fail
        go_roundw
        case rel => exact ⟨j + 1, m, by go_num, by omega, by rw [HL.out]; exact h1, HN.out, by rw [HL.out]; omega, HB.out⟩
        case measure => simp [intOf]; omega
      · obtain rfl : j = E := (dGo_end hdj).symm.trans HGO.out
        clear hdj HGO HDj HATj
        have e1 : (p : Int) ≤ (j : Int) := by omega
        have e2 : (j : Int) ≤ (s.size : Int) := by omega
        have e3 : (0 : Int) ≤ (p : Int) := by omega
        have e4 : (0 : Int) ≤ (j : Int) := by omega
        go_wp2_with fail
        refine (HAE.out _).mono ?_
        rintro e w5 ⟨rfl, rfl⟩
        go_wp2_with fail
        refine (HDy.out _).mono ?_
        rintro e w5 ⟨rfl, rfl⟩
        go_upto_region 9 with fail
        obtain ⟨hd0, hd1⟩ := HHD.out
        have hdsz := HSZ.out
        have HA := Lib.hid HATOI.out
        clear HATOI HHD HSZ
        generalize s.extract p j = D at *
        have HDS := Lib.hid hdsz
        have d1 : (0 : Int) < (D.size : Int) := by omega
        have d2 : D.size ≤ 140737488355328 := by omega
        have hlenD : (D.size : Int) = ((j - p : Nat) : Int) := by omega
        have HLD := Lib.hid hlenD
        clear hdsz hlenD
        by_cases hz : z = 48
        · have q2 : ((z : Int) == 48) = true := by rw [hz]; rfl
          by_cases h1 : 1 < j - p
          · have q3 : decide ((1 : Int) < (D.size : Int)) = true := decide_eq_true (by have := HLD.out; omega)
            have q3n : decide (1 < D.size) = true := decide_eq_true (by have := HDS.out; omega)
            have hb : BAD := by rw [HBAD.out]; exact .inl ⟨hz, .inr h1⟩
            clear hz h1
            have HE := Lib.hid (show p = R from HI.out.1 hb)
            clear hb
            go_wp2_with fail
            go_ret
            rw [← HE.out]
            exact ⟨rfl, HB0.out.trans (HB.out.mono HB0.out.size)⟩
          · have q3 : decide ((1 : Int) < (D.size : Int)) = false := decide_eq_false (by have := HLD.out; omega)
            have q3n : decide (1 < D.size) = false := decide_eq_false (by have := HDS.out; omega)
            cases hly : isLt y with
            | true =>
              rw [hly] at HLy
              have hb : BAD := by rw [HBAD.out]; exact .inr hly
              clear hly hz h1
              have HE := Lib.hid (show p = R from HI.out.1 hb)
              clear hb
              go_wp2_with fail
              refine (HAE.out _).mono ?_
              rintro e w5 ⟨rfl, rfl⟩
              go_wp2_with fail
              refine (HLy.out _).mono ?_
              rintro e w5 ⟨rfl, rfl⟩
              go_wp2_with fail
              go_ret
              rw [← HE.out]
              exact ⟨rfl, HB0.out.trans (HB.out.mono HB0.out.size)⟩
            | false =>
              rw [hly] at HLy
              have hnb : ¬ BAD := by rw [HBAD.out, hly]; rintro (h | h); exact (h.2.elim HX45.out h1); cases h
              clear hly hz h1
              have HNB := Lib.hid hnb
              clear hnb
              by_cases hv : V < 9223372036854775808
              · have HY := Lib.hid (fun w => atoi_yes D _ d2 (by rw [HA.out, if_pos hv]) w)
                have HE := Lib.hid (show j = R from HI.out.2.1 HNB.out hv)
                clear hv
                go_wp2_with fail
                refine (HAE.out _).mono ?_
                rintro e w5 ⟨rfl, rfl⟩
                go_wp2_with fail
                refine (HLy.out _).mono ?_
                rintro e w5 ⟨rfl, rfl⟩
                go_wp2_with fail
                refine (HY.out _).mono ?_
                rintro e w5 ⟨rfl, hb5⟩
                have HB5 := Lib.hid (HB.out.trans (hb5.mono HB.out.size))
                clear hb5
                go_wp2_with fail
                go_ret
                rw [← HE.out]
                exact ⟨rfl, HB0.out.trans (HB5.out.mono HB0.out.size)⟩
              · have HE := Lib.hid (show p = R from HI.out.2.2 HNB.out hv)
                have HY := Lib.hid (fun w h => atoi_no D d2 (by rw [HA.out, if_neg hv]) w h)
                clear hv
                go_wp2_with fail
                refine (HAE.out _).mono ?_
                rintro e w5 ⟨rfl, rfl⟩
                go_wp2_with fail
                refine (HLy.out _).mono ?_
                rintro e w5 ⟨rfl, rfl⟩
                go_wp2_with fail
                refine (HY.out _ (HER.out.below HB.out)).mono ?_
                rintro e w5 ⟨n5, t5, N5, rfl, hb5⟩
                have HB5 := Lib.hid (HB.out.trans (hb5.mono HB.out.size))
                clear hb5
                obtain ⟨k0, k1⟩ := HK.out w5 HB5.out
                go_wp2_with fail
                go_ret
                rw [← HE.out]
                exact ⟨rfl, HB0.out.trans (HB5.out.mono HB0.out.size)⟩
        · have q2 : ((z : Int) == 48) = false := beq_false_of_ne (by omega)
          have q3 : decide (z = 48) = false := decide_eq_false hz
          cases hly : isLt y with
          | true =>
            rw [hly] at HLy
            have hb : BAD := by rw [HBAD.out]; exact .inr hly
            clear hly hz
            have HE := Lib.hid (show p = R from HI.out.1 hb)
            clear hb
            go_wp2_with fail
            refine (HAE.out _).mono ?_
            rintro e w5 ⟨rfl, rfl⟩
            go_wp2_with fail
            refine (HLy.out _).mono ?_
            rintro e w5 ⟨rfl, rfl⟩
            go_wp2_with fail
            go_ret
            rw [← HE.out]
            exact ⟨rfl, HB0.out.trans (HB.out.mono HB0.out.size)⟩
          | false =>
            rw [hly] at HLy
            have hnb : ¬ BAD := by rw [HBAD.out, hly]; rintro (h | h); exact (hz h.1); cases h
            clear hly hz
            have HNB := Lib.hid hnb
            clear hnb
            by_cases hv : V < 9223372036854775808
            · have HY := Lib.hid (fun w => atoi_yes D _ d2 (by rw [HA.out, if_pos hv]) w)
              have HE := Lib.hid (show j = R from HI.out.2.1 HNB.out hv)
              clear hv
              go_wp2_with fail
              refine (HAE.out _).mono ?_
              rintro e w5 ⟨rfl, rfl⟩
              go_wp2_with fail
              refine (HLy.out _).mono ?_
              rintro e w5 ⟨rfl, rfl⟩
              go_wp2_with fail
              refine (HY.out _).mono ?_
              rintro e w5 ⟨rfl, hb5⟩
              have HB5 := Lib.hid (HB.out.trans (hb5.mono HB.out.size))
              clear hb5
              go_wp2_with fail
              go_ret
              rw [← HE.out]
              exact ⟨rfl, HB0.out.trans (HB5.out.mono HB0.out.size)⟩
            · have HE := Lib.hid (show p = R from HI.out.2.2 HNB.out hv)
              have HY := Lib.hid (fun w h => atoi_no D d2 (by rw [HA.out, if_neg hv]) w h)
              clear hv
              go_wp2_with fail
              refine (HAE.out _).mono ?_
              rintro e w5 ⟨rfl, rfl⟩
              go_wp2_with fail
              refine (HLy.out _).mono ?_
              rintro e w5 ⟨rfl, rfl⟩
              go_wp2_with fail
              refine (HY.out _ (HER.out.below HB.out)).mono ?_
              rintro e w5 ⟨n5, t5, N5, rfl, hb5⟩
              have HB5 := Lib.hid (HB.out.trans (hb5.mono HB.out.size))
              clear hb5
              obtain ⟨k0, k1⟩ := HK.out w5 HB5.out
              go_wp2_with fail
              go_ret
              rw [← HE.out]
              exact ⟨rfl, HB0.out.trans (HB5.out.mono HB0.out.size)⟩
end Go.Proofs.YtgmnojnalkhepaaGreatDoor

/-
  Package token: the kind of the token at a place, and where it ends.
-/
namespace Go.Proofs.YtgmnojnalkhepaaGreatDoor
open Go.RowKit
set_option linter.unusedVariables false
set_option linter.unusedSimpArgs false
set_option maxRecDepth 100000

/-- the length up to which the library searches otherwise is a number in w -/
def MxAt (w : World) : Prop := ∃ m, w.cell? ⟨1, 0, none⟩ = some (.int .i64 m)
theorem MxAt.below {w w' : World} (h : MxAt w) (hb : Below w.heap.size w w') : MxAt w' := by
  obtain ⟨m, h⟩ := h
  exact ⟨m, (World.cell?_of_block (w := w) (a := ⟨1, 0, none⟩) (hb.block 1 (World.block_lt_of_cell? w _ h))).trans h⟩
/-- the program's variables in w -/
structure Gl (w : World) : Prop where
  sg : SgAt w
  er : ErAt w
  mx : MxAt w
theorem Gl.below {w w' : World} (h : Gl w) (hb : Below w.heap.size w w') : Gl w' := ⟨h.sg.below hb, h.er.below hb, h.mx.below hb⟩
theorem tkEnd_w {l : List Nat} {p : Nat} (h : isLt (tAt l p) = true) : tkEnd l p = (1, wEnd l p) := if_pos h
theorem tkEnd_i {l : List Nat} {p : Nat} (h : isLt (tAt l p) = false) (h2 : isDg (tAt l p) = true ∨ (tAt l p = 45 ∧ isDg (tAt l (p + 1)) = true)) : tkEnd l p = (2, iEnd l p) := (if_neg (by rw [h]; decide)).trans (if_pos h2)
theorem tkEnd_q {l : List Nat} {p : Nat} (h : isLt (tAt l p) = false) (h2 : ¬ (isDg (tAt l p) = true ∨ (tAt l p = 45 ∧ isDg (tAt l (p + 1)) = true))) (h3 : tAt l p = 34) : tkEnd l p = (4, qEnd l p) := (if_neg (by rw [h]; decide)).trans ((if_neg h2).trans (if_pos h3))
theorem tkEnd_s {l : List Nat} {p : Nat} (h : isLt (tAt l p) = false) (h2 : ¬ (isDg (tAt l p) = true ∨ (tAt l p = 45 ∧ isDg (tAt l (p + 1)) = true))) (h3 : ¬ tAt l p = 34) : tkEnd l p = (3, sEnd l p) := (if_neg (by rw [h]; decide)).trans ((if_neg h2).trans (if_neg h3))
set_option maxHeartbeats 8000000 in
theorem end_ok (s : ByteArray) (p : Nat) (w : World) (hgl : Gl w) (hp : p ≤ s.size) (hs : s.size ≤ 140737488355328) :
    Calls Tryz.prog 87 #[.agg #[.string s, .int .i64 (p : Nat)]] w fun e w' => e = .returned (.tuple #[.int .i64 ((tkEnd (cods s) p).1 : Nat), .int .i64 ((tkEnd (cods s) p).2 : Nat)]) ∧ Below w.heap.size w w' := by
  obtain ⟨hb0, hk⟩ := scbox w s p
  have HB0 := Lib.hid hb0
  have hk2 := hk _ (Below.refl _ _)
  have HGL := Lib.hid (hgl.below hb0)
  obtain ⟨x, hx⟩ : ∃ x, tAt (cods s) p = x := ⟨_, rfl⟩
  obtain ⟨y, hy⟩ : ∃ y, tAt (cods s) (p + 1) = y := ⟨_, rfl⟩
  have HA0 := Lib.hid (fun w => tat_int s (p : Int) p rfl x hx w)
  have HA1 := Lib.hid (fun w => tat_int s ((p : Int) + 1) (p + 1) (by omega) y hy w)
  have HLx := Lib.hid (fun w => tlt_ok x w)
  have HDx := Lib.hid (fun w => tdg_ok x w)
  have HDy := Lib.hid (fun w => tdg_ok y w)
  have hlen := cods_length s
  have hin : x ≠ 0 → p < s.size := fun h => by rw [← hx] at h; have := tAt_in h; omega
  cases hlx : isLt x with
  | true =>
    rw [tkEnd_w (by rw [hx]; exact hlx)]
    have HC := Lib.hid (fun (w : World) (h : Gl w) => wordEnd_ok s p w (hin (by rintro rfl; cases hlx)) hs)
    simp only at HC ⊢
    generalize wEnd (cods s) p = R at *
    have hk0 := hk2.1
    have hk1 := hk2.2
    clear hx hy hk hk2 hlen hin hb0 hgl
    rw [hlx] at HLx
    clear hlx
    go_enter Tryz.func87, Tryz.ntmps87
    go_wp2_with fail
    generalize w.alloc (.cells #[.string s, .int .i64 (p : Nat)] 116) = W at *
    refine (HA0.out _).mono ?_
    rintro e w5 ⟨rfl, rfl⟩
    go_wp2_with fail
    refine (HLx.out _).mono ?_
    rintro e w5 ⟨rfl, rfl⟩
    go_wp2_with fail
    refine (HC.out _ HGL.out).mono ?_
    rintro e w5 ⟨rfl, hb⟩
    have HB5 := Lib.hid hb
    clear hb
    go_wp2_with fail
    go_ret2
    exact ⟨rfl, HB0.out.trans (HB5.out.mono HB0.out.size)⟩
  | false =>
    rw [hlx] at HLx
    cases hdx : isDg x with
    | true =>
      rw [tkEnd_i (by rw [hx]; exact hlx) (.inl (by rw [hx]; exact hdx))]
      have HC := Lib.hid (fun (w : World) (h : Gl w) => integerEnd_ok s p w h.er (hin (by rintro rfl; cases hdx)) hs (.inl (by rw [hx]; exact hdx)))
      simp only at HC ⊢
      generalize iEnd (cods s) p = R at *
      have hk0 := hk2.1
      have hk1 := hk2.2
      clear hx hy hk hk2 hlen hin hb0 hgl
      rw [hdx] at HDx
      clear hlx hdx
      go_enter Tryz.func87, Tryz.ntmps87
      go_wp2_with fail
      generalize w.alloc (.cells #[.string s, .int .i64 (p : Nat)] 116) = W at *
      refine (HA0.out _).mono ?_
      rintro e w5 ⟨rfl, rfl⟩
      go_wp2_with fail
      refine (HLx.out _).mono ?_
      rintro e w5 ⟨rfl, rfl⟩
      go_wp2_with fail
      refine (HDx.out _).mono ?_
      rintro e w5 ⟨rfl, rfl⟩
      go_wp2_with fail
      refine (HC.out _ HGL.out).mono ?_
      rintro e w5 ⟨rfl, hb⟩
      have HB5 := Lib.hid hb
      clear hb
      go_wp2_with fail
      go_ret2
      exact ⟨rfl, HB0.out.trans (HB5.out.mono HB0.out.size)⟩
    | false =>
      rw [hdx] at HDx
      by_cases hm : x = 45
      · have q1 : ((x : Int) == 45) = true := by rw [hm]; rfl
        have q2 : ((x : Int) == 34) = false := by rw [hm]; rfl
        cases hdy : isDg y with
        | true =>
          rw [tkEnd_i (by rw [hx]; exact hlx) (.inr ⟨hx.trans hm, by rw [hy]; exact hdy⟩)]
          have HC := Lib.hid (fun (w : World) (h : Gl w) => integerEnd_ok s p w h.er (hin (by omega)) hs (.inr ⟨hx.trans hm, by rw [hy]; exact hdy⟩))
          simp only at HC ⊢
          generalize iEnd (cods s) p = R at *
          have hk0 := hk2.1
          have hk1 := hk2.2
          clear hx hy hk hk2 hlen hin hb0 hgl
          rw [hdy] at HDy
          clear hlx hdx hdy hm
          go_enter Tryz.func87, Tryz.ntmps87
          go_wp2_with fail
          generalize w.alloc (.cells #[.string s, .int .i64 (p : Nat)] 116) = W at *
          refine (HA0.out _).mono ?_
          rintro e w5 ⟨rfl, rfl⟩
          go_wp2_with fail
          refine (HLx.out _).mono ?_
          rintro e w5 ⟨rfl, rfl⟩
          go_wp2_with fail
          refine (HDx.out _).mono ?_
          rintro e w5 ⟨rfl, rfl⟩
          go_wp2_with fail
          refine (HA1.out _).mono ?_
          rintro e w5 ⟨rfl, rfl⟩
          go_wp2_with fail
          refine (HDy.out _).mono ?_
          rintro e w5 ⟨rfl, rfl⟩
          go_wp2_with fail
          refine (HC.out _ HGL.out).mono ?_
          rintro e w5 ⟨rfl, hb⟩
          have HB5 := Lib.hid hb
          clear hb
          go_wp2_with fail
          go_ret2
          exact ⟨rfl, HB0.out.trans (HB5.out.mono HB0.out.size)⟩
        | false =>
          rw [tkEnd_s (by rw [hx]; exact hlx) (by rw [hx, hy, hdx, hdy]; rintro (h | h); cases h; cases h.2) (by rw [hx]; omega)]
          have HC := Lib.hid (fun (w : World) (h : Gl w) => signEnd_ok s p w h.sg hp hs)
          simp only at HC ⊢
          generalize sEnd (cods s) p = R at *
          have hk0 := hk2.1
          have hk1 := hk2.2
          clear hx hy hk hk2 hlen hin hb0 hgl
          rw [hdy] at HDy
          clear hlx hdx hdy hm
          go_enter Tryz.func87, Tryz.ntmps87
          go_wp2_with fail
          generalize w.alloc (.cells #[.string s, .int .i64 (p : Nat)] 116) = W at *
          refine (HA0.out _).mono ?_
          rintro e w5 ⟨rfl, rfl⟩
          go_wp2_with fail
          refine (HLx.out _).mono ?_
          rintro e w5 ⟨rfl, rfl⟩
          go_wp2_with fail
          refine (HDx.out _).mono ?_
          rintro e w5 ⟨rfl, rfl⟩
          go_wp2_with fail
          refine (HA1.out _).mono ?_
          rintro e w5 ⟨rfl, rfl⟩
          go_wp2_with fail
          refine (HDy.out _).mono ?_
          rintro e w5 ⟨rfl, rfl⟩
          go_wp2_with fail
          refine (HC.out _ HGL.out).mono ?_
          rintro e w5 ⟨rfl, hb⟩
          have HB5 := Lib.hid hb
          clear hb
          go_wp2_with fail
          go_ret2
          exact ⟨rfl, HB0.out.trans (HB5.out.mono HB0.out.size)⟩
      · have q1 : ((x : Int) == 45) = false := beq_false_of_ne (by omega)
        have q1n : decide (x = 45) = false := decide_eq_false hm
        by_cases hq : x = 34
        · have q2 : ((x : Int) == 34) = true := by rw [hq]; rfl
          rw [tkEnd_q (by rw [hx]; exact hlx) (by rw [hx, hdx]; rintro (h | h); cases h; exact hm h.1) (hx.trans hq)]
          have HC := Lib.hid (fun (w : World) (h : Gl w) => quotedEnd_ok s p w (hin (by omega)) hs)
          simp only at HC ⊢
          generalize qEnd (cods s) p = R at *
          have hk0 := hk2.1
          have hk1 := hk2.2
          clear hx hy hk hk2 hlen hin hb0 hgl
          clear hlx hdx hm hq
          go_enter Tryz.func87, Tryz.ntmps87
          go_wp2_with fail
          generalize w.alloc (.cells #[.string s, .int .i64 (p : Nat)] 116) = W at *
          refine (HA0.out _).mono ?_
          rintro e w5 ⟨rfl, rfl⟩
          go_wp2_with fail
          refine (HLx.out _).mono ?_
          rintro e w5 ⟨rfl, rfl⟩
          go_wp2_with fail
          refine (HDx.out _).mono ?_
          rintro e w5 ⟨rfl, rfl⟩
          go_wp2_with fail
          refine (HC.out _ HGL.out).mono ?_
          rintro e w5 ⟨rfl, hb⟩
          have HB5 := Lib.hid hb
          clear hb
          go_wp2_with fail
          go_ret2
          exact ⟨rfl, HB0.out.trans (HB5.out.mono HB0.out.size)⟩
        · have q2 : ((x : Int) == 34) = false := beq_false_of_ne (by omega)
          have q2n : decide (x = 34) = false := decide_eq_false hq
          rw [tkEnd_s (by rw [hx]; exact hlx) (by rw [hx, hdx]; rintro (h | h); cases h; exact hm h.1) (by rw [hx]; exact hq)]
          have HC := Lib.hid (fun (w : World) (h : Gl w) => signEnd_ok s p w h.sg hp hs)
          simp only at HC ⊢
          generalize sEnd (cods s) p = R at *
          have hk0 := hk2.1
          have hk1 := hk2.2
          clear hx hy hk hk2 hlen hin hb0 hgl
          clear hlx hdx hm hq
          go_enter Tryz.func87, Tryz.ntmps87
          go_wp2_with fail
          generalize w.alloc (.cells #[.string s, .int .i64 (p : Nat)] 116) = W at *
          refine (HA0.out _).mono ?_
          rintro e w5 ⟨rfl, rfl⟩
          go_wp2_with fail
          refine (HLx.out _).mono ?_
          rintro e w5 ⟨rfl, rfl⟩
          go_wp2_with fail
          refine (HDx.out _).mono ?_
          rintro e w5 ⟨rfl, rfl⟩
          go_wp2_with fail
          refine (HC.out _ HGL.out).mono ?_
          rintro e w5 ⟨rfl, hb⟩
          have HB5 := Lib.hid hb
          clear hb
          go_wp2_with fail
          go_ret2
          exact ⟨rfl, HB0.out.trans (HB5.out.mono HB0.out.size)⟩
end Go.Proofs.YtgmnojnalkhepaaGreatDoor

/-
  Words: package token's isWord, Upper, Lower, and the document's.
-/
namespace Go.Proofs.YtgmnojnalkhepaaGreatDoor
open Go.RowKit
set_option linter.unusedVariables false
set_option linter.unusedSimpArgs false
set_option maxRecDepth 100000

def isWd (s : ByteArray) : Bool := decide ((tkEnd (cods s) 0).1 = 1) && decide ((tkEnd (cods s) 0).2 = s.size)
theorem isWd_in {s : ByteArray} (h : isWd s = true) : isLt (tAt (cods s) 0) = true ∧ 0 < s.size ∧ wEnd (cods s) 0 = s.size := by
  unfold isWd at h
  rw [Bool.and_eq_true, decide_eq_true_eq, decide_eq_true_eq] at h
  obtain ⟨h1, h2⟩ := h
  cases hl : isLt (tAt (cods s) 0) with
  | true =>
    rw [tkEnd_w hl] at h2
    refine ⟨rfl, ?_, h2⟩
    have := tAt_in (l := cods s) (i := 0) (by intro e; rw [e] at hl; exact absurd hl (by decide))
    rw [cods_length] at this
    exact this
  | false =>
    exfalso
    by_cases hd : isDg (tAt (cods s) 0) = true ∨ (tAt (cods s) 0 = 45 ∧ isDg (tAt (cods s) (0 + 1)) = true)
    · rw [tkEnd_i hl hd] at h1; exact absurd (show (2 : Nat) = 1 from h1) (by decide)
    · by_cases hq : tAt (cods s) 0 = 34
      · rw [tkEnd_q hl hd hq] at h1; exact absurd (show (4 : Nat) = 1 from h1) (by decide)
      · rw [tkEnd_s hl hd hq] at h1; exact absurd (show (3 : Nat) = 1 from h1) (by decide)
theorem isWord_ok (s : ByteArray) (w : World) (hgl : Gl w) (hs : s.size ≤ 140737488355328) : Calls Tryz.prog 62 #[.string s] w fun e w' => e = .returned (.bool (isWd s)) ∧ Below w.heap.size w w' := by
  have hE := end_ok s 0 w hgl (Nat.zero_le _) hs
  unfold isWd
  obtain ⟨k, e, hke⟩ : ∃ k e, tkEnd (cods s) 0 = (k, e) := ⟨_, _, rfl⟩
  rw [hke] at hE ⊢
  simp only at hE ⊢
  have HE := Lib.hid (show Calls Tryz.prog 87 #[.agg #[.string s, .int .i64 0]] w fun e1 w' => e1 = .returned (.tuple #[.int .i64 (k : Nat), .int .i64 (e : Nat)]) ∧ Below w.heap.size w w' from hE)
  clear hE hke hgl
  by_cases h1 : k = 1
  · have q1 : ((k : Int) == 1) = true := by rw [h1]; rfl
    have q1n : decide (k = 1) = true := decide_eq_true h1
    clear h1
    by_cases h2 : e = s.size
    · have q2 : ((e : Int) == (s.size : Int)) = true := by rw [h2]; simp
      have q2n : decide (e = s.size) = true := decide_eq_true h2
      clear h2
      go_enter Tryz.func62, Tryz.ntmps62
      go_wp2_with fail
      refine HE.out.mono ?_
      rintro r w1 ⟨rfl, hb⟩
      have HB := Lib.hid hb
      clear hb
      go_wp2_with fail
      go_ret
      exact ⟨by rw [q1n, q2n]; rfl, HB.out⟩
    · have q2 : ((e : Int) == (s.size : Int)) = false := beq_false_of_ne (by omega)
      have q2n : decide (e = s.size) = false := decide_eq_false h2
      clear h2
      go_enter Tryz.func62, Tryz.ntmps62
      go_wp2_with fail
      refine HE.out.mono ?_
      rintro r w1 ⟨rfl, hb⟩
      have HB := Lib.hid hb
      clear hb
      go_wp2_with fail
      go_ret
      exact ⟨by rw [q1n, q2n]; rfl, HB.out⟩
  · have q1 : ((k : Int) == 1) = false := beq_false_of_ne (by omega)
    have q1n : decide (k = 1) = false := decide_eq_false h1
    clear h1
    go_enter Tryz.func62, Tryz.ntmps62
    go_wp2_with fail
    refine HE.out.mono ?_
    rintro r w1 ⟨rfl, hb⟩
    have HB := Lib.hid hb
    clear hb
    go_wp2_with fail
    go_ret
    exact ⟨by rw [q1n]; rfl, HB.out⟩
theorem upper_ok (s : ByteArray) (w : World) (hgl : Gl w) (hs : s.size ≤ 140737488355328) : Calls Tryz.prog 30 #[.string s] w fun e w' => e = .returned (.bool (isWd s && isUp (tAt (cods s) 0))) ∧ Below w.heap.size w w' := by
  have HW := Lib.hid (isWord_ok s w hgl hs)
  cases hw : isWd s with
  | true =>
    rw [hw] at HW
    obtain ⟨_, h0, _⟩ := isWd_in hw
    obtain ⟨x, hx⟩ : ∃ x, tAt (cods s) 0 = x := ⟨_, rfl⟩
    have e1 : (s[0]'h0).toNat = x := (cods_at s 0 h0).trans hx
    rw [hx]
    have HP := Lib.hid (fun w => tup_ok x w)
    have q1 : (0 : Int) < (s.size : Int) := by omega
    have q2 : 0 < s.size := h0
    clear hw hx hgl
    generalize isUp x = b at *
    go_enter Tryz.func30, Tryz.ntmps30
    go_wp2_with fail
    refine HW.out.mono ?_
    rintro r w1 ⟨rfl, hb⟩
    have HB := Lib.hid hb
    clear hb
    go_wp2_with fail
    refine (HP.out _).mono ?_
    rintro r w2 ⟨rfl, rfl⟩
    go_wp2_with fail
    go_ret
    exact ⟨by simp, HB.out⟩
  | false =>
    rw [hw] at HW
    clear hw hgl
    go_enter Tryz.func30, Tryz.ntmps30
    go_wp2_with fail
    refine HW.out.mono ?_
    rintro r w1 ⟨rfl, hb⟩
    have HB := Lib.hid hb
    clear hb
    go_wp2_with fail
    go_ret
    exact ⟨by simp, HB.out⟩
theorem lower_ok (s : ByteArray) (w : World) (hgl : Gl w) (hs : s.size ≤ 140737488355328) : Calls Tryz.prog 56 #[.string s] w fun e w' => e = .returned (.bool (isWd s && isLo (tAt (cods s) 0))) ∧ Below w.heap.size w w' := by
  have HW := Lib.hid (isWord_ok s w hgl hs)
  cases hw : isWd s with
  | true =>
    rw [hw] at HW
    obtain ⟨_, h0, _⟩ := isWd_in hw
    obtain ⟨x, hx⟩ : ∃ x, tAt (cods s) 0 = x := ⟨_, rfl⟩
    have e1 : (s[0]'h0).toNat = x := (cods_at s 0 h0).trans hx
    rw [hx]
    have HP := Lib.hid (fun w => tlo_ok x w)
    have q1 : (0 : Int) < (s.size : Int) := by omega
    have q2 : 0 < s.size := h0
    clear hw hx hgl
    generalize isLo x = b at *
    go_enter Tryz.func56, Tryz.ntmps56
    go_wp2_with fail
    refine HW.out.mono ?_
    rintro r w1 ⟨rfl, hb⟩
    have HB := Lib.hid hb
    clear hb
    go_wp2_with fail
    refine (HP.out _).mono ?_
    rintro r w2 ⟨rfl, rfl⟩
    go_wp2_with fail
    go_ret
    exact ⟨by simp, HB.out⟩
  | false =>
    rw [hw] at HW
    clear hw hgl
    go_enter Tryz.func56, Tryz.ntmps56
    go_wp2_with fail
    refine HW.out.mono ?_
    rintro r w1 ⟨rfl, hb⟩
    have HB := Lib.hid hb
    clear hb
    go_wp2_with fail
    go_ret
    exact ⟨by simp, HB.out⟩
/-- the document's count of a word's letters; below 0: it ends with a hyphen -/
def rwGo (l : List Nat) : Nat → Nat → Int
  | 0, n => n
  | f + 1, n => if n < l.length then (if isA (tAt l n) = true then rwGo l f (n + 1) else if tAt l n ≠ 45 ∨ (n + 1 < l.length ∧ tAt l (n + 1) = 45) then n else if n + 1 = l.length ∨ ¬ isA (tAt l (n + 1)) = true then -1 else rwGo l f (n + 1)) else n
def rWord (l : List Nat) : Int := if l.length = 0 ∨ ¬ isLt (tAt l 0) = true then 0 else rwGo l (l.length + 1) 1
theorem rwGo_end {l : List Nat} {f n : Nat} (h : ¬ n < l.length) : rwGo l (f + 1) n = n := if_neg h
theorem rwGo_step {l : List Nat} {f n : Nat} (h : isA (tAt l n) = true) : rwGo l (f + 1) n = rwGo l f (n + 1) := (if_pos (isA_in h)).trans (if_pos h)
theorem rwGo_stop {l : List Nat} {f n : Nat} (h : n < l.length) (h1 : ¬ isA (tAt l n) = true) (h2 : tAt l n ≠ 45 ∨ (n + 1 < l.length ∧ tAt l (n + 1) = 45)) : rwGo l (f + 1) n = n := (if_pos h).trans ((if_neg h1).trans (if_pos h2))
theorem rwGo_bad {l : List Nat} {f n : Nat} (h : n < l.length) (h1 : ¬ isA (tAt l n) = true) (h2 : ¬ (tAt l n ≠ 45 ∨ (n + 1 < l.length ∧ tAt l (n + 1) = 45))) (h3 : n + 1 = l.length ∨ ¬ isA (tAt l (n + 1)) = true) : rwGo l (f + 1) n = -1 := (if_pos h).trans ((if_neg h1).trans ((if_neg h2).trans (if_pos h3)))
theorem rwGo_hyp {l : List Nat} {f n : Nat} (h : n < l.length) (h1 : ¬ isA (tAt l n) = true) (h2 : ¬ (tAt l n ≠ 45 ∨ (n + 1 < l.length ∧ tAt l (n + 1) = 45))) (h3 : ¬ (n + 1 = l.length ∨ ¬ isA (tAt l (n + 1)) = true)) : rwGo l (f + 1) n = rwGo l f (n + 1) := (if_pos h).trans ((if_neg h1).trans ((if_neg h2).trans (if_neg h3)))
/-- the two counts of a word -/
theorem word_same (l : List Nat) : ∀ (n f e : Nat), 1 ≤ e → e ≤ l.length → l.length + 1 ≤ n + e → l.length + 1 ≤ f + e → rwGo l f e = if wGo l 0 n e = 0 then -1 else (wGo l 0 n e : Int)
  | 0, f, e, _, h, h1, _ => by omega
  | n + 1, 0, e, _, h, _, h1 => by omega
  | n + 1, f + 1, e, h0, h, h1, h2 => by
    by_cases hA : isA (tAt l e) = true
    · have := isA_in hA
      rw [rwGo_step hA, wGo_step hA]
      exact word_same l n f (e + 1) (by omega) this (by omega) (by omega)
    · by_cases hlt : e < l.length
      · by_cases hs : tAt l e ≠ 45 ∨ tAt l (e + 1) = 45
        · rw [wGo_end hA hs, rwGo_stop hlt hA (hs.imp id fun h => ⟨tAt_in (by rw [h]; decide), h⟩), if_neg (by omega)]
        · have hs2 : ¬ (tAt l e ≠ 45 ∨ (e + 1 < l.length ∧ tAt l (e + 1) = 45)) := fun h => hs (h.imp id fun h => h.2)
          by_cases h3 : isA (tAt l (e + 1)) = true
          · have hin := isA_in h3
            cases f with
            | zero => omega
            | succ f =>
              rw [wGo_two hA hs h3, rwGo_hyp hlt hA hs2 (fun h => h.elim (by omega) (fun h => h h3)), rwGo_step h3]
              cases n with
              | zero => omega
              | succ n =>
                have e2 : wGo l 0 (n + 1) (e + 2) = wGo l 0 (n + 1) (e + 2) := rfl
                exact word_same l (n + 1) f (e + 2) (by omega) hin (by omega) (by omega)
          · rw [wGo_bad hA hs h3, rwGo_bad hlt hA hs2 (.inr h3), if_pos rfl]
      · have he : e = l.length := by omega
        have h4 : tAt l e ≠ 45 := by rw [tAt_out (by omega)]; decide
        rw [rwGo_end hlt, wGo_end hA (.inl h4), if_neg (by omega)]
theorem rWord_same {l : List Nat} (h : isLt (tAt l 0) = true) : rWord l = if wEnd l 0 = 0 then -1 else (wEnd l 0 : Int) := by
  have hin := tAt_in (l := l) (i := 0) (by intro e; rw [e] at h; exact absurd h (by decide))
  unfold rWord
  rw [if_neg (by rintro (h1 | h1); omega; exact h1 h)]
  exact word_same l (l.length + 1) (l.length + 1) 1 (by omega) hin (by omega) (by omega)
theorem rWord_no {l : List Nat} (h : ¬ isLt (tAt l 0) = true) : rWord l = 0 := if_pos (.inr h)
/-- the document's Upper and Lower are the program's -/
theorem wd_same (s : ByteArray) (h : 0 < s.size) : isWd s = decide (rWord (cods s) = (s.size : Int)) := by
  by_cases hl : isLt (tAt (cods s) 0) = true
  · unfold isWd
    rw [tkEnd_w hl, rWord_same hl]
    show (decide (1 = 1) && decide (wEnd (cods s) 0 = s.size)) = _
    rw [decide_eq_true rfl, Bool.true_and, decide_eq_decide]
    split <;> omega
  · rw [rWord_no hl, decide_eq_false (by omega)]
    rw [Bool.eq_false_iff]
    exact fun h => hl (isWd_in h).1
theorem wd_empty {s : ByteArray} (h : s.size = 0) : isWd s = false := by
  rw [Bool.eq_false_iff]
  intro h1
  have := (isWd_in h1).2.1
  omega
set_option maxHeartbeats 4000000 in
theorem rword_ok (s : ByteArray) (w : World) (hs : s.size ≤ 140737488355328) : Calls Tryz.prog 65 #[.string s] w fun e w' => e = .returned (.int .i64 (rWord (cods s))) ∧ w = w' := by
  have hlen := cods_length s
  have HAT := Lib.hid (fun (i : Nat) (h : i < s.size) => (show (s[i]'h).toNat = tAt (cods s) i from cods_at s i h))
  by_cases h0 : s.size = 0
  · have hR : rWord (cods s) = 0 := if_pos (.inl (by omega))
    rw [hR]
    have q1 : ((s.size : Int) == 0) = true := by rw [h0]; rfl
    have q1n : decide (s.size = 0) = true := decide_eq_true h0
    clear hlen HAT hR
    go_enter Tryz.func65, Tryz.ntmps65
    go_wp2_with fail
    go_ret
    exact ⟨rfl, rfl⟩
  have p0 : 0 < s.size := by omega
  have q1 : ((s.size : Int) == 0) = false := beq_false_of_ne (by omega)
  have q1n : decide (s.size = 0) = false := decide_eq_false h0
  have q2 : (0 : Int) < (s.size : Int) := by omega
  obtain ⟨x, hx⟩ : ∃ x, tAt (cods s) 0 = x := ⟨_, rfl⟩
  have e1 : (s[0]'p0).toNat = x := (HAT.out 0 p0).trans hx
  have HLx := Lib.hid (fun w => rlt_ok x w)
  cases hlx : isLt x with
  | false =>
    rw [hlx] at HLx
    rw [rWord_no (by rw [hx, hlx]; decide)]
    clear hlen HAT hx hlx h0
    go_enter Tryz.func65, Tryz.ntmps65
    go_wp2_with fail
    refine (HLx.out _).mono ?_
    rintro r w1 ⟨rfl, rfl⟩
    go_wp2_with fail
    go_ret
    exact ⟨rfl, rfl⟩
  | true =>
    rw [hlx] at HLx
    obtain ⟨R, hR⟩ : ∃ R, rWord (cods s) = R := ⟨_, rfl⟩
    rw [hR]
    have HG := Lib.hid (show rwGo (cods s) (s.size + 1) 1 = R by rw [← hR]; unfold rWord; rw [if_neg (by rintro (h1 | h1); omega; exact h1 (by rw [hx]; exact hlx)), hlen])
    have HL := Lib.hid hlen
    generalize cods s = l at *
    clear hx hlx hR hlen h0
    go_enter Tryz.func65, Tryz.ntmps65
    go_wp2_with fail
    refine (HLx.out _).mono ?_
    rintro r w1 ⟨rfl, rfl⟩
    clear e1
    go_wp2_with fail
    go_loopw [3] (fun nv wr => (∃ n f : Nat, nv = .int .i64 n ∧ 1 ≤ n ∧ n ≤ s.size ∧ s.size + 1 ≤ f + n ∧ rwGo l f n = R) ∧ wr = w) (fun nv _ => s.size - (intOf nv).toNat)
    case atStart => exact ⟨⟨1, s.size + 1, rfl, Nat.le_refl _, p0, by omega, HG.out⟩, rfl⟩
    case round =>
      clear HG
      obtain ⟨⟨n, f, rfl, hn1, hn, hf, hgo⟩, rfl⟩ := hrel
      obtain ⟨m, rfl⟩ : ∃ m, f = m + 1 := ⟨f - 1, by omega⟩
      have HGO := Lib.hid hgo
      clear hgo
      by_cases hlt : n < s.size
      · have r1 : decide ((n : Int) < (s.size : Int)) = true := decide_eq_true (by omega)
        have r1n : decide (n < s.size) = true := decide_eq_true hlt
        have r2 : (n : Int) < (s.size : Int) := by omega
        have r3 : (0 : Int) ≤ (n : Int) := by omega
        obtain ⟨y, hy⟩ : ∃ y, tAt l n = y := ⟨_, rfl⟩
        obtain ⟨z, hz⟩ : ∃ z, tAt l (n + 1) = z := ⟨_, rfl⟩
        have e2 : (s[n]'hlt).toNat = y := (HAT.out n hlt).trans hy
        have HLy := Lib.hid (fun w => rlt_ok y w)
        have HDy := Lib.hid (fun w => rdg_ok y w)
        have HLz := Lib.hid (fun w => rlt_ok z w)
        have HDz := Lib.hid (fun w => rdg_ok z w)
        have HY := Lib.hid hy
        have HZ := Lib.hid hz
        have HLT := Lib.hid (show n < l.length by rw [HL.out]; exact hlt)
        clear hy hz
        cases hly : isLt y with
        | true =>
          rw [hly] at HLy
          have HN := Lib.hid ((rwGo_step (show isA (tAt l n) = true by rw [HY.out]; unfold isA; rw [hly]; rfl)).symm.trans HGO.out)
          clear hly
          go_wp2_with fail
          refine (HLy.out _).mono ?_
          rintro r w1 ⟨rfl, rfl⟩
          go_wp2_with fail
          go_roundw
          case rel => exact ⟨⟨n + 1, m, by go_num, by omega, by omega, by omega, HN.out⟩, trivial⟩
          case measure => simp [intOf]; omega
        | false =>
          rw [hly] at HLy
          cases hdy : isDg y with
          | true =>
            rw [hdy] at HDy
            have HN := Lib.hid ((rwGo_step (show isA (tAt l n) = true by rw [HY.out]; unfold isA; rw [hly, hdy]; rfl)).symm.trans HGO.out)
            clear hly hdy
            go_wp2_with fail
            refine (HLy.out _).mono ?_
            rintro r w1 ⟨rfl, rfl⟩
            go_wp2_with fail
            refine (HDy.out _).mono ?_
            rintro r w1 ⟨rfl, rfl⟩
            go_wp2_with fail
            go_roundw
            case rel => exact ⟨⟨n + 1, m, by go_num, by omega, by omega, by omega, HN.out⟩, trivial⟩
            case measure => simp [intOf]; omega
          | false =>
            rw [hdy] at HDy
            have HNA := Lib.hid (show ¬ isA (tAt l n) = true by rw [HY.out]; unfold isA; rw [hly, hdy]; decide)
            clear hly hdy
            by_cases hy : y = 45
            · have s1 : ((y : Int) == 45) = true := by rw [hy]; rfl
              have s2 : ((y : Int) != 45) = false := by rw [hy]; rfl
              by_cases hl1 : n + 1 < s.size
              · have t1 : decide ((n : Int) + 1 < (s.size : Int)) = true := decide_eq_true (by omega)
                have t1n : decide (n + 1 < s.size) = true := decide_eq_true hl1
                have t2 : (n : Int) + 1 < (s.size : Int) := by omega
                have t3 : (0 : Int) ≤ (n : Int) + 1 := by omega
                have t4 : ((n : Int) + 1 == (s.size : Int)) = false := beq_false_of_ne (by omega)
                have t4n : decide (n + 1 = s.size) = false := decide_eq_false (by omega)
                have e3 : (s[n + 1]'hl1).toNat = z := (HAT.out (n + 1) hl1).trans HZ.out
                by_cases hz : z = 45
                · have s3 : ((z : Int) == 45) = true := by rw [hz]; rfl
                  have HE := Lib.hid ((rwGo_stop HLT.out HNA.out (.inr ⟨by rw [HL.out]; exact hl1, HZ.out.trans hz⟩)).symm.trans HGO.out)
                  clear hy hz
                  go_wp2_with fail
                  refine (HLy.out _).mono ?_
                  rintro r w1 ⟨rfl, rfl⟩
                  go_wp2_with fail
                  refine (HDy.out _).mono ?_
                  rintro r w1 ⟨rfl, rfl⟩
                  go_wp2_with fail
                  go_ret
                  rw [← HE.out]
                  exact ⟨rfl, rfl⟩
                · have s3 : ((z : Int) == 45) = false := beq_false_of_ne (by omega)
                  have s4 : decide (z = 45) = false := decide_eq_false hz
                  have HNO := Lib.hid (show ¬ (tAt l n ≠ 45 ∨ (n + 1 < l.length ∧ tAt l (n + 1) = 45)) by rw [HY.out, HZ.out]; omega)
                  clear hy hz
                  cases hlz : isLt z with
                  | true =>
                    rw [hlz] at HLz
                    have HN := Lib.hid ((rwGo_hyp HLT.out HNA.out HNO.out (by rw [HZ.out, HL.out]; rintro (h | h); omega; exact h (by unfold isA; rw [hlz]; rfl))).symm.trans HGO.out)
                    clear hlz
                    go_wp2_with fail
                    refine (HLy.out _).mono ?_
                    rintro r w1 ⟨rfl, rfl⟩
                    go_wp2_with fail
                    refine (HDy.out _).mono ?_
                    rintro r w1 ⟨rfl, rfl⟩
                    go_wp2_with fail
                    refine (HLz.out _).mono ?_
                    rintro r w1 ⟨rfl, rfl⟩
                    go_wp2_with fail
                    go_roundw
                    case rel => exact ⟨⟨n + 1, m, by go_num, by omega, by omega, by omega, HN.out⟩, trivial⟩
                    case measure => simp [intOf]; omega
                  | false =>
                    rw [hlz] at HLz
                    cases hdz : isDg z with
                    | true =>
                      rw [hdz] at HDz
                      have HN := Lib.hid ((rwGo_hyp HLT.out HNA.out HNO.out (by rw [HZ.out, HL.out]; rintro (h | h); omega; exact h (by unfold isA; rw [hlz, hdz]; rfl))).symm.trans HGO.out)
                      clear hlz hdz
                      go_wp2_with fail
                      refine (HLy.out _).mono ?_
                      rintro r w1 ⟨rfl, rfl⟩
                      go_wp2_with fail
                      refine (HDy.out _).mono ?_
                      rintro r w1 ⟨rfl, rfl⟩
                      go_wp2_with fail
                      refine (HLz.out _).mono ?_
                      rintro r w1 ⟨rfl, rfl⟩
                      go_wp2_with fail
                      refine (HDz.out _).mono ?_
                      rintro r w1 ⟨rfl, rfl⟩
                      go_wp2_with fail
                      go_roundw
                      case rel => exact ⟨⟨n + 1, m, by go_num, by omega, by omega, by omega, HN.out⟩, trivial⟩
                      case measure => simp [intOf]; omega
                    | false =>
                      rw [hdz] at HDz
                      have HE := Lib.hid ((rwGo_bad HLT.out HNA.out HNO.out (.inr (by rw [HZ.out]; unfold isA; rw [hlz, hdz]; decide))).symm.trans HGO.out)
                      clear hlz hdz
                      go_wp2_with fail
                      refine (HLy.out _).mono ?_
                      rintro r w1 ⟨rfl, rfl⟩
                      go_wp2_with fail
                      refine (HDy.out _).mono ?_
                      rintro r w1 ⟨rfl, rfl⟩
                      go_wp2_with fail
                      refine (HLz.out _).mono ?_
                      rintro r w1 ⟨rfl, rfl⟩
                      go_wp2_with fail
                      refine (HDz.out _).mono ?_
                      rintro r w1 ⟨rfl, rfl⟩
                      go_wp2_with fail
                      go_ret
                      rw [← HE.out]
                      exact ⟨rfl, rfl⟩
              · have t1 : decide ((n : Int) + 1 < (s.size : Int)) = false := decide_eq_false (by omega)
                have t1n : decide (n + 1 < s.size) = false := decide_eq_false hl1
                have t4 : ((n : Int) + 1 == (s.size : Int)) = true := by rw [show (n : Int) + 1 = (s.size : Int) by omega]; simp
                have t4n : decide (n + 1 = s.size) = true := decide_eq_true (by omega)
                have HE := Lib.hid ((rwGo_bad HLT.out HNA.out (by rw [HY.out, HL.out]; omega) (.inl (by rw [HL.out]; omega))).symm.trans HGO.out)
                clear hy
                go_wp2_with fail
                refine (HLy.out _).mono ?_
                rintro r w1 ⟨rfl, rfl⟩
                go_wp2_with fail
                refine (HDy.out _).mono ?_
                rintro r w1 ⟨rfl, rfl⟩
                go_wp2_with fail
                go_ret
                rw [← HE.out]
                exact ⟨rfl, rfl⟩
            · have s1 : ((y : Int) == 45) = false := beq_false_of_ne (by omega)
              have s2 : ((y : Int) != 45) = true := by simp; omega
              have s3 : decide (y = 45) = false := decide_eq_false hy
              have HE := Lib.hid ((rwGo_stop HLT.out HNA.out (.inl (by rw [HY.out]; exact hy))).symm.trans HGO.out)
              clear hy
              go_wp2_with fail
              refine (HLy.out _).mono ?_
              rintro r w1 ⟨rfl, rfl⟩
              go_wp2_with fail
              refine (HDy.out _).mono ?_
              rintro r w1 ⟨rfl, rfl⟩
              go_wp2_with fail
              go_ret
              rw [← HE.out]
              exact ⟨rfl, rfl⟩
      · have r1 : decide ((n : Int) < (s.size : Int)) = false := decide_eq_false (by omega)
        have r1n : decide (n < s.size) = false := decide_eq_false hlt
        have HE := Lib.hid ((rwGo_end (by rw [HL.out]; exact hlt)).symm.trans HGO.out)
        go_wp2_with fail
        go_ret
        rw [← HE.out]
        exact ⟨rfl, rfl⟩
theorem rupper_ok (s : ByteArray) (w : World) (hs : s.size ≤ 140737488355328) : Calls Tryz.prog 34 #[.string s] w fun e w' => e = .returned (.bool (isWd s && isUp (tAt (cods s) 0))) ∧ w = w' := by
  have HW := Lib.hid (fun w => rword_ok s w hs)
  by_cases h0 : s.size = 0
  · rw [wd_empty h0]
    have q1 : decide ((0 : Int) < (s.size : Int)) = false := decide_eq_false (by omega)
    have q1n : decide (0 < s.size) = false := decide_eq_false (by omega)
    clear HW
    go_enter Tryz.func34, Tryz.ntmps34
    go_wp2_with fail
    go_ret
    exact ⟨rfl, rfl⟩
  · have p0 : 0 < s.size := by omega
    have q1 : decide ((0 : Int) < (s.size : Int)) = true := decide_eq_true (by omega)
    have q1n : decide (0 < s.size) = true := decide_eq_true p0
    have q2 : (0 : Int) < (s.size : Int) := by omega
    have hws := wd_same s p0
    cases hw : isWd s with
    | true =>
      obtain ⟨hl, _, _⟩ := isWd_in hw
      rw [hw] at hws
      have hR : rWord (cods s) = (s.size : Int) := of_decide_eq_true hws.symm
      rw [hR] at HW
      obtain ⟨x, hx⟩ : ∃ x, tAt (cods s) 0 = x := ⟨_, rfl⟩
      have e1 : (s[0]'p0).toNat = x := (cods_at s 0 p0).trans hx
      rw [hx] at hl ⊢
      rw [isLt_iff] at hl
      have q3 : ((s.size : Int) == (s.size : Int)) = true := by simp
      by_cases hu : x < 97
      · rw [show isUp x = true from isUp_iff.2 (by omega)]
        have v1 : decide ((x : Int) < 97) = true := decide_eq_true (by omega)
        have v1n : decide (x < 97) = true := decide_eq_true (by omega)
        clear hl hu hx hR hws hw h0
        go_enter Tryz.func34, Tryz.ntmps34
        go_wp2_with fail
        refine (HW.out _).mono ?_
        rintro r w1 ⟨rfl, rfl⟩
        go_wp2_with fail
        go_ret
        exact ⟨rfl, rfl⟩
      · rw [show isUp x = false from Bool.eq_false_iff.2 fun h => by rw [isUp_iff] at h; omega]
        have v1 : decide ((x : Int) < 97) = false := decide_eq_false (by omega)
        have v1n : decide (x < 97) = false := decide_eq_false (by omega)
        clear hl hu hx hR hws hw h0
        go_enter Tryz.func34, Tryz.ntmps34
        go_wp2_with fail
        refine (HW.out _).mono ?_
        rintro r w1 ⟨rfl, rfl⟩
        go_wp2_with fail
        go_ret
        exact ⟨rfl, rfl⟩
    | false =>
      rw [hw] at hws
      have hR : ¬ rWord (cods s) = (s.size : Int) := of_decide_eq_false hws.symm
      have q3 : (rWord (cods s) == (s.size : Int)) = false := by simpa using hR
      have q4 : decide (rWord (cods s) = (s.size : Int)) = false := decide_eq_false hR
      generalize rWord (cods s) = Z at *
      clear hR hws hw h0
      go_enter Tryz.func34, Tryz.ntmps34
      go_wp2_with fail
      refine (HW.out _).mono ?_
      rintro r w1 ⟨rfl, rfl⟩
      go_wp2_with fail
      go_ret
      exact ⟨rfl, rfl⟩
theorem rlower_ok (s : ByteArray) (w : World) (hs : s.size ≤ 140737488355328) : Calls Tryz.prog 91 #[.string s] w fun e w' => e = .returned (.bool (isWd s && isLo (tAt (cods s) 0))) ∧ w = w' := by
  have HW := Lib.hid (fun w => rword_ok s w hs)
  by_cases h0 : s.size = 0
  · rw [wd_empty h0]
    have q1 : decide ((0 : Int) < (s.size : Int)) = false := decide_eq_false (by omega)
    have q1n : decide (0 < s.size) = false := decide_eq_false (by omega)
    clear HW
    go_enter Tryz.func91, Tryz.ntmps91
    go_wp2_with fail
    go_ret
    exact ⟨rfl, rfl⟩
  · have p0 : 0 < s.size := by omega
    have q1 : decide ((0 : Int) < (s.size : Int)) = true := decide_eq_true (by omega)
    have q1n : decide (0 < s.size) = true := decide_eq_true p0
    have q2 : (0 : Int) < (s.size : Int) := by omega
    have hws := wd_same s p0
    cases hw : isWd s with
    | true =>
      obtain ⟨hl, _, _⟩ := isWd_in hw
      rw [hw] at hws
      have hR : rWord (cods s) = (s.size : Int) := of_decide_eq_true hws.symm
      rw [hR] at HW
      obtain ⟨x, hx⟩ : ∃ x, tAt (cods s) 0 = x := ⟨_, rfl⟩
      have e1 : (s[0]'p0).toNat = x := (cods_at s 0 p0).trans hx
      rw [hx] at hl ⊢
      rw [isLt_iff] at hl
      have q3 : ((s.size : Int) == (s.size : Int)) = true := by simp
      by_cases hu : 97 ≤ x
      · rw [show isLo x = true from isLo_iff.2 (by omega)]
        have v1 : decide ((97 : Int) ≤ (x : Int)) = true := decide_eq_true (by omega)
        have v1n : decide (97 ≤ x) = true := decide_eq_true (by omega)
        clear hl hu hx hR hws hw h0
        go_enter Tryz.func91, Tryz.ntmps91
        go_wp2_with fail
        refine (HW.out _).mono ?_
        rintro r w1 ⟨rfl, rfl⟩
        go_wp2_with fail
        go_ret
        exact ⟨rfl, rfl⟩
      · rw [show isLo x = false from Bool.eq_false_iff.2 fun h => by rw [isLo_iff] at h; omega]
        have v1 : decide ((97 : Int) ≤ (x : Int)) = false := decide_eq_false (by omega)
        have v1n : decide (97 ≤ x) = false := decide_eq_false (by omega)
        clear hl hu hx hR hws hw h0
        go_enter Tryz.func91, Tryz.ntmps91
        go_wp2_with fail
        refine (HW.out _).mono ?_
        rintro r w1 ⟨rfl, rfl⟩
        go_wp2_with fail
        go_ret
        exact ⟨rfl, rfl⟩
    | false =>
      rw [hw] at hws
      have hR : ¬ rWord (cods s) = (s.size : Int) := of_decide_eq_false hws.symm
      have q3 : (rWord (cods s) == (s.size : Int)) = false := by simpa using hR
      have q4 : decide (rWord (cods s) = (s.size : Int)) = false := decide_eq_false hR
      generalize rWord (cods s) = Z at *
      clear hR hws hw h0
      go_enter Tryz.func91, Tryz.ntmps91
      go_wp2_with fail
      refine (HW.out _).mono ?_
      rintro r w1 ⟨rfl, rfl⟩
      go_wp2_with fail
      go_ret
      exact ⟨rfl, rfl⟩
end Go.Proofs.YtgmnojnalkhepaaGreatDoor
