/-
  Strings in plain words: their units, what they are written as, what reading such bits tells; the numbers of characters: no walk here.
-/
import Derived.Test.YtbpfggkpfaobhaaGreatOpM
namespace Go.Proofs.YtbpfggkpfaobhaaGreat
open Go.RowKit
set_option linter.unusedVariables false
set_option linter.unusedSimpArgs false
set_option maxRecDepth 100000

/-! ### units -/
def ubits (k : Nat) (l : List Nat) : List Bool := l.flatMap fun o => nb o k
theorem ubits_8 (l : List Nat) : ubits 8 l = bitsOf l := rfl
theorem ubits_append (k : Nat) (a b : List Nat) : ubits k (a ++ b) = ubits k a ++ ubits k b := by simp [ubits]
theorem ubits_length (k : Nat) (l : List Nat) : (ubits k l).length = l.length * k := by
  induction l with
  | nil => simp [ubits]
  | cons a l ih => simp only [ubits, List.flatMap_cons, List.length_append, nb_length, List.length_cons, Nat.add_mul, Nat.one_mul] at *; omega
theorem ubits_take_succ (k : Nat) (l : List Nat) (i : Nat) (h : i < l.length) : ubits k (l.take (i + 1)) = ubits k (l.take i) ++ nb (l.getD i 0) k := by
  rw [List.take_succ_eq_append_getElem h, ubits_append]
  simp [ubits, List.getD_eq_getElem?_getD, h]

/-! ### what is written -/
/-- are units behind a length not aligned? -/
def near (tx : Bool) (k : Nat) (hi : Int) : Bool := tx && decide (0 ≤ hi ∧ hi ≤ 65535 ∧ hi * k < 16)
def fixd (lo hi : Int) : Bool := decide (lo = hi ∧ hi ≤ 65535)
theorem fixd_yes {lo hi : Int} (h : lo = hi ∧ hi ≤ 65535) : fixd lo hi = true := decide_eq_true h
theorem fixd_no {lo hi : Int} (h : ¬ (lo = hi ∧ hi ≤ 65535)) : fixd lo hi = false := decide_eq_false h
/-- the errors of n units -/
def sE (n : Nat) (lo hi : Int) : Int := if lBad lo hi then 1 else if (n : Int) < lo ∨ (0 ≤ hi ∧ hi < (n : Int)) then 4 else if 1048576 < n then 11 else 0
theorem sE_bad {n : Nat} {lo hi : Int} (h : lBad lo hi) : sE n lo hi = 1 := if_pos h
theorem sE_con {n : Nat} {lo hi : Int} (h : ¬ lBad lo hi) (h2 : (n : Int) < lo ∨ (0 ≤ hi ∧ hi < (n : Int))) : sE n lo hi = 4 := by unfold sE; rw [if_neg h, if_pos h2]
theorem sE_large {n : Nat} {lo hi : Int} (h : ¬ lBad lo hi) (h2 : ¬ ((n : Int) < lo ∨ (0 ≤ hi ∧ hi < (n : Int)))) (h3 : 1048576 < n) : sE n lo hi = 11 := by unfold sE; rw [if_neg h, if_neg h2, if_pos h3]
theorem sE_ok {n : Nat} {lo hi : Int} (h : ¬ lBad lo hi) (h2 : ¬ ((n : Int) < lo ∨ (0 ≤ hi ∧ hi < (n : Int)))) (h3 : n ≤ 1048576) : sE n lo hi = 0 := by unfold sE; rw [if_neg h, if_neg h2, if_neg (by omega)]
theorem sE_lErr {n : Nat} {lo hi : Int} (h : sE n lo hi = 0) : lErr n lo hi = 0 := by
  unfold sE at h
  split at h
  · cases h
  · rename_i hb
    unfold lBad at hb
    split at h
    · cases h
    · rename_i h2
      exact lErr_ok (by omega) h2
/-- are n units aligned? -/
def algn (al tx : Bool) (k : Nat) (n : Nat) (lo hi : Int) : Bool := if fixd lo hi = true then al && decide (16 < n * k) else al && decide (n ≠ 0) && !near tx k hi
/-- the bits behind which the units stand -/
def stP (al tx : Bool) (k : Nat) (B : List Bool) (n : Nat) (lo hi : Int) : List Bool := lead (algn al tx k n lo hi) (if fixd lo hi = true then B else lBits al B n lo hi)
theorem stP_fix {al tx : Bool} {k : Nat} {B : List Bool} {n : Nat} {lo hi : Int} (h : lo = hi ∧ hi ≤ 65535) : stP al tx k B n lo hi = lead (algn al tx k n lo hi) B := by unfold stP; rw [if_pos (fixd_yes h)]
theorem stP_var {al tx : Bool} {k : Nat} {B : List Bool} {n : Nat} {lo hi : Int} (h : ¬ (lo = hi ∧ hi ≤ 65535)) : stP al tx k B n lo hi = lead (algn al tx k n lo hi) (lBits al B n lo hi) := by unfold stP; rw [if_neg (by rw [fixd_no h]; simp)]
def stB (al tx : Bool) (k : Nat) (B : List Bool) (lo hi : Int) (l : List Nat) : List Bool := if sE l.length lo hi = 0 then stP al tx k B l.length lo hi ++ ubits k l else B
theorem stB_ok {al tx : Bool} {k : Nat} {B : List Bool} {lo hi : Int} {l : List Nat} (h : sE l.length lo hi = 0) : stB al tx k B lo hi l = stP al tx k B l.length lo hi ++ ubits k l := if_pos h
theorem stB_bad {al tx : Bool} {k : Nat} {B : List Bool} {lo hi : Int} {l : List Nat} (h : sE l.length lo hi ≠ 0) : stB al tx k B lo hi l = B := if_neg h
theorem stP_le (al tx : Bool) (k : Nat) (B : List Bool) (n : Nat) (lo hi : Int) (b1 : (n : Int) ≤ 9223372036854775807) (b2 : -9223372036854775808 ≤ lo ∧ lo ≤ 9223372036854775807) (b3 : -9223372036854775808 ≤ hi ∧ hi ≤ 9223372036854775807) : (stP al tx k B n lo hi).length ≤ B.length + 107 := by
  unfold stP
  split
  · have := lead_le (algn al tx k n lo hi) B
    omega
  · have h1 := lead_le (algn al tx k n lo hi) (lBits al B n lo hi)
    have h2 := lBits_le al B n lo hi ⟨by omega, b1⟩ b2 b3
    omega

/-- fewer than 16384 units: one length -/
theorem one_len {n : Nat} {lo hi : Int} (h : lErr n lo hi = 0) (hn : n < 16384) : lCnt n lo hi = n ∧ lMore n lo hi = false := by
  by_cases hh : 0 ≤ hi ∧ hi ≤ 65535
  · obtain ⟨p1, p2, p3⟩ := lPut_nar h hh false []
    exact ⟨p2, p3⟩
  · obtain ⟨p1, p2, p3⟩ := lPut_form h hh false []
    rw [p2, p3, Int.toNat_natCast, lfst_small hn]
    exact ⟨rfl, decide_eq_false (by omega)⟩

/-! ### what reading tells -/
/-- n units of k bits from bit p on -/
def uGo (L : List Nat) (k : Nat) : Nat → Nat → List Nat → Ro
  | 0, p, acc => ⟨0, acc, p⟩
  | n + 1, p, acc => if gerr L p k = 0 then uGo L k n (gpos L p k) (acc ++ [gval L p k]) else ⟨gerr L p k, [], gpos L p k⟩
/-- n octets from bit p on -/
def oGo (L : List Nat) (n p : Nat) : Ro := ⟨oerr L p n, olst L p n, opos L p n⟩
def rdPart (al : Bool) (U : Nat → Nat → Ro) (L : List Nat) (n p : Nat) : Ro := if al = true then (if aerr L p = 0 then U n (apos L p) else ⟨aerr L p, [], apos L p⟩) else U n p
/-- the first length -/
def gl (al : Bool) (L : List Nat) (p : Nat) (lo hi : Int) : Rl := if lNar hi = true then ⟨gE al L p lo hi, (gN al L p lo hi).toNat, false, gP al L p lo hi⟩ else rlF al L p
/-- the units behind it -/
def glU (al tx : Bool) (k : Nat) (U : Nat → Nat → Ro) (L : List Nat) (p : Nat) (lo hi : Int) : Ro := rdPart (al && decide ((gl al L p lo hi).v ≠ 0) && !near tx k hi) U L (gl al L p lo hi).v (gl al L p lo hi).p
def rdFin (lo hi : Int) (o : Ro) : Ro := if o.e = 0 then (if (o.l.length : Int) < lo ∨ (0 ≤ hi ∧ hi < (o.l.length : Int)) then ⟨4, [], o.p⟩ else ⟨0, o.l, o.p⟩) else ⟨o.e, [], o.p⟩
def rdS (al tx : Bool) (k : Nat) (U : Nat → Nat → Ro) (L : List Nat) (p : Nat) (lo hi : Int) : Ro :=
  if lBad lo hi then ⟨1, [], p⟩
  else if fixd lo hi = true then rdPart (al && decide (16 < lo.toNat * k)) U L lo.toNat p
  else if (gl al L p lo hi).e ≠ 0 then ⟨(gl al L p lo hi).e, [], (gl al L p lo hi).p⟩
  else rdFin lo hi (glU al tx k U L p lo hi)
/-- two readings that tell the same -/
def Same (a b : Ro) : Prop := a.e = b.e ∧ a.l = b.l ∧ (a.e = 0 → a.p = b.p)
theorem Same.refl (a : Ro) : Same a a := ⟨rfl, rfl, fun _ => rfl⟩
theorem same_part {al : Bool} {U V : Nat → Nat → Ro} {L : List Nat} {n p : Nat} (h : ∀ q, q ≤ 8 * L.length → Same (U n q) (V n q)) (hp : p ≤ 8 * L.length) (ha : apos L p ≤ 8 * L.length) : Same (rdPart al U L n p) (rdPart al V L n p) := by
  unfold rdPart
  split
  · split
    · exact h _ ha
    · exact .refl _
  · exact h _ hp
theorem same_fin {lo hi : Int} {a b : Ro} (h : Same a b) : Same (rdFin lo hi a) (rdFin lo hi b) := by
  obtain ⟨h1, h2, h3⟩ := h
  unfold rdFin
  by_cases h0 : a.e = 0
  · rw [if_pos h0, if_pos (show b.e = 0 from h1.symm.trans h0), h2, h3 h0]
    exact .refl _
  · rw [if_neg h0, if_neg (by rw [← h1]; exact h0), h1]
    exact ⟨rfl, rfl, fun h => absurd (h1.trans h) h0⟩

/-! ### numbers of characters -/
def sp (l : List Nat) : List Nat := if l = [] then List.range 128 else l
def isAl (l : List Nat) : Bool := decide (∀ i, i < l.length → l.getD i 0 < 128 ∧ (0 < i → l.getD (i - 1) 0 < l.getD i 0))
def wdA (w : Nat) : Nat := if w ≤ 2 then w else if w ≤ 4 then 4 else 8
def wdT (l : List Nat) (al : Bool) : Nat := if isAl l = true then (if al = true then wdA (wid ((sp l).length - 1)) else wid ((sp l).length - 1)) else 0
def numOf (l : List Nat) (k c : Nat) : Int := if c ∈ sp l then (if 2 ^ k ≤ (sp l).getD ((sp l).length - 1) 0 then ((sp l).idxOf c : Nat) else (c : Int)) else -1
/-- the last of j characters with the number u -/
def chGo (f : Nat → Int) : Nat → Nat → Int
  | 0, _ => -1
  | j + 1, u => if f j = (u : Int) then (j : Int) else chGo f j u
theorem isAl_at {l : List Nat} (h : isAl l = true) (i : Nat) (hi : i < l.length) : l.getD i 0 < 128 ∧ (0 < i → l.getD (i - 1) 0 < l.getD i 0) := of_decide_eq_true h i hi
theorem isAl_nil : isAl [] = true := by decide
theorem isAl_mono {l : List Nat} (h : isAl l = true) : ∀ (j i : Nat), i < j → j < l.length → l.getD i 0 < l.getD j 0
  | 0, i, hij, _ => by omega
  | j + 1, i, hij, hj => by
    have h1 := (isAl_at h (j + 1) hj).2 (by omega)
    rw [Nat.add_sub_cancel] at h1
    by_cases e : i = j
    · subst e; exact h1
    · have := isAl_mono h j i (by omega) (by omega)
      omega
theorem isAl_ge {l : List Nat} (h : isAl l = true) : ∀ (i : Nat), i < l.length → i ≤ l.getD i 0
  | 0, _ => Nat.zero_le _
  | i + 1, hi => by
    have h1 := isAl_mono h (i + 1) i (by omega) hi
    have h2 := isAl_ge h i (by omega)
    omega
theorem range_getD (n i : Nat) (h : i < n) : (List.range n).getD i 0 = i := by
  rw [List.getD_eq_getElem?_getD, List.getElem?_range h]; rfl
theorem sp_al {l : List Nat} (h : isAl l = true) : isAl (sp l) = true := by
  unfold sp
  split
  · decide
  · exact h
theorem al_len {l : List Nat} (h : isAl l = true) : l.length ≤ 128 := by
  by_cases h0 : l.length = 0
  · omega
  · have h1 := isAl_ge h (l.length - 1) (by omega)
    have h2 := (isAl_at h (l.length - 1) (by omega)).1
    omega
theorem sp_pos (l : List Nat) : 0 < (sp l).length := by
  unfold sp
  split
  · simp
  · rename_i h
    exact List.length_pos_iff.2 h
theorem widA7 {l : List Nat} (h : isAl l = true) : wid ((sp l).length - 1) ≤ 7 := wid_le _ 7 (by omega) (by have := al_len (sp_al h); omega)
theorem wdA_le (w : Nat) (h : w ≤ 8) : w ≤ wdA w ∧ wdA w ≤ 8 := by
  unfold wdA
  split
  · omega
  · split <;> omega
theorem wdT_le (l : List Nat) (al : Bool) : wdT l al ≤ 8 := by
  unfold wdT
  split
  · rename_i h
    have h7 := widA7 h
    split
    · exact (wdA_le _ (by omega)).2
    · omega
  · omega
theorem wdT_len {l : List Nat} (h : isAl l = true) (al : Bool) : (sp l).length ≤ 2 ^ wdT l al := by
  have h7 := widA7 h
  have hl := al_len (sp_al h)
  have h1 := wid_lt ((sp l).length - 1) (by omega)
  have h2 : wid ((sp l).length - 1) ≤ wdT l al := by
    unfold wdT
    rw [if_pos h]
    split
    · exact (wdA_le _ (by omega)).1
    · exact Nat.le_refl _
  have h3 := pow_le h2
  omega
theorem mem_idx {l : List Nat} {c : Nat} (h : c ∈ l) : l.idxOf c < l.length ∧ l.getD (l.idxOf c) 0 = c := by
  have h1 := List.idxOf_lt_length_of_mem h
  refine ⟨h1, ?_⟩
  rw [List.getD_eq_getElem?_getD, List.getElem?_eq_getElem h1]
  simp
theorem al_last {l : List Nat} (h : isAl l = true) {c : Nat} (hc : c ∈ l) : c ≤ l.getD (l.length - 1) 0 := by
  obtain ⟨h1, h2⟩ := mem_idx hc
  by_cases e : l.idxOf c = l.length - 1
  · rw [← e, h2]; exact Nat.le_refl _
  · have := isAl_mono h (l.length - 1) (l.idxOf c) (by omega) (by omega)
    rw [h2] at this
    omega
theorem al_mem_lt {l : List Nat} (h : isAl l = true) {c : Nat} (hc : c ∈ l) : c < 128 := by
  obtain ⟨h1, h2⟩ := mem_idx hc
  have := (isAl_at h _ h1).1
  omega
theorem nmo_neg {l : List Nat} {k c : Nat} (h : ¬ c ∈ sp l) : numOf l k c = -1 := if_neg h
theorem nmo_mem {l : List Nat} {k c : Nat} (h : numOf l k c ≠ -1) : c ∈ sp l := Classical.byContradiction fun h1 => h (nmo_neg h1)
/-- a number fits -/
theorem nmo_fits {l : List Nat} (h : isAl l = true) (al : Bool) {c : Nat} (hc : c ∈ sp l) : ∃ n : Nat, numOf l (wdT l al) c = n ∧ n < 2 ^ wdT l al ∧ n < 128 := by
  have hs := sp_al h
  obtain ⟨h1, h2⟩ := mem_idx hc
  have hl := wdT_len h al
  have h128 := al_len hs
  have hla := al_last hs hc
  have hc1 := al_mem_lt hs hc
  unfold numOf
  rw [if_pos hc]
  split
  · exact ⟨_, rfl, by omega, by omega⟩
  · exact ⟨_, rfl, by omega, by omega⟩
theorem nmo_inj {l : List Nat} {k c d : Nat} (hc : c ∈ sp l) (h : numOf l k c = numOf l k d) : c = d := by
  have hd : d ∈ sp l := by
    refine nmo_mem (k := k) ?_
    rw [← h]
    unfold numOf
    rw [if_pos hc]
    split <;> omega
  unfold numOf at h
  rw [if_pos hc, if_pos hd] at h
  split at h
  · have h1 := (mem_idx hc).2
    have h2 := (mem_idx hd).2
    rw [← h1, ← h2]
    congr 1
    omega
  · omega
theorem nmo_lt {l : List Nat} (h : isAl l = true) {k c : Nat} (hc : numOf l k c ≠ -1) : c < 128 := al_mem_lt (sp_al h) (nmo_mem hc)
theorem chGo_none {f : Nat → Int} {u : Nat} : ∀ (j : Nat), (∀ c, c < j → f c ≠ u) → chGo f j u = -1
  | 0, _ => rfl
  | j + 1, h => by
    unfold chGo
    rw [if_neg (h j (by omega))]
    exact chGo_none j fun c hc => h c (by omega)
theorem chGo_some {f : Nat → Int} {u c : Nat} (hc : f c = u) (hi : ∀ d, f d = u → d = c) : ∀ (j : Nat), c < j → chGo f j u = c
  | 0, h => by omega
  | j + 1, h => by
    unfold chGo
    by_cases e : f j = (u : Int)
    · rw [if_pos e, hi j e]
    · rw [if_neg e]
      by_cases e2 : c = j
      · subst e2; exact absurd hc e
      · exact chGo_some hc hi j (by omega)
/-- the character with a number -/
def chOf (l : List Nat) (k u : Nat) : Int := chGo (numOf l k) 256 u
theorem chOf_num {l : List Nat} (h : isAl l = true) {k c u : Nat} (hc : c ∈ sp l) (hu : numOf l k c = u) : chOf l k u = c :=
  chGo_some hu (fun d hd => (nmo_inj hc (hu.trans hd.symm)).symm) 256 (by have := al_mem_lt (sp_al h) hc; omega)
theorem chOf_cases {l : List Nat} (h : isAl l = true) (k u : Nat) : (chOf l k u = -1 ∧ ∀ c, numOf l k c ≠ u) ∨ ∃ c : Nat, chOf l k u = c ∧ numOf l k c = u ∧ c < 128 ∧ ∀ d, numOf l k d = u → d = c := by
  by_cases e : ∃ c, numOf l k c = u
  · obtain ⟨c, hc⟩ := e
    have hm : c ∈ sp l := nmo_mem (k := k) (by rw [hc]; omega)
    exact .inr ⟨c, chOf_num h hm hc, hc, al_mem_lt (sp_al h) hm, fun d hd => (nmo_inj hm (hc.trans hd.symm)).symm⟩
  · exact .inl ⟨chGo_none 256 fun c _ hc => e ⟨c, hc⟩, fun c hc => e ⟨c, hc⟩⟩
end Go.Proofs.YtbpfggkpfaobhaaGreat
