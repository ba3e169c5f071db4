/-
  Unbounded integers and open types in plain words: no walk here.
-/
import Derived.Test.YtbpfggkpfaobhaaGreatLnM
namespace Go.Proofs.YtbpfggkpfaobhaaGreat
open Go.RowKit
set_option linter.unusedVariables false
set_option linter.unusedSimpArgs false
set_option maxRecDepth 100000

theorem lPut_nat (c : Nat) (al : Bool) (B : List Bool) : lErr c 0 (-1) = 0 ∧ lCnt c 0 (-1) = lfst c ∧ lMore c 0 (-1) = decide (16384 ≤ c) ∧ lBits al B c 0 (-1) = putF al B (lfst c) := by
  have he := lErr_ok (n := c) (lo := 0) (hi := -1) (by omega) (by omega)
  obtain ⟨p1, p2, p3⟩ := lPut_form he (by omega) al B
  rw [p1, p2, p3, Int.toNat_natCast]
  exact ⟨he, rfl, by rw [decide_eq_decide]; omega, rfl⟩

/-! ### one piece -/
def itemB (al : Bool) (B : List Bool) (l : List Nat) : List Bool := putF al B l.length ++ bitsOf l
theorem itemB_le (al : Bool) (B : List Bool) (l : List Nat) : (itemB al B l).length ≤ B.length + 23 + 8 * l.length := by
  unfold itemB
  have := putF_le al B l.length
  rw [List.length_append, bitsOf_length]
  omega
theorem putF_pre (al : Bool) (B : List Bool) (c : Nat) : ∃ S, putF al B c = B ++ S := by
  unfold putF
  cases al
  · exact ⟨_, rfl⟩
  · exact ⟨_, by rw [lead_true, padded_gap, List.append_assoc]⟩
theorem itemB_pre (al : Bool) (B : List Bool) (l : List Nat) : ∃ S, itemB al B l = B ++ S := by
  obtain ⟨S, hS⟩ := putF_pre al B l.length
  exact ⟨S ++ bitsOf l, by unfold itemB; rw [hS, List.append_assoc]⟩

/-! ### fragments -/
/-- the bits behind fragments of l -/
def opF (al : Bool) : Nat → List Bool → List Nat → List Bool
  | 0, B, l => itemB al B l
  | f + 1, B, l => if 16384 ≤ l.length then opF al f (itemB al B (l.take (lfst l.length))) (l.drop (lfst l.length)) else itemB al B l
def opB (al : Bool) (B : List Bool) (l : List Nat) : List Bool := opF al (l.length / 16384) B l
theorem lfst_pos {n : Nat} (h : 16384 ≤ n) : 16384 ≤ lfst n ∧ lfst n ≤ n ∧ lfst n ≤ 65536 := by
  obtain ⟨m, h1, h2, h3, h4⟩ := lfst_frag h
  have := lfst_le n
  omega
theorem opF_fuel (al : Bool) : ∀ (f g : Nat) (B : List Bool) (l : List Nat), l.length / 16384 ≤ f → l.length / 16384 ≤ g → opF al f B l = opF al g B l
  | 0, 0, B, l, _, _ => rfl
  | 0, g + 1, B, l, h, _ => by
    show itemB al B l = opF al (g + 1) B l
    unfold opF
    rw [if_neg (by omega)]
  | f + 1, 0, B, l, _, h => by
    show opF al (f + 1) B l = itemB al B l
    unfold opF
    rw [if_neg (by omega)]
  | f + 1, g + 1, B, l, h1, h2 => by
    unfold opF
    by_cases h : 16384 ≤ l.length
    · rw [if_pos h, if_pos h]
      have hp := lfst_pos h
      exact opF_fuel al f g _ _ (by rw [List.length_drop]; omega) (by rw [List.length_drop]; omega)
    · rw [if_neg h, if_neg h]
theorem opB_last {l : List Nat} (h : l.length < 16384) (al : Bool) (B : List Bool) : opB al B l = itemB al B l := by
  unfold opB
  rw [show l.length / 16384 = 0 by omega]
  rfl
theorem opB_more {l : List Nat} (h : 16384 ≤ l.length) (al : Bool) (B : List Bool) : opB al B l = opB al (itemB al B (l.take (lfst l.length))) (l.drop (lfst l.length)) := by
  unfold opB
  obtain ⟨f, hf⟩ : ∃ f, l.length / 16384 = f + 1 := ⟨l.length / 16384 - 1, by omega⟩
  rw [hf]
  show (if 16384 ≤ l.length then opF al f (itemB al B (l.take (lfst l.length))) (l.drop (lfst l.length)) else itemB al B l) = _
  rw [if_pos h]
  have hp := lfst_pos h
  exact opF_fuel al _ _ _ _ (by rw [List.length_drop]; omega) (Nat.le_refl _)
theorem take_len {l : List Nat} {c : Nat} (h : c ≤ l.length) : (l.take c).length = c := by rw [List.length_take]; omega
theorem opF_le (al : Bool) : ∀ (f : Nat) (B : List Bool) (l : List Nat), (opF al f B l).length ≤ B.length + 23 * (f + 1) + 8 * l.length
  | 0, B, l => by
    have := itemB_le al B l
    show (itemB al B l).length ≤ _
    omega
  | f + 1, B, l => by
    unfold opF
    split
    · rename_i h
      have h1 := opF_le al f (itemB al B (l.take (lfst l.length))) (l.drop (lfst l.length))
      have h2 := itemB_le al B (l.take (lfst l.length))
      have hp := lfst_pos h
      rw [take_len (by omega)] at h2
      rw [List.length_drop] at h1
      omega
    · have := itemB_le al B l
      omega
theorem opB_le (al : Bool) (B : List Bool) (l : List Nat) : (opB al B l).length ≤ B.length + 23 * (l.length / 16384 + 1) + 8 * l.length := opF_le al _ B l
theorem opF_pre (al : Bool) : ∀ (f : Nat) (B : List Bool) (l : List Nat), ∃ S, opF al f B l = B ++ S
  | 0, B, l => itemB_pre al B l
  | f + 1, B, l => by
    unfold opF
    split
    · obtain ⟨S, hS⟩ := opF_pre al f (itemB al B (l.take (lfst l.length))) (l.drop (lfst l.length))
      obtain ⟨T, hT⟩ := itemB_pre al B (l.take (lfst l.length))
      exact ⟨T ++ S, by rw [hS, hT, List.append_assoc]⟩
    · exact itemB_pre al B l
theorem opB_pre (al : Bool) (B : List Bool) (l : List Nat) : ∃ S, opB al B l = B ++ S := opF_pre al _ B l

/-! ### what reading tells -/
/-- an error, octets, and where the reader stands then -/
structure Ro where
  e : Int
  l : List Nat
  p : Nat
/-- an error, an integer, and where the reader stands then -/
structure Rs where
  e : Int
  v : Int
  p : Nat
theorem olst_len0 (L : List Nat) (p : Nat) (v : Nat) (h : oerr L p v = 0) : (olst L p v).length = v := by
  unfold olst
  rw [if_pos h, octetsAt_length, Int.toNat_natCast]
theorem olst_le (L : List Nat) (p : Nat) (v : Nat) : (olst L p v).length ≤ v := by
  by_cases h : oerr L p v = 0
  · rw [olst_len0 L p v h]; exact Nat.le_refl _
  · rw [olst_bad h]; exact Nat.zero_le _
theorem olst_lt (L : List Nat) (p : Nat) (v : Nat) (i : Nat) : (olst L p v).getD i 0 < 256 := by
  unfold olst
  split
  · rename_i h
    unfold oerr at h
    rw [if_neg (by omega)] at h
    split at h
    · cases h
    · rename_i h2
      rw [Int.toNat_natCast]
      by_cases hv : v = 0
      · subst hv
        simp [octetsAt]
      · exact octetsAt_lt L p v (by omega) i
  · simp
def rdTak (L : List Nat) (o : Rl) : Ro := if o.e = 0 then (if o.m = true then ⟨3, [], o.p⟩ else ⟨oerr L o.p o.v, olst L o.p o.v, opos L o.p o.v⟩) else ⟨o.e, [], o.p⟩
theorem rdTak_len (L : List Nat) (o : Rl) : (rdTak L o).l.length ≤ o.v := by
  unfold rdTak
  split
  · split
    · exact Nat.zero_le _
    · exact olst_le _ _ _
  · exact Nat.zero_le _
def semiR (t : Ro) (lo : Int) : Rs := if t.e = 0 then (if uerr t.l = 0 then (if 9223372036854775807 - lo < (uval t.l : Int) then ⟨11, 0, t.p⟩ else ⟨0, lo + uval t.l, t.p⟩) else ⟨uerr t.l, 0, t.p⟩) else ⟨t.e, 0, t.p⟩
def anyR (t : Ro) : Rs := if t.e = 0 then ⟨serr t.l, sval t.l, t.p⟩ else ⟨t.e, 0, t.p⟩
/-- fragments from bit p on: f: how many there may be; last: how many octets the one before had; acc: the octets so far -/
def roGo (al : Bool) (L : List Nat) : Nat → Nat → Nat → List Nat → Ro
  | 0, p, _, _ => ⟨0, [], p⟩
  | f + 1, p, last, acc =>
    if (rlF al L p).e ≠ 0 then ⟨(rlF al L p).e, [], (rlF al L p).p⟩
    else if (rlF al L p).m = true ∧ last < 65536 then ⟨3, [], (rlF al L p).p⟩
    else if 1048576 < acc.length + (rlF al L p).v then ⟨11, [], (rlF al L p).p⟩
    else if oerr L (rlF al L p).p (rlF al L p).v ≠ 0 then ⟨oerr L (rlF al L p).p (rlF al L p).v, [], opos L (rlF al L p).p (rlF al L p).v⟩
    else if (rlF al L p).m = true then roGo al L f (opos L (rlF al L p).p (rlF al L p).v) (rlF al L p).v (acc ++ olst L (rlF al L p).p (rlF al L p).v)
    else ⟨0, acc ++ olst L (rlF al L p).p (rlF al L p).v, opos L (rlF al L p).p (rlF al L p).v⟩
def rdOpen (al : Bool) (L : List Nat) (p : Nat) : Ro := roGo al L 65 p 65536 []
theorem rlOct_m (L : List Nat) (p o : Nat) (h : (rlOct L p o).m = true) : 16384 ≤ (rlOct L p o).v := by
  unfold rlOct at h ⊢
  by_cases h1 : o < 128
  · rw [if_pos h1] at h; cases h
  rw [if_neg h1] at h ⊢
  by_cases h2 : o < 192
  · rw [if_pos h2] at h
    rw [rlSec_m] at h; cases h
  rw [if_neg h2] at h ⊢
  by_cases h3 : o < 193 ∨ 196 < o
  · rw [if_pos h3] at h; cases h
  rw [if_neg h3]
  show 16384 ≤ 16384 * (o - 192)
  omega
theorem rlPl_m (L : List Nat) (p : Nat) (h : (rlPl L p).m = true) : 16384 ≤ (rlPl L p).v := by
  unfold rlPl at h ⊢
  split
  · rename_i h1
    rw [if_pos h1] at h
    exact rlOct_m _ _ _ h
  · rename_i h1
    rw [if_neg h1] at h; cases h
theorem rlF_m (al : Bool) (L : List Nat) (p : Nat) (h : (rlF al L p).m = true) : 16384 ≤ (rlF al L p).v := by
  unfold rlF at h ⊢
  cases al with
  | false => exact rlPl_m _ _ h
  | true =>
    rw [if_pos rfl] at h ⊢
    split
    · rename_i h1
      rw [if_pos h1] at h
      exact rlPl_m _ _ h
    · rename_i h1
      rw [if_neg h1] at h; cases h

/-! ### there and back -/
theorem item_has {L : List Nat} {al : Bool} {B : List Bool} {l : List Nat} (h : ∃ T, bitsOf L = itemB al B l ++ T) (hb : ∀ i, l.getD i 0 < 256) (hc : l.length < 16384 ∨ ∃ m, 1 ≤ m ∧ m ≤ 4 ∧ l.length = 16384 * m) :
    rlF al L B.length = ⟨0, l.length, decide (16384 ≤ l.length), (putF al B l.length).length⟩ ∧ oerr L (putF al B l.length).length l.length = 0 ∧ olst L (putF al B l.length).length l.length = l ∧ opos L (putF al B l.length).length l.length = (itemB al B l).length := by
  obtain ⟨T, hT⟩ := h
  unfold itemB at hT ⊢
  have h1 := putF_has (L := L) (al := al) (B := B) (c := l.length) ⟨bitsOf l ++ T, by rw [hT, List.append_assoc]⟩ hc
  obtain ⟨h2, h3, h4⟩ := octs_has (L := L) (A := putF al B l.length) (l := l) ⟨T, hT⟩ hb _ l.length rfl rfl
  exact ⟨h1, h2, h3, by rw [h4, List.length_append, bitsOf_length]⟩
theorem take_back {L : List Nat} {al : Bool} {B : List Bool} {l : List Nat} (h : ∃ T, bitsOf L = itemB al B l ++ T) (hb : ∀ i, l.getD i 0 < 256) (hc : l.length < 16384) :
    rdTak L (rlF al L B.length) = ⟨0, l, (itemB al B l).length⟩ := by
  obtain ⟨h1, h2, h3, h4⟩ := item_has h hb (.inl hc)
  rw [h1]
  unfold rdTak
  rw [if_pos rfl, if_neg (by simp; omega)]
  show Ro.mk (oerr L (putF al B l.length).length l.length) (olst L (putF al B l.length).length l.length) (opos L (putF al B l.length).length l.length) = _
  rw [h2, h3, h4]
theorem getD_take {l : List Nat} (h : ∀ i, l.getD i 0 < 256) (c : Nat) (i : Nat) : (l.take c).getD i 0 < 256 := by
  have := h i
  rw [List.getD_eq_getElem?_getD, List.getElem?_take]
  split
  · rwa [List.getD_eq_getElem?_getD] at this
  · simp
theorem getD_drop {l : List Nat} (h : ∀ i, l.getD i 0 < 256) (c : Nat) (i : Nat) : (l.drop c).getD i 0 < 256 := by
  have := h (c + i)
  rw [List.getD_eq_getElem?_getD, List.getElem?_drop]
  rwa [List.getD_eq_getElem?_getD] at this
theorem open_back (al : Bool) (L : List Nat) : ∀ (f : Nat) (B : List Bool) (l acc : List Nat) (last : Nat), (∃ T, bitsOf L = opB al B l ++ T) → (∀ i, l.getD i 0 < 256) → acc.length + l.length ≤ 1048576 → l.length / 16384 < f → (16384 ≤ l.length → 65536 ≤ last) →
    roGo al L f B.length last acc = ⟨0, acc ++ l, (opB al B l).length⟩
  | 0, _, _, _, _, _, _, _, hf, _ => by omega
  | f + 1, B, l, acc, last, h, hb, ha, hf, hl => by
    unfold roGo
    by_cases hm : 16384 ≤ l.length
    · rw [opB_more hm] at h ⊢
      have hp := lfst_pos hm
      have ht := take_len (l := l) (c := lfst l.length) hp.2.1
      have hpre : ∃ T, bitsOf L = itemB al B (l.take (lfst l.length)) ++ T := by
        obtain ⟨T, hT⟩ := h
        obtain ⟨S, hS⟩ := opB_pre al (itemB al B (l.take (lfst l.length))) (l.drop (lfst l.length))
        exact ⟨S ++ T, by rw [hT, hS, List.append_assoc]⟩
      obtain ⟨h1, h2, h3, h4⟩ := item_has hpre (getD_take hb _) (by rw [ht]; exact lfst_form _)
      rw [ht] at h1 h2 h3 h4
      rw [h1]
      rw [decide_eq_true hp.1]
      have hla := hl hm
      rw [if_neg (by simp), if_neg (by simp; omega), if_neg (by simp only; omega), if_neg (by simp only; rw [h2]; simp), if_pos rfl]
      simp only
      rw [h3, h4]
      have hdl := List.length_drop (l := l) (i := lfst l.length)
      have hfr := lfst_frag hm
      rw [open_back al L f _ _ _ _ h (getD_drop hb _) (by rw [List.length_append, ht, hdl]; omega) (by rw [hdl]; omega) (by
        rw [hdl]
        intro h5
        obtain ⟨m, m1, m2, m3, m4⟩ := hfr
        omega), List.append_assoc, List.take_append_drop]
    · rw [opB_last (by omega)] at h ⊢
      obtain ⟨h1, h2, h3, h4⟩ := item_has h hb (.inl (by omega))
      rw [h1, decide_eq_false hm]
      rw [if_neg (by simp), if_neg (by simp), if_neg (by simp only; omega), if_neg (by simp only; rw [h2]; simp), if_neg (by simp)]
      simp only
      rw [h3, h4]
theorem rdOpen_back (al : Bool) (L : List Nat) (B : List Bool) (l : List Nat) (h : ∃ T, bitsOf L = opB al B l ++ T) (hb : ∀ i, l.getD i 0 < 256) (ha : l.length ≤ 1048575) : rdOpen al L B.length = ⟨0, l, (opB al B l).length⟩ := by
  unfold rdOpen
  rw [open_back al L 65 B l [] 65536 h hb (by simp; omega) (by omega) (by omega)]
  rfl
end Go.Proofs.YtbpfggkpfaobhaaGreat
