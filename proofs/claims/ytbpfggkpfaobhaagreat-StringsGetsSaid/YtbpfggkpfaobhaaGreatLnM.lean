/-
  What a length is written as, bit by bit, and what reading such bits tells; numbers that are small as a rule (no program is run here).
-/
import Derived.Test.YtbpfggkpfaobhaaGreatWhM
namespace Go.Proofs.YtbpfggkpfaobhaaGreat
open Go.RowKit
set_option linter.unusedVariables false
set_option linter.unusedSimpArgs false
set_option maxRecDepth 100000

/-- the bits behind which a form stands -/
def lead (al : Bool) (B : List Bool) : List Bool := if al = true then padded B else B
theorem lead_true (B : List Bool) : lead true B = padded B := rfl
theorem lead_false (B : List Bool) : lead false B = B := rfl
theorem lead_le (al : Bool) (B : List Bool) : B.length ≤ (lead al B).length ∧ (lead al B).length ≤ B.length + 7 := by
  cases al
  · rw [lead_false]; omega
  · exact padded_le B
/-- how many of n units follow the first length -/
def lfst (n : Nat) : Nat := if n < 16384 then n else 16384 * min 4 (n / 16384)
theorem lfst_small {n : Nat} (h : n < 16384) : lfst n = n := if_pos h
theorem lfst_big {n : Nat} (h : 16384 ≤ n) : lfst n = 16384 * min 4 (n / 16384) := if_neg (by omega)
theorem lfst_le (n : Nat) : lfst n ≤ n ∧ lfst n ≤ 65536 := by
  unfold lfst
  split
  · omega
  · have : min 4 (n / 16384) ≤ 4 := Nat.min_le_left _ _
    have : min 4 (n / 16384) ≤ n / 16384 := Nat.min_le_right _ _
    omega
theorem lfst_frag {n : Nat} (h : 16384 ≤ n) : ∃ m, 1 ≤ m ∧ m ≤ 4 ∧ lfst n = 16384 * m ∧ m = min 4 (n / 16384) := by
  refine ⟨min 4 (n / 16384), ?_, Nat.min_le_left _ _, lfst_big h, rfl⟩
  have : 1 ≤ n / 16384 := by omega
  omega
/-- the bits of a form -/
def formB (c : Nat) : List Bool := if c < 128 then nb c 8 else if c < 16384 then nb (32768 + c) 16 else nb (192 + c / 16384) 8
theorem formB_one {c : Nat} (h : c < 128) : formB c = nb c 8 := if_pos h
theorem formB_two {c : Nat} (h1 : 128 ≤ c) (h2 : c < 16384) : formB c = nb (32768 + c) 16 := by
  unfold formB
  rw [if_neg (by omega), if_pos h2]
theorem formB_frag {c : Nat} (h : 16384 ≤ c) : formB c = nb (192 + c / 16384) 8 := by
  unfold formB
  rw [if_neg (by omega), if_neg (by omega)]
theorem formB_len (c : Nat) : (formB c).length = 8 ∨ (formB c).length = 16 := by
  unfold formB
  split
  · exact .inl (nb_length _ _)
  · split
    · exact .inr (nb_length _ _)
    · exact .inl (nb_length _ _)
theorem nb_10 {c : Nat} (h : c < 16384) : [true, false] ++ nb c 14 = nb (32768 + c) 16 := by
  rw [nb_split (32768 + c) 16 14 (by omega), ← nb_mod (32768 + c) 14]
  have h1 : (32768 + c) >>> 14 = 2 := by rw [Nat.shiftRight_eq_div_pow]; omega
  have h2 : (32768 + c) % 2 ^ 14 = c := by omega
  rw [h1, h2]
  rfl
theorem nb_11 {m : Nat} (h : m < 64) : [true, true] ++ nb m 6 = nb (192 + m) 8 := by
  rw [nb_split (192 + m) 8 6 (by omega), ← nb_mod (192 + m) 6]
  have h1 : (192 + m) >>> 6 = 3 := by rw [Nat.shiftRight_eq_div_pow]; omega
  have h2 : (192 + m) % 2 ^ 6 = m := by omega
  rw [h1, h2]
  rfl
theorem nb_0 {m : Nat} (h : m < 64) : [false] ++ nb m 6 = nb m 7 := by
  rw [nb_split m 7 6 (by omega)]
  have h1 : m >>> 6 = 0 := by rw [Nat.shiftRight_eq_div_pow]; omega
  rw [h1]
  rfl
def putF (al : Bool) (B : List Bool) (c : Nat) : List Bool := lead al B ++ formB c
theorem putF_le (al : Bool) (B : List Bool) (c : Nat) : (putF al B c).length ≤ B.length + 23 := by
  have h1 := lead_le al B
  have h2 := formB_len c
  unfold putF
  rw [List.length_append]
  omega
/-- the errors, the bits and the answers of Put -/
def lErr (n lo hi : Int) : Int := if lo < 0 ∨ (0 ≤ hi ∧ hi < lo) ∨ n < 0 then 1 else if n < lo ∨ (0 ≤ hi ∧ hi < n) then 4 else 0
def lNar (hi : Int) : Bool := decide (0 ≤ hi ∧ hi ≤ 65535)
theorem lNar_yes {hi : Int} (h : 0 ≤ hi ∧ hi ≤ 65535) : lNar hi = true := decide_eq_true h
theorem lNar_no {hi : Int} (h : ¬ (0 ≤ hi ∧ hi ≤ 65535)) : lNar hi = false := decide_eq_false h
def lBits (al : Bool) (B : List Bool) (n lo hi : Int) : List Bool := if lErr n lo hi = 0 then (if lNar hi = true then wBits al B n lo hi else putF al B (lfst n.toNat)) else B
def lCnt (n lo hi : Int) : Int := if lErr n lo hi = 0 then (if lNar hi = true then n else lfst n.toNat) else 0
def lMore (n lo hi : Int) : Bool := if lErr n lo hi = 0 then (if lNar hi = true then false else decide (16384 ≤ n)) else false
theorem lErr_arg {n lo hi : Int} (h : lo < 0 ∨ (0 ≤ hi ∧ hi < lo) ∨ n < 0) : lErr n lo hi = 1 := if_pos h
theorem lErr_con {n lo hi : Int} (h : ¬ (lo < 0 ∨ (0 ≤ hi ∧ hi < lo) ∨ n < 0)) (h2 : n < lo ∨ (0 ≤ hi ∧ hi < n)) : lErr n lo hi = 4 := by unfold lErr; rw [if_neg h, if_pos h2]
theorem lErr_ok {n lo hi : Int} (h : ¬ (lo < 0 ∨ (0 ≤ hi ∧ hi < lo) ∨ n < 0)) (h2 : ¬ (n < lo ∨ (0 ≤ hi ∧ hi < n))) : lErr n lo hi = 0 := by unfold lErr; rw [if_neg h, if_neg h2]
theorem lErr_zero {n lo hi : Int} (h : lErr n lo hi = 0) : 0 ≤ lo ∧ lo ≤ n ∧ (hi < 0 ∨ n ≤ hi) := by
  unfold lErr at h
  split at h
  · cases h
  · split at h
    · cases h
    · omega
theorem lPut_bad {n lo hi : Int} (h : lErr n lo hi ≠ 0) (al : Bool) (B : List Bool) : lBits al B n lo hi = B ∧ lCnt n lo hi = 0 ∧ lMore n lo hi = false := ⟨if_neg h, if_neg h, if_neg h⟩
theorem lPut_nar {n lo hi : Int} (h : lErr n lo hi = 0) (hh : 0 ≤ hi ∧ hi ≤ 65535) (al : Bool) (B : List Bool) : lBits al B n lo hi = wBits al B n lo hi ∧ lCnt n lo hi = n ∧ lMore n lo hi = false := by
  have := lNar_yes hh
  unfold lBits lCnt lMore
  rw [if_pos h, if_pos h, if_pos h, if_pos this, if_pos this, if_pos this]
  exact ⟨rfl, rfl, rfl⟩
theorem lPut_form {n lo hi : Int} (h : lErr n lo hi = 0) (hh : ¬ (0 ≤ hi ∧ hi ≤ 65535)) (al : Bool) (B : List Bool) : lBits al B n lo hi = putF al B (lfst n.toNat) ∧ lCnt n lo hi = lfst n.toNat ∧ lMore n lo hi = decide (16384 ≤ n) := by
  have := lNar_no hh
  unfold lBits lCnt lMore
  rw [if_pos h, if_pos h, if_pos h, this]
  exact ⟨rfl, rfl, rfl⟩
theorem lPut_open (c : Nat) (h : c < 128) (al : Bool) (B : List Bool) : lErr c 0 (-1) = 0 ∧ lCnt c 0 (-1) = c ∧ lMore c 0 (-1) = false ∧ lBits al B c 0 (-1) = putF al B c := by
  have he := lErr_ok (n := c) (lo := 0) (hi := -1) (by omega) (by omega)
  obtain ⟨p1, p2, p3⟩ := lPut_form he (by omega) al B
  rw [p1, p2, p3, Int.toNat_natCast, lfst_small (by omega)]
  exact ⟨he, rfl, decide_eq_false (by omega), rfl⟩
theorem lBits_le (al : Bool) (B : List Bool) (n lo hi : Int) (b1 : -9223372036854775808 ≤ n ∧ n ≤ 9223372036854775807) (b2 : -9223372036854775808 ≤ lo ∧ lo ≤ 9223372036854775807) (b3 : -9223372036854775808 ≤ hi ∧ hi ≤ 9223372036854775807) : (lBits al B n lo hi).length ≤ B.length + 100 := by
  unfold lBits
  split
  · split
    · exact wBits_le al B n lo hi b1 b2 b3
    · have := putF_le al B (lfst n.toNat); omega
  · omega

/-- what reading a length tells: an error, a number, whether it is a fragment, and where the reader stands then -/
structure Rl where
  e : Int
  v : Nat
  m : Bool
  p : Nat
def rlSec (L : List Nat) (p h : Nat) : Rl :=
  if gerr L p 8 = 0 then (if 256 * h + gval L p 8 < 128 then ⟨3, 0, false, gpos L p 8⟩ else ⟨0, 256 * h + gval L p 8, false, gpos L p 8⟩)
  else ⟨gerr L p 8, 0, false, gpos L p 8⟩
def rlOct (L : List Nat) (p o : Nat) : Rl :=
  if o < 128 then ⟨0, o, false, p⟩ else if o < 192 then rlSec L p (o - 128) else if o < 193 ∨ 196 < o then ⟨3, 0, false, p⟩ else ⟨0, 16384 * (o - 192), true, p⟩
def rlPl (L : List Nat) (p : Nat) : Rl := if gerr L p 8 = 0 then rlOct L (gpos L p 8) (gval L p 8) else ⟨gerr L p 8, 0, false, gpos L p 8⟩
def rlF (al : Bool) (L : List Nat) (p : Nat) : Rl :=
  if al = true then (if aerr L p = 0 then rlPl L (apos L p) else ⟨aerr L p, 0, false, apos L p⟩) else rlPl L p
theorem gval_lt (L : List Nat) (p k : Nat) : gval L p k < 2 ^ k := by
  unfold gval
  split
  · rename_i h
    have h2 : p + k ≤ 8 * L.length := by
      unfold gerr at h
      split at h
      · cases h
      · split at h
        · assumption
        · cases h
    exact bitsAt_lt (bitsOf L) p k (by rw [bitsOf_length]; exact h2)
  · exact Nat.two_pow_pos k
theorem rlSec_v (L : List Nat) (p h : Nat) (hh : h < 64) : (rlSec L p h).v < 65537 := by
  have := gval_lt L p 8
  unfold rlSec
  split
  · split
    · exact Nat.zero_lt_succ _
    · show 256 * h + gval L p (8 : Nat) < 65537; omega
  · exact Nat.zero_lt_succ _
theorem rlPl_v (L : List Nat) (p : Nat) : (rlPl L p).v < 65537 := by
  have h8 := gval_lt L p 8
  unfold rlPl
  split
  · generalize gpos L p 8 = q
    show (rlOct L q (gval L p (8 : Nat))).v < 65537
    generalize gval L p (8 : Nat) = o at *
    unfold rlOct
    split
    · show o < 65537; omega
    · split
      · exact rlSec_v L q (o - 128) (by omega)
      · split
        · exact Nat.zero_lt_succ _
        · show 16384 * (o - 192) < 65537; omega
  · exact Nat.zero_lt_succ _
theorem rlF_v (al : Bool) (L : List Nat) (p : Nat) : (rlF al L p).v < 65537 := by
  unfold rlF
  split
  · split
    · exact rlPl_v _ _
    · exact Nat.zero_lt_succ _
  · exact rlPl_v _ _
theorem rlSec_m (L : List Nat) (p h : Nat) : (rlSec L p h).m = false := by
  unfold rlSec
  split
  · split <;> rfl
  · rfl
theorem rlPl_bad (L : List Nat) (p : Nat) (he : (rlPl L p).e ≠ 0) : (rlPl L p).v = 0 ∧ (rlPl L p).m = false := by
  unfold rlPl at he ⊢
  split at he
  · rename_i h0
    rw [if_pos h0]
    unfold rlOct at he ⊢
    split at he
    · exact absurd rfl he
    · rename_i h1
      rw [if_neg h1]
      split at he
      · rename_i h2
        rw [if_pos h2]
        refine ⟨?_, rlSec_m _ _ _⟩
        unfold rlSec at he ⊢
        split at he
        · rename_i h3
          rw [if_pos h3]
          split at he
          · rename_i h4
            rw [if_pos h4]
          · exact absurd rfl he
        · rename_i h3
          rw [if_neg h3]
      · rename_i h2
        rw [if_neg h2]
        split at he
        · rename_i h3
          rw [if_pos h3]
          exact ⟨rfl, rfl⟩
        · exact absurd rfl he
  · rename_i h0
    rw [if_neg h0]
    exact ⟨rfl, rfl⟩
theorem rlF_bad (al : Bool) (L : List Nat) (p : Nat) (he : (rlF al L p).e ≠ 0) : (rlF al L p).v = 0 ∧ (rlF al L p).m = false := by
  unfold rlF at he ⊢
  split at he
  · rename_i h0
    rw [if_pos h0]
    split at he
    · rename_i h1
      rw [if_pos h1]
      exact rlPl_bad _ _ he
    · rename_i h1
      rw [if_neg h1]
      exact ⟨rfl, rfl⟩
  · rename_i h0
    rw [if_neg h0]
    exact rlPl_bad _ _ he
/-- the errors, the numbers and the places of Get -/
def lBad (lo hi : Int) : Prop := lo < 0 ∨ (0 ≤ hi ∧ hi < lo)
instance (lo hi : Int) : Decidable (lBad lo hi) := inferInstanceAs (Decidable (_ ∨ _))
def lgOut (o : Rl) (lo hi : Int) : Int := if o.e ≠ 0 then o.e else if ((o.v : Int) < lo ∧ o.m = false) ∨ (0 ≤ hi ∧ hi < (o.v : Int)) then 4 else 0
def lgE (al : Bool) (L : List Nat) (p : Nat) (lo hi : Int) : Int := if lBad lo hi then 1 else if lNar hi = true then gE al L p lo hi else lgOut (rlF al L p) lo hi
def lgN (al : Bool) (L : List Nat) (p : Nat) (lo hi : Int) : Int := if lBad lo hi then 0 else if lNar hi = true then gN al L p lo hi else if lgOut (rlF al L p) lo hi = 0 then (rlF al L p).v else 0
def lgM (al : Bool) (L : List Nat) (p : Nat) (lo hi : Int) : Bool := if lBad lo hi then false else if lNar hi = true then false else if lgOut (rlF al L p) lo hi = 0 then (rlF al L p).m else false
def lgP (al : Bool) (L : List Nat) (p : Nat) (lo hi : Int) : Nat := if lBad lo hi then p else if lNar hi = true then gP al L p lo hi else (rlF al L p).p
theorem lg_bad {lo hi : Int} (h : lBad lo hi) (al : Bool) (L : List Nat) (p : Nat) : lgE al L p lo hi = 1 ∧ lgN al L p lo hi = 0 ∧ lgM al L p lo hi = false ∧ lgP al L p lo hi = p := ⟨if_pos h, if_pos h, if_pos h, if_pos h⟩
theorem lg_nar {lo hi : Int} (h : ¬ lBad lo hi) (hh : 0 ≤ hi ∧ hi ≤ 65535) (al : Bool) (L : List Nat) (p : Nat) : lgE al L p lo hi = gE al L p lo hi ∧ lgN al L p lo hi = gN al L p lo hi ∧ lgM al L p lo hi = false ∧ lgP al L p lo hi = gP al L p lo hi := by
  have := lNar_yes hh
  unfold lgE lgN lgM lgP
  rw [if_neg h, if_neg h, if_neg h, if_neg h, this]
  exact ⟨rfl, rfl, rfl, rfl⟩
theorem lg_form {lo hi : Int} (h : ¬ lBad lo hi) (hh : ¬ (0 ≤ hi ∧ hi ≤ 65535)) (al : Bool) (L : List Nat) (p : Nat) : lgE al L p lo hi = lgOut (rlF al L p) lo hi ∧ lgN al L p lo hi = (if lgOut (rlF al L p) lo hi = 0 then ((rlF al L p).v : Int) else 0) ∧ lgM al L p lo hi = (if lgOut (rlF al L p) lo hi = 0 then (rlF al L p).m else false) ∧ lgP al L p lo hi = (rlF al L p).p := by
  have := lNar_no hh
  unfold lgE lgN lgM lgP
  rw [if_neg h, if_neg h, if_neg h, if_neg h, this]
  exact ⟨rfl, rfl, rfl, rfl⟩
/-- Get without bounds -/
theorem lgOut_open (o : Rl) : lgOut o 0 (-1) = o.e := by
  unfold lgOut
  split
  · rfl
  · rename_i h
    rw [if_neg (by omega)]
    omega
/-- numbers that are small as a rule -/
def rdCnt (L : List Nat) (o : Rl) : Rd := if o.e = 0 then (if o.m = true then ⟨3, 0, o.p⟩ else rdOcts L o.p o.v) else ⟨o.e, 0, o.p⟩
def rdFit (o : Rd) : Rd := if o.e = 0 then (if o.v < 64 then ⟨3, 0, o.p⟩ else if 9223372036854775807 < o.v then ⟨11, 0, o.p⟩ else ⟨0, o.v, o.p⟩) else ⟨o.e, 0, o.p⟩
def rdLg (al : Bool) (L : List Nat) (p : Nat) : Rd := rdFit (rdCnt L (rlF al L p))
def rdSm (al : Bool) (L : List Nat) (p : Nat) : Rd := if gerr L p 1 = 0 then (if gval L p 1 = 1 then rdLg al L (gpos L p 1) else rdPlain L (gpos L p 1) 6) else ⟨gerr L p 1, 0, gpos L p 1⟩
def sErr (n : Int) : Int := if n < 0 then 1 else 0
def lgBits (al : Bool) (B : List Bool) (v : Nat) : List Bool := putF al B (cnt v) ++ bitsOf (low v (cnt v))
def sBits (al : Bool) (B : List Bool) (n : Int) : List Bool := if n < 0 then B else if n < 64 then B ++ nb n.toNat 7 else lgBits al (B ++ nb 1 1) n.toNat
theorem sBits_neg {n : Int} (h : n < 0) (al : Bool) (B : List Bool) : sBits al B n = B := if_pos h
theorem sBits_small {n : Int} (h0 : 0 ≤ n) (h : n < 64) (al : Bool) (B : List Bool) : sBits al B n = B ++ nb n.toNat 7 := by
  unfold sBits
  rw [if_neg (by omega), if_pos h]
theorem sBits_big {n : Int} (h : 64 ≤ n) (al : Bool) (B : List Bool) : sBits al B n = lgBits al (B ++ nb 1 1) n.toNat := by
  unfold sBits
  rw [if_neg (by omega), if_neg (by omega)]
theorem sErr_neg {n : Int} (h : n < 0) : sErr n = 1 := if_pos h
theorem sErr_ok {n : Int} (h : 0 ≤ n) : sErr n = 0 := if_neg (by omega)
theorem lgBits_le (al : Bool) (B : List Bool) (v : Nat) (hv : v < 2 ^ 64) : (lgBits al B v).length ≤ B.length + 90 := by
  have h1 := putF_le al B (cnt v)
  have h2 := cnt_le v hv
  unfold lgBits
  rw [List.length_append, bitsOf_length, low_length]
  omega
theorem sBits_le (al : Bool) (B : List Bool) (n : Int) (hn : n ≤ 9223372036854775807) : (sBits al B n).length ≤ B.length + 91 := by
  unfold sBits
  split
  · omega
  · split
    · rw [List.length_append, nb_length]; omega
    · have := lgBits_le al (B ++ nb 1 1) n.toNat (by omega)
      rw [List.length_append, nb_length] at this
      omega

/-- what was put is read -/
theorem Has.pre {L : List Nat} {A S T : List Bool} (h : Has L A (S ++ T)) : Has L A S := by
  obtain ⟨R, hR⟩ := h
  exact ⟨T ++ R, by rw [hR]; simp only [List.append_assoc]⟩
theorem Has.shift {L : List Nat} {A S T : List Bool} (h : Has L A (S ++ T)) : Has L (A ++ S) T := by
  obtain ⟨R, hR⟩ := h
  exact ⟨R, by rw [hR]; simp only [List.append_assoc]⟩
theorem octet_has {L : List Nat} {A : List Bool} {o : Nat} (h : Has L A (nb o 8)) (p : Nat) (hp : p = A.length) (ho : o < 256) : gerr L p 8 = 0 ∧ gval L p 8 = o ∧ gpos L p 8 = p + 8 := by
  obtain ⟨h1, h2, h3⟩ := get_has h p 8 hp (nb_length o 8).symm (by omega)
  rw [num_nb o 8 (by omega)] at h2
  exact ⟨h1, h2, h3⟩
theorem form_has {L : List Nat} {A : List Bool} {c : Nat} (h : Has L A (formB c)) (p : Nat) (hp : p = A.length) (hc : c < 16384 ∨ ∃ m, 1 ≤ m ∧ m ≤ 4 ∧ c = 16384 * m) : rlPl L p = ⟨0, c, decide (16384 ≤ c), p + (formB c).length⟩ := by
  by_cases h1 : c < 128
  · rw [formB_one h1] at h ⊢
    obtain ⟨g1, g2, g3⟩ := octet_has h p hp (by omega)
    unfold rlPl
    rw [g1, if_pos rfl, g2, g3]
    unfold rlOct
    rw [if_pos h1, nb_length, decide_eq_false (by omega)]
  by_cases h2 : c < 16384
  · rw [formB_two (by omega) h2] at h ⊢
    have hs : nb (32768 + c) 16 = nb (128 + c / 256) 8 ++ nb (c % 256) 8 := by
      rw [nb_split (32768 + c) 16 8 (by omega), ← nb_mod (32768 + c) 8]
      have h1 : (32768 + c) >>> 8 = 128 + c / 256 := by rw [Nat.shiftRight_eq_div_pow]; omega
      have h2 : (32768 + c) % 2 ^ 8 = c % 256 := by omega
      rw [h1, h2]
    rw [hs] at h
    obtain ⟨g1, g2, g3⟩ := octet_has h.pre p hp (by omega)
    obtain ⟨k1, k2, k3⟩ := octet_has h.shift (p + 8) (by rw [List.length_append, nb_length, hp]) (by omega)
    unfold rlPl
    rw [g1, if_pos rfl, g2, g3]
    unfold rlOct rlSec
    rw [if_neg (by omega), if_pos (by omega), k1, if_pos rfl, k2, k3, if_neg (by omega), nb_length, decide_eq_false (by omega)]
    congr 1
    omega
  · obtain ⟨m, m1, m4, rfl⟩ : ∃ m, 1 ≤ m ∧ m ≤ 4 ∧ c = 16384 * m := by
      rcases hc with hc | hc
      · omega
      · exact hc
    rw [formB_frag (by omega), show 16384 * m / 16384 = m by omega] at h ⊢
    obtain ⟨g1, g2, g3⟩ := octet_has h p hp (by omega)
    unfold rlPl
    rw [g1, if_pos rfl, g2, g3]
    unfold rlOct
    rw [if_neg (by omega), if_neg (by omega), if_neg (by omega), nb_length, decide_eq_true (by omega), show 192 + m - 192 = m by omega]
theorem putF_has {L : List Nat} {al : Bool} {B : List Bool} {c : Nat} (h : ∃ T, bitsOf L = putF al B c ++ T) (hc : c < 16384 ∨ ∃ m, 1 ≤ m ∧ m ≤ 4 ∧ c = 16384 * m) : rlF al L B.length = ⟨0, c, decide (16384 ≤ c), (putF al B c).length⟩ := by
  obtain ⟨T, hT⟩ := h
  unfold putF at hT ⊢
  rw [List.length_append]
  cases al with
  | false =>
    rw [lead_false] at hT ⊢
    exact form_has ⟨T, hT⟩ _ rfl hc
  | true =>
    rw [lead_true] at hT ⊢
    have ha : Has L B (List.replicate (gapN B.length) false) := ⟨formB c ++ T, by rw [hT, padded_gap]; simp only [List.append_assoc]⟩
    obtain ⟨h1, h2⟩ := align_has ha _ rfl
    unfold rlF
    rw [if_pos rfl, h1, if_pos rfl, h2]
    exact form_has ⟨T, hT⟩ _ rfl hc
theorem lfst_form (n : Nat) : lfst n < 16384 ∨ ∃ m, 1 ≤ m ∧ m ≤ 4 ∧ lfst n = 16384 * m := by
  rcases Nat.lt_or_ge n 16384 with h | h
  · exact .inl (by rw [lfst_small h]; exact h)
  · obtain ⟨m, h1, h2, h3, _⟩ := lfst_frag h
    exact .inr ⟨m, h1, h2, h3⟩
theorem lfst_more (n : Nat) : decide (16384 ≤ lfst n) = decide (16384 ≤ n) := by
  rcases Nat.lt_or_ge n 16384 with h | h
  · rw [lfst_small h]
  · obtain ⟨m, h1, h2, h3, _⟩ := lfst_frag h
    rw [h3, decide_eq_true (show 16384 ≤ n from h), decide_eq_true (by omega)]
/-- what Put wrote is what Get tells -/
theorem len_back (al : Bool) (L : List Nat) (B : List Bool) (n lo hi : Int) (he : lErr n lo hi = 0) (b : n ≤ 9223372036854775807) (h : ∃ T, bitsOf L = lBits al B n lo hi ++ T) :
    lgE al L B.length lo hi = 0 ∧ lgN al L B.length lo hi = lCnt n lo hi ∧ lgM al L B.length lo hi = lMore n lo hi ∧ lgP al L B.length lo hi = (lBits al B n lo hi).length := by
  obtain ⟨z1, z2, z3⟩ := lErr_zero he
  have hb : ¬ lBad lo hi := by unfold lBad; omega
  by_cases hh : 0 ≤ hi ∧ hi ≤ 65535
  · obtain ⟨p1, p2, p3⟩ := lPut_nar he hh al B
    obtain ⟨g1, g2, g3, g4⟩ := lg_nar hb hh al L B.length
    rw [p1, wBits_ok (by omega) (by omega)] at h
    rw [g1, g2, g3, g4, p1, p2, p3, wBits_ok (by omega) (by omega)]
    have hr := back_has al L B (n - lo).toNat (hi - lo).toNat (by omega) (by omega) h
    obtain ⟨k1, k2, k3⟩ := gE_ok (show lo ≤ hi by omega) hr (by omega)
    rw [k1, k2, k3]
    exact ⟨rfl, by omega, rfl, rfl⟩
  · obtain ⟨p1, p2, p3⟩ := lPut_form he hh al B
    obtain ⟨g1, g2, g3, g4⟩ := lg_form hb hh al L B.length
    rw [p1] at h
    have hr := putF_has h (lfst_form n.toNat)
    have hle := lfst_le n.toNat
    have hmore := lfst_more n.toNat
    have hfr : lfst n.toNat < n.toNat → 16384 ≤ n.toNat := by
      intro h1
      rcases Nat.lt_or_ge n.toNat 16384 with h2 | h2
      · rw [lfst_small h2] at h1; omega
      · exact h2
    have ho : lgOut (rlF al L B.length) lo hi = 0 := by
      rw [hr]
      unfold lgOut
      rw [if_neg (by simp), if_neg]
      rw [hmore]
      simp only [decide_eq_false_iff_not]
      omega
    rw [g1, g2, g3, g4, p1, p2, p3, ho, if_pos rfl, if_pos rfl, hr]
    refine ⟨rfl, rfl, ?_, rfl⟩
    show decide (16384 ≤ lfst n.toNat) = decide (16384 ≤ n)
    rw [hmore, decide_eq_decide]
    omega
/-- what PutSmall wrote is what GetSmall tells -/
theorem small_back (al : Bool) (L : List Nat) (B : List Bool) (n : Int) (h0 : 0 ≤ n) (b : n ≤ 9223372036854775807) (h : ∃ T, bitsOf L = sBits al B n ++ T) : rdSm al L B.length = ⟨0, n.toNat, (sBits al B n).length⟩ := by
  obtain ⟨T, hT⟩ := h
  unfold rdSm
  by_cases hn : n < 64
  · rw [sBits_small h0 hn] at hT ⊢
    rw [← nb_0 (show n.toNat < 64 by omega)] at hT ⊢
    have hH : Has L B ([false] ++ nb n.toNat 6) := ⟨T, hT⟩
    obtain ⟨g1, g2, g3⟩ := get_has hH.pre _ 1 rfl rfl (by omega)
    rw [show num [false] = 0 from rfl] at g2
    have g1 : gerr L B.length 1 = 0 := g1
    have g2 : gval L B.length 1 = 0 := g2
    have g3 : gpos L B.length 1 = B.length + 1 := g3
    rw [g1, if_pos rfl, g2, if_neg (by decide), g3, rdPlain_has hH.shift (B.length + 1) (by simp) (by omega) (by omega)]
    simp [nb_length]
  · rw [sBits_big (by omega)] at hT ⊢
    unfold lgBits at hT ⊢
    have hF : putF al (B ++ nb 1 1) (cnt n.toNat) = B ++ ((putF al (B ++ nb 1 1) (cnt n.toNat)).drop B.length) ∧ ∃ S, putF al (B ++ nb 1 1) (cnt n.toNat) = (B ++ nb 1 1) ++ S := by
      have : ∃ S, putF al (B ++ nb 1 1) (cnt n.toNat) = (B ++ nb 1 1) ++ S := by
        unfold putF
        cases al
        · exact ⟨_, rfl⟩
        · exact ⟨_, by rw [lead_true, padded_gap, List.append_assoc]⟩
      obtain ⟨S, hS⟩ := this
      refine ⟨?_, S, hS⟩
      rw [hS, List.append_assoc, List.drop_left]
    obtain ⟨_, S, hS⟩ := hF
    have h1 : Has L B (nb 1 1) := ⟨S ++ (bitsOf (low n.toNat (cnt n.toNat)) ++ T), by rw [hT, hS]; simp only [List.append_assoc]⟩
    obtain ⟨g1, g2, g3⟩ := get_has h1 _ 1 rfl rfl (by omega)
    rw [show num (nb 1 1) = 1 by decide] at g2
    have g1 : gerr L B.length 1 = 0 := g1
    have g2 : gval L B.length 1 = 1 := g2
    have g3 : gpos L B.length 1 = (B ++ nb 1 1).length := by rw [List.length_append, nb_length]; exact g3
    have hc8 := cnt_le n.toNat (by omega)
    rw [g1, if_pos rfl, g2, if_pos rfl, g3]
    have hr := putF_has (L := L) (al := al) (B := B ++ nb 1 1) (c := cnt n.toNat) ⟨bitsOf (low n.toNat (cnt n.toNat)) ++ T, by rw [hT, List.append_assoc]⟩ (.inl (by omega))
    obtain ⟨o1, o2, o3⟩ := octs_has (L := L) (A := putF al (B ++ nb 1 1) (cnt n.toNat)) (l := low n.toNat (cnt n.toNat)) ⟨T, hT⟩ (low_lt _ _) _ ((cnt n.toNat : Nat) : Int) rfl (by rw [low_length])
    unfold rdLg rdCnt rdOcts
    rw [hr]
    simp only [decide_eq_false (show ¬ 16384 ≤ cnt n.toNat by omega), o1, o2, o3, uerr_low n.toNat (by omega), uval_low n.toNat (by omega)]
    unfold rdFit
    simp only [if_true, if_false, Bool.false_eq_true]
    rw [if_neg (show ¬ n.toNat < 64 by omega), if_neg (show ¬ 9223372036854775807 < n.toNat by omega), List.length_append, bitsOf_length]
end Go.Proofs.YtbpfggkpfaobhaaGreat
