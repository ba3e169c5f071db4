/-
  What reading tells where the octets begin with certain bits; what a small number of octets says.
-/
import Derived.Test.YtbpfggkpfaobhaaGreatM3
import Derived.Test.YtbpfggkpfaobhaaGreatM4
namespace Go.Proofs.YtbpfggkpfaobhaaGreat
open Go.RowKit
set_option linter.unusedVariables false
set_option linter.unusedSimpArgs false
set_option maxRecDepth 100000

/-- the octets L begin with the bits A and S -/
def Has (L : List Nat) (A S : List Bool) : Prop := ∃ R, bitsOf L = A ++ S ++ R
theorem Has.len {L : List Nat} {A S : List Bool} (h : Has L A S) : A.length + S.length ≤ 8 * L.length := by
  obtain ⟨R, h⟩ := h
  have := congrArg List.length h
  rw [bitsOf_length] at this
  simp at this
  omega
theorem Has.wb {A S R W : List Bool} (h : W = A ++ S ++ R) : Has (wb W) A S := by
  obtain ⟨m, hm, _⟩ := wb_bits W
  exact ⟨R ++ List.replicate m false, by rw [hm, h, List.append_assoc]⟩
theorem width_true {k : Nat} (h : k ≤ 64) : widthB (k : Int) = true := by simp [widthB]; omega
theorem get_has {L : List Nat} {A S : List Bool} (h : Has L A S) (p k : Nat) (hp : p = A.length) (hk : k = S.length) (h64 : k ≤ 64) : gerr L p k = 0 ∧ gval L p k = num S ∧ gpos L p k = p + k := by
  subst hp
  have hl := h.len
  have h0 : gerr L A.length k = 0 := by
    unfold gerr
    rw [if_neg (by rw [width_true h64]; decide), if_pos (by omega)]
  refine ⟨h0, ?_, ?_⟩
  · unfold gval
    rw [if_pos h0]
    obtain ⟨R, hR⟩ := h
    rw [hR, Int.toNat_natCast]
    exact bitsAt_mid A S R k hk
  · unfold gpos
    rw [if_pos h0, Int.toNat_natCast]
theorem get_short_e {L : List Nat} {p k : Nat} (h64 : k ≤ 64) (h : 8 * L.length < p + k) : gerr L p k = 2 := by
  unfold gerr
  rw [if_neg (by rw [width_true h64]; decide), if_neg (by omega)]
theorem gval_bad {L : List Nat} {p : Nat} {z : Int} (h : gerr L p z ≠ 0) : gval L p z = 0 := if_neg h
/-- how many bits Align adds -/
def gapN (n : Nat) : Nat := (8 - n % 8) % 8
theorem padded_gap (A : List Bool) : padded A = A ++ List.replicate (gapN A.length) false := rfl
theorem align_has {L : List Nat} {A : List Bool} (h : Has L A (List.replicate (gapN A.length) false)) (p : Nat) (hp : p = A.length) : aerr L p = 0 ∧ apos L p = (padded A).length := by
  subst hp
  obtain ⟨R, hR⟩ := h
  have hz : allz (bitsOf L) A.length ((8 - A.length % 8) % 8) = true := by rw [hR]; exact allz_mid A R _
  unfold aerr apos
  rw [if_pos hz, if_pos hz]
  refine ⟨rfl, ?_⟩
  rw [padded_gap]
  simp [gapN]
theorem align_at {L : List Nat} {p : Nat} (h : p % 8 = 0) : aerr L p = 0 ∧ apos L p = p := by
  have hz : allz (bitsOf L) p ((8 - p % 8) % 8) = true := by rw [h]; rfl
  unfold aerr apos
  rw [if_pos hz, if_pos hz, h]
  exact ⟨rfl, rfl⟩
theorem octs_has {L : List Nat} {A : List Bool} {l : List Nat} (h : Has L A (bitsOf l)) (hb : ∀ i, l.getD i 0 < 256) (p : Nat) (z : Int) (hp : p = A.length) (hz : z = l.length) : oerr L p z = 0 ∧ olst L p z = l ∧ opos L p z = p + 8 * l.length := by
  subst hp
  subst hz
  have hl := h.len
  rw [bitsOf_length] at hl
  have h0 : oerr L A.length l.length = 0 := by
    unfold oerr
    rw [if_neg (by omega), if_neg (by omega)]
  refine ⟨h0, ?_, ?_⟩
  · unfold olst
    rw [if_pos h0]
    obtain ⟨R, hR⟩ := h
    rw [hR, Int.toNat_natCast]
    exact octetsAt_mid A R l hb
  · unfold opos
    rw [if_pos h0, Int.toNat_natCast]
theorem octs_short_e {L : List Nat} {p n : Nat} (hp : p ≤ 8 * L.length) (h : 8 * L.length < p + 8 * n) : oerr L p n = 2 := by
  unfold oerr
  rw [if_neg (by omega), if_pos (by omega)]
theorem olst_bad {L : List Nat} {p : Nat} {z : Int} (h : oerr L p z ≠ 0) : olst L p z = [] := if_neg h
theorem gpos_le {L : List Nat} {p : Nat} {z : Int} (h : p ≤ 8 * L.length) : gpos L p z ≤ 8 * L.length := by
  unfold gpos
  split
  · rename_i h0
    unfold gerr at h0
    split at h0
    · cases h0
    · split at h0
      · assumption
      · cases h0
  · exact h
/-- a number as its own octets -/
theorem uerr_low (v : Nat) (hv : v < 2 ^ 64) : uerr (low v (cnt v)) = 0 := by
  have f1 := umin_low v hv
  have := cnt_le v hv
  unfold uerr
  rw [if_neg, if_neg (by rw [low_length]; omega)]
  rintro (h | h)
  · exact f1.1 h
  · rcases f1.2 with h1 | h1
    · exact h.1 h1
    · exact h1 h.2
theorem uval_low (v : Nat) (hv : v < 2 ^ 64) : uval (low v (cnt v)) = v := by
  rw [uval_good (uerr_low v hv), unum_low, Nat.mod_eq_of_lt (cnt_lt v hv)]
end Go.Proofs.YtbpfggkpfaobhaaGreat
