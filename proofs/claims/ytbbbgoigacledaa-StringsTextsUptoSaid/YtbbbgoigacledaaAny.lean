/-
  What a step of reading tells, for the Reader and for the reference's alike: one contract for each call.
-/
import Derived.Test.YtbbbgoigacledaaEnd
namespace Go.Proofs.Ytbbbgoigacledaa
open Go.RowKit
set_option linter.unusedVariables false
set_option linter.unusedSimpArgs false
set_option maxRecDepth 100000

def gerr (L : List Nat) (p : Nat) (z : Int) : Int := if widthB z = false then 1 else if p + z.toNat ≤ 8 * L.length then 0 else 2
def gval (L : List Nat) (p : Nat) (z : Int) : Nat := if gerr L p z = 0 then bitsAt (bitsOf L) p z.toNat else 0
def gpos (L : List Nat) (p : Nat) (z : Int) : Nat := if gerr L p z = 0 then p + z.toNat else p
theorem width_nat {z : Int} (h : ¬ widthB z = false) : ∃ k : Nat, z = k ∧ k ≤ 64 := by
  have h1 : widthB z = true := by simpa using h
  simp [widthB] at h1
  exact ⟨z.toNat, by omega, by omega⟩
theorem get_any (w : World) (b : Nat) {s : Value} (L : List Nat) (p : Nat) (z : Int) (h : RdAt w b s L p) (hL : L.length ≤ 10000000000) :
    Calls Try.prog 25 #[.pointer (some ⟨b, 0, none⟩), .int .i64 z] w fun e w' => e = .returned (.tuple #[.int .u64 (gval L p z : Nat), .int .i64 (gerr L p z)]) ∧ RdAt w' b s L (gpos L p z) ∧ Only b w w' := by
  by_cases hz : widthB z = false
  · have he : gerr L p z = 1 := if_pos hz
    refine (get_wide w b z hz).mono ?_
    rintro e w' ⟨rfl, rfl⟩
    unfold gval gpos
    rw [he, if_neg (by decide), if_neg (by decide)]
    exact ⟨rfl, h, Only.refl _ _⟩
  · obtain ⟨k, rfl, hk⟩ := width_nat hz
    by_cases hs : p + k ≤ 8 * L.length
    · have he : gerr L p k = 0 := by unfold gerr; rw [if_neg hz, if_pos (show p + ((k : Int)).toNat ≤ 8 * L.length from hs)]
      refine (get_ok w b L p k h hL hk hs).mono ?_
      rintro e w' ⟨rfl, h1, h2⟩
      unfold gval gpos
      rw [he, if_pos rfl, if_pos rfl]
      exact ⟨rfl, h1, h2⟩
    · have he : gerr L p k = 2 := by unfold gerr; rw [if_neg hz, if_neg (show ¬ p + ((k : Int)).toNat ≤ 8 * L.length from hs)]
      refine (get_short w b L p k h hL hk (by omega)).mono ?_
      rintro e w' ⟨rfl, h1⟩
      unfold gval gpos
      rw [he, if_neg (by decide), if_neg (by decide)]
      exact ⟨rfl, h.still h1, h1.only b⟩
def aerr (L : List Nat) (p : Nat) : Int := if allz (bitsOf L) p ((8 - p % 8) % 8) = true then 0 else 3
def apos (L : List Nat) (p : Nat) : Nat := if allz (bitsOf L) p ((8 - p % 8) % 8) = true then p + (8 - p % 8) % 8 else p
theorem ralign_all (w : World) (b : Nat) {s : Value} (L : List Nat) (p : Nat) (h : RdAt w b s L p) (hL : L.length ≤ 10000000000) :
    Calls Try.prog 84 #[.pointer (some ⟨b, 0, none⟩)] w fun e w' => e = .returned (.int .i64 (aerr L p)) ∧ RdAt w' b s L (apos L p) ∧ Only b w w' := by
  unfold aerr apos
  by_cases hz : allz (bitsOf L) p ((8 - p % 8) % 8) = true
  · rw [if_pos hz, if_pos hz]
    exact ralign_ok w b L p h hL hz
  · rw [if_neg hz, if_neg hz]
    refine (ralign_bad w b L p h hL (by simpa using hz)).mono ?_
    rintro e w' ⟨rfl, rfl⟩
    exact ⟨rfl, h, Only.refl _ _⟩
def oerr (L : List Nat) (p : Nat) (z : Int) : Int := if z < 0 then 1 else if ((8 * L.length - p : Nat) : Int) / 8 < z then 2 else 0
def olst (L : List Nat) (p : Nat) (z : Int) : List Nat := if oerr L p z = 0 then octetsAt (bitsOf L) p z.toNat else []
def opos (L : List Nat) (p : Nat) (z : Int) : Nat := if oerr L p z = 0 then p + 8 * z.toNat else p
theorem octetsAt_lt (L : List Nat) (p n : Nat) (h : p + 8 * n ≤ 8 * L.length) (i : Nat) : (octetsAt (bitsOf L) p n).getD i 0 < 256 := by
  unfold octetsAt
  rw [List.getD_eq_getElem?_getD, List.getElem?_map]
  rcases Nat.lt_or_ge i n with hi | hi
  · rw [List.getElem?_range hi]
    have := bitsAt_lt (bitsOf L) (p + 8 * i) 8 (by rw [bitsOf_length]; omega)
    simpa using this
  · rw [List.getElem?_eq_none (by simpa using hi)]
    simp
theorem roctets_any (w : World) (b : Nat) {s : Value} (L : List Nat) (p : Nat) (z : Int) (h : RdAt w b s L p) (hL : L.length ≤ 10000000000) :
    Calls Try.prog 53 #[.pointer (some ⟨b, 0, none⟩), .int .i64 z] w fun e w' => ∃ v, e = .returned (.tuple #[v, .int .i64 (oerr L p z)]) ∧ SlAt w' v (olst L p z) ∧ RdAt w' b s L (opos L p z) ∧ Only b w w' := by
  have hle := h.le
  by_cases hz : z < 0
  · have he : oerr L p z = 1 := if_pos hz
    refine (roctets_neg w b z hz).mono ?_
    rintro e w' ⟨rfl, rfl⟩
    unfold olst opos
    rw [he, if_neg (by decide), if_neg (by decide)]
    exact ⟨_, rfl, .inr ⟨rfl, _, _, rfl⟩, h, Only.refl _ _⟩
  · by_cases hs : ((8 * L.length - p : Nat) : Int) / 8 < z
    · have he : oerr L p z = 2 := by unfold oerr; rw [if_neg hz, if_pos hs]
      refine (roctets_short w b L p z h hL (by omega) hs).mono ?_
      rintro e w' ⟨rfl, h1⟩
      unfold olst opos
      rw [he, if_neg (by decide), if_neg (by decide)]
      exact ⟨_, rfl, .inr ⟨rfl, _, _, rfl⟩, h.still h1, h1.only b⟩
    · have he : oerr L p z = 0 := by unfold oerr; rw [if_neg hz, if_neg hs]
      obtain ⟨n, rfl⟩ : ∃ n : Nat, z = n := ⟨z.toNat, by omega⟩
      have hfit : p + 8 * n ≤ 8 * L.length := by omega
      refine (roctets_ok w b L p n h hL hfit).mono ?_
      rintro e w' ⟨rfl, h1, h2, h3⟩
      unfold olst opos
      rw [he, if_pos rfl, if_pos rfl]
      exact ⟨_, rfl, sl_of_row h2 (octetsAt_lt L p n hfit) (octetsAt_length _ _ _).symm, h1, h3⟩
end Go.Proofs.Ytbbbgoigacledaa
