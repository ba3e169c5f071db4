/-
  The reference's Reader.
-/
import Derived.Test.YtbbbgoigacledaaRef2
import Derived.Deep.RegionHeld3
import Derived.Deep.QuietTactic
import Derived.BigQuiet
namespace Go.Proofs.Ytbbbgoigacledaa
open Go.RowKit
set_option linter.unusedVariables false
set_option linter.unusedSimpArgs false
set_option maxRecDepth 100000

def RelG (w : World) (B : List Bool) (p k : Nat) (v i : Value) (wr : World) : Prop := ∃ j : Nat, j ≤ k ∧ i = .int .i64 j ∧ v = .int .u64 (bitsAt B p j : Nat) ∧ Still w wr
theorem relG_next {w w' : World} {B : List Bool} {p k j : Nat} {x : Int} (hlt : j < k) (hx : x = (bitsAt B p (j + 1) : Nat)) (hs : Still w w') : RelG w B p k (.int .u64 x) (.int .i64 ((j : Int) + 1)) w' :=
  ⟨j + 1, hlt, by go_num, by rw [hx], hs⟩
/-- the zeros passed by Align -/
def RelZ (w : World) (B : List Bool) (p : Nat) (i : Value) (wr : World) : Prop := ∃ c : Nat, c ≤ (8 - p % 8) % 8 ∧ i = .int .i64 ((p + c : Nat) : Int) ∧ (∀ q, q < c → B.getD (p + q) false = false) ∧ Still w wr
theorem relZ_next {w w' : World} {B : List Bool} {p c m : Nat} (hc : c < (8 - p % 8) % 8) (hz : ∀ q, q < c → B.getD (p + q) false = false) (hm : p + c = m) (ht : B.getD m false = false) (hs : Still w w') : RelZ w B p (.int .i64 ((m : Int) + 1)) w' := by
  subst hm
  refine ⟨c + 1, hc, rfl, fun q hq => ?_, hs⟩
  by_cases h : q = c
  · subst h; exact ht
  · exact hz q (by omega)
theorem bchars_extract (B : List Bool) (p q : Nat) : (bchars B).extract p q = bchars ((B.drop p).take (q - p)) := by
  apply ByteArray.ext
  rw [ByteArray.data_extract]
  apply Array.ext'
  simp [bchars, List.map_take, List.map_drop]
theorem wb_octetsAt (B : List Bool) (p n : Nat) (hn : 0 < n) (h : p + 8 * n ≤ B.length) : wb ((B.drop p).take (8 * n)) = octetsAt B p n := by
  have hl : ((B.drop p).take (8 * n)).length = 8 * n := by rw [List.length_take, List.length_drop]; omega
  unfold wb
  rw [if_neg (by intro h0; rw [h0] at hl; simp at hl; omega)]
  unfold octs octetsAt
  rw [hl, show (8 * n + 7) / 8 = n by omega]
  apply List.map_congr_left
  intro j hj
  simp at hj
  unfold oct bitsAt
  congr 1
  apply List.ext_getElem
  · simp; omega
  · intro k h1 h2
    simp at h1
    simp [List.getD_eq_getElem?_getD, List.getElem?_take, show 8 * j + k < 8 * n by omega, show p + (8 * j + k) < B.length by omega, Nat.add_assoc]
def RelE (w : World) (B : List Bool) (p : Nat) (i : Value) (wr : World) : Prop := ∃ c : Nat, p + c ≤ B.length ∧ i = .int .i64 ((p + c : Nat) : Int) ∧ (∀ q, q < c → B.getD (p + q) false = false) ∧ Still w wr
theorem relE_next {w w' : World} {B : List Bool} {p c m : Nat} (hc : p + c < B.length) (hz : ∀ q, q < c → B.getD (p + q) false = false) (hm : p + c = m) (ht : B.getD m false = false) (hs : Still w w') : RelE w B p (.int .i64 ((m : Int) + 1)) w' := by
  subst hm
  refine ⟨c + 1, hc, rfl, fun q hq => ?_, hs⟩
  by_cases h : q = c
  · subst h; exact ht
  · exact hz q (by omega)
end Go.Proofs.Ytbbbgoigacledaa
