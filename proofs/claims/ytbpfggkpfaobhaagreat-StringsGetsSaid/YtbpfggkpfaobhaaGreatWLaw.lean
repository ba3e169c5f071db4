/-
  The laws of package whole: the helpers 'same' and 'ahead', and the document's examples.
-/
import Derived.Test.YtbpfggkpfaobhaaGreatWGet2
import Derived.Test.YtbpfggkpfaobhaaGreatLit
import Derived.Test.YtbpfggkpfaobhaaGreatM3
namespace Go.Proofs.YtbpfggkpfaobhaaGreat
open Go.RowKit
set_option linter.unusedVariables false
set_option linter.unusedSimpArgs false
set_option maxRecDepth 100000

theorem i64_and7 (n : Int) : bits .and .i64 n 7 = n % 8 := by
  have h7 : (BitVec.ofInt 64 7).toNat = 2 ^ 3 - 1 := by decide
  have key : (BitVec.ofInt 64 n &&& BitVec.ofInt 64 7).toNat = (n % ((2 ^ 64 : Nat) : Int)).toNat % 2 ^ 3 := by
    rw [BitVec.toNat_and, BitVec.toNat_ofInt, h7, Nat.and_two_pow_sub_one_eq_mod]
  show IntKind.i64.wrap ((BitVec.ofInt 64 n &&& BitVec.ofInt 64 7).toNat : Nat) = n % 8
  rw [key, IntKind.wrap_i64]
  omega
theorem bchars_snoc (j : Nat) : bchars (List.replicate j true) ++ ⟨#[49]⟩ = bchars (List.replicate (j + 1) true) := by
  apply ByteArray.ext
  rw [ByteArray.data_append]
  unfold bchars
  rw [List.replicate_succ', List.map_append]
  apply Array.ext'
  simp [bch]
def RelH (w : World) (m b : Nat) (sv i : Value) (wr : World) : Prop := ∃ j : Nat, j ≤ m ∧ i = .int .i64 j ∧ sv = .string (bchars (List.replicate j true)) ∧ WrAt wr b (List.replicate j true) ∧ Below w.heap.size w wr
theorem relH_next {w w2 : World} {m b j : Nat} {s : ByteArray} (hj : j < m) (hs : s = bchars (List.replicate j true) ++ ⟨#[49]⟩) (h : WrAt w2 b (List.replicate j true ++ nb 1 1)) (hb : Below w.heap.size w w2) : RelH w m b (.string s) (.int .i64 ((j : Int) + 1)) w2 :=
  ⟨j + 1, hj, by go_num, by rw [hs, bchars_snoc], by rw [List.replicate_succ']; exact h, hb⟩
theorem wr_zero (w : World) : WrAt (w.alloc (.cells Tryz.zeroCells50 50)) w.heap.size [] := by
  rw [show Tryz.zeroCells50 = newCells from by kernel_rfl]
  exact wr_new w
/-- a second Writer, new -/
theorem second (w : World) : ∃ w2, w2 = w.alloc (.cells Tryz.zeroCells50 50) ∧ WrAt w2 w.heap.size [] ∧ Below w.heap.size w w2 ∧ w.heap.size < w2.heap.size := ⟨_, rfl, wr_zero w, (Below.refl _ _).alloc (Nat.le_refl _) _, by simp⟩
theorem wb_len {W : List Bool} (h : W.length ≤ 100) : (wb W).length ≤ 1000 := by
  unfold wb
  split
  · simp
  · rw [octs_length]; omega
theorem read_one (v k : Nat) (hk : k ≤ 64) (hv : v < 2 ^ k) : gerr (wb (nb v k)) 0 k = 0 ∧ gval (wb (nb v k)) 0 k = v := by
  obtain ⟨h1, h2, _⟩ := get_has (Has.wb (W := nb v k) (A := []) (S := nb v k) (R := []) (by simp)) 0 k rfl (nb_length v k).symm hk
  exact ⟨h1, by rw [h2, num_nb v k hv]⟩
theorem RdAt.no_wr {w : World} {r : Nat} {s : Value} {L : List Nat} {p : Nat} (h : RdAt w r s L p) (B : List Bool) (c' : Option Addr) (q' : Nat) : w.heap[r]? ≠ some (chObj c' B q') := by
  intro e
  obtain ⟨hc, _⟩ := h
  rw [hc] at e
  unfold chObj at e
  injection e with e
  injection e with e1 e2 e3
  exact absurd e2 (by decide)
end Go.Proofs.YtbpfggkpfaobhaaGreat
