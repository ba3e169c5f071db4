/-
  The document's answer for package strings: lay, Fixed, near, put.
-/
import Derived.Test.YtbpfggkpfaobhaaGreatStRefW
import Derived.Test.YtbpfggkpfaobhaaGreatStText
import Derived.Test.YtbpfggkpfaobhaaGreatLRef
import Derived.Test.YtbpfggkpfaobhaaGreatOpMem
import Derived.StillTailTactics
namespace Go.Proofs.YtbpfggkpfaobhaaGreat
open Go.RowKit Go.Shelf
set_option linter.unusedVariables false
set_option linter.unusedSimpArgs false
set_option maxRecDepth 100000

/-- a slice of integers -/
def InAt (w : World) (v : Value) (z : List Int) : Prop := (v = .slice none 0 0 ∧ z = []) ∨ ∃ g o cap, v = .slice (some ⟨g, o, none⟩) z.length cap ∧ z.length ≤ cap ∧ ∀ i, i < z.length → w.cell? ⟨g, o + i, none⟩ = some (.int .i64 (z.getD i 0))
theorem InAt.below {w w' : World} {v : Value} {z : List Int} (h : InAt w v z) (ho : Below w.heap.size w w') : InAt w' v z := by
  rcases h with h | ⟨g, o, cap, e, hc, hz⟩
  · exact .inl h
  · refine .inr ⟨g, o, cap, e, hc, fun i hi => ?_⟩
    rw [← hz i hi]
    exact World.cell?_of_block (w := w) (ho.block g (World.block_lt_of_cell? w _ (hz i hi)))
theorem InAt.shape {w : World} {v : Value} {z : List Int} (h : InAt w v z) : ∃ a n cap, v = .slice a n cap ∧ z.length = n ∧ n ≤ cap := by
  rcases h with ⟨rfl, rfl⟩ | ⟨g, o, cap, rfl, hc, _⟩
  · exact ⟨_, _, _, rfl, rfl, Nat.le_refl _⟩
  · exact ⟨_, _, _, rfl, rfl, hc⟩
theorem InAt.ptr {w : World} {a : Option Addr} {n cap : Nat} {z : List Int} (h : InAt w (.slice a n cap) z) (hn : 0 < n) : ∃ g o, a = some ⟨g, o, none⟩ ∧ ∀ i, i < n → w.cell? ⟨g, o + i, none⟩ = some (.int .i64 (z.getD i 0)) := by
  rcases h with ⟨e, rfl⟩ | ⟨g, o, cap', e, hc, hz⟩
  · injection e with e1 e2
    omega
  · injection e with e1 e2 e3
    subst e2
    exact ⟨g, o, e1, hz⟩
/-- numbers as integers -/
def ints (u : List Nat) : List Int := u.map fun x : Nat => (x : Int)
theorem ints_length (u : List Nat) : (ints u).length = u.length := List.length_map ..
theorem ints_at (u : List Nat) (i : Nat) : (ints u).getD i 0 = (u.getD i 0 : Nat) := by
  unfold ints
  rw [List.getD_eq_getElem?_getD, List.getD_eq_getElem?_getD, List.getElem?_map]
  cases u[i]? <;> rfl
theorem and1_i64 (n : Int) : bits .and .i64 n 1 = n % 2 := by
  have h7 : (BitVec.ofInt 64 1).toNat = 2 ^ 1 - 1 := by decide
  have key : (BitVec.ofInt 64 n &&& BitVec.ofInt 64 1).toNat = (n % ((2 ^ 64 : Nat) : Int)).toNat % 2 ^ 1 := by
    rw [BitVec.toNat_and, BitVec.toNat_ofInt, h7, Nat.and_two_pow_sub_one_eq_mod]
  show IntKind.i64.wrap ((BitVec.ofInt 64 n &&& BitVec.ofInt 64 1).toNat : Nat) = n % 2
  rw [key, IntKind.wrap_i64]
  omega
theorem bit_nat (x t : Nat) : bits .and .i64 ((x : Int) / 2 ^ t) 1 = ((x / 2 ^ t % 2 : Nat) : Int) := by
  have e : ((x : Int) / 2 ^ t) = ((x / 2 ^ t : Nat) : Int) := by rw [Int.natCast_ediv, Int.natCast_pow]; rfl
  rw [and1_i64, e]
  omega
theorem bch_bit (x t : Nat) : bch (x.testBit t) = 48 + x / 2 ^ t % 2 := by
  rw [Nat.testBit_eq_decide_div_mod_eq]
  have : x / 2 ^ t % 2 < 2 := Nat.mod_lt _ (by omega)
  by_cases h : x / 2 ^ t % 2 = 1
  · simp [h, bch]
  · have h0 : x / 2 ^ t % 2 = 0 := by omega
    simp [h0, bch]
def RelLy (w : World) (B : List Bool) (k : Nat) (u : List Nat) (bv i : Value) (wr : World) : Prop := ∃ j : Nat, j ≤ u.length ∧ i = .int .i64 j ∧ Buf wr w.heap.size bv (bcells (B ++ ubits k (u.take j))) ∧ Below w.heap.size w wr
theorem rFixed_ok (lo hi : Int) (w : World) : Calls Tryz.prog 55 #[.int .i64 lo, .int .i64 hi] w fun e w' => e = .returned (.bool (fixd lo hi)) ∧ w = w' := by
  by_cases h : lo = hi
  · subst h
    obtain ⟨b, hb⟩ : ∃ b, fixd lo lo = b := ⟨_, rfl⟩
    have q2 : decide (lo ≤ (65535 : Int)) = b := by rw [← hb]; unfold fixd; rw [decide_eq_decide]; omega
    rw [hb]
    clear hb
    go_enter Tryz.func55, Tryz.ntmps55
    go_wp2_with fail
    go_ret
    exact ⟨rfl, rfl⟩
  · rw [fixd_no (fun h2 => h h2.1)]
    have q1 : (lo == hi) = false := by simpa using h
    have q2 : decide (lo = hi) = false := decide_eq_false h
    clear h
    go_enter Tryz.func55, Tryz.ntmps55
    go_wp2_with fail
    go_ret
    exact ⟨rfl, rfl⟩
theorem rnear_ok (k : Nat) (tx : Bool) (hi : Int) (w : World) (hk : k ≤ 8) : Calls Tryz.prog 59 #[.agg #[.int .i64 (k : Nat), .bool tx], .int .i64 hi] w fun e w' => e = .returned (.bool (near tx k hi)) ∧ Below w.heap.size w w' := by
  have h0 := (Below.refl w.heap.size w).alloc (Nat.le_refl _) (.cells #[.int .i64 (k : Nat), .bool tx] 71)
  cases tx with
  | false =>
    have e1 : near false k hi = false := rfl
    rw [e1]
    go_enter Tryz.func59, Tryz.ntmps59
    go_wp2_with fail
    go_ret
    exact ⟨rfl, h0⟩
  | true =>
    by_cases hh : 0 ≤ hi ∧ hi ≤ 65535
    · have HC := Lib.hid (fun w => close_ok hi w true (lNar_yes hh).symm)
      have hm := mul_small (a := hi) (k := k) (by omega) (by omega) (by omega) (by omega)
      obtain ⟨b, hb⟩ : ∃ b, near true k hi = b := ⟨_, rfl⟩
      have q1 : decide (hi * (k : Int) < 16) = b := by
        rw [← hb]
        unfold near
        rw [Bool.true_and, decide_eq_decide]
        omega
      rw [hb]
      clear hb hh
      go_enter Tryz.func59, Tryz.ntmps59
      go_wp2_with fail
      refine (HC.out _).mono ?_
      rintro e w1 ⟨rfl, rfl⟩
      go_wp2_with fail
      go_ret
      exact ⟨rfl, h0⟩
    · have HC := Lib.hid (fun w => close_ok hi w false (lNar_no hh).symm)
      have e1 : near true k hi = false := by unfold near; rw [Bool.true_and]; exact decide_eq_false (by omega)
      rw [e1]
      clear e1 hh
      go_enter Tryz.func59, Tryz.ntmps59
      go_wp2_with fail
      refine (HC.out _).mono ?_
      rintro e w1 ⟨rfl, rfl⟩
      go_wp2_with fail
      go_ret
      exact ⟨rfl, h0⟩
end Go.Proofs.YtbpfggkpfaobhaaGreat
