/-
  The document's answers for package octets.
-/
import Derived.Test.YtbpfggkpfaobhaaGreatLit
namespace Go.Proofs.YtbpfggkpfaobhaaGreat
open Go.RowKit
set_option linter.unusedVariables false
set_option linter.unusedSimpArgs false
set_option maxRecDepth 100000

def RelW (w : World) (v : Nat) (x i : Value) (wr : World) : Prop := ∃ m j : Nat, m ≤ v ∧ x = .int .u64 m ∧ i = .int .i64 j ∧ j + wid m = wid v ∧ wr = w
theorem relW_next {w : World} {v m j : Nat} {x : Int} (hv : v < 2 ^ 64) (hm : m ≤ v) (h0 : 0 < m) (hj : j + wid m = wid v) (hx : x = (m / 2 : Nat)) : RelW w v (.int .u64 x) (.int .i64 ((j : Int) + 1)) w := by
  have := wid_half m (by omega) (by omega)
  exact ⟨m / 2, j + 1, by omega, by rw [hx], rfl, by omega, rfl⟩
theorem rwidth_ok (v : Nat) (w : World) (h : v < 2 ^ 64) :
    Calls Tryz.prog 62 #[.int .u64 v] w fun e w' => e = .returned (.int .i64 (wid v)) ∧ w = w' := by
  have h64 := wid_le64 v h
  have HV := Lib.hid h
  go_enter Tryz.func62, Tryz.ntmps62
  go_wp2_with fail
  go_loopw [0, 3] (fun x i wr => RelW w v x i wr) (fun x _ _ => (intOf x).toNat)
  case atStart => exact ⟨v, 0, Nat.le_refl _, rfl, rfl, by omega, rfl⟩
  case round =>
    obtain ⟨m, j, hm, rfl, rfl, hj, rfl⟩ := hrel
    by_cases h0 : 0 < m
    · have hj64 : j ≤ 64 := by omega
      have HJ := Lib.hid hj
      have hm64 : m ≤ 18446744073709551615 := by omega
      clear hj h64
      go_wp2_with fail
      go_roundw
      case rel => exact relW_next HV.out hm h0 HJ.out (by omega)
      case measure => simp [intOf]; omega
    · obtain rfl : m = 0 := by omega
      have e : j = wid v := by rw [← hj, wid_zero]; omega
      subst e
      clear hj
      go_wp2_with fail
      go_ret
      exact ⟨rfl, rfl⟩
theorem rcount_ok (v : Nat) (w : World) (h : v < 2 ^ 64) :
    Calls Tryz.prog 92 #[.int .u64 v] w fun e w' => e = .returned (.int .i64 (cnt v)) ∧ w = w' := by
  have hw := wid_le64 v h
  unfold cnt
  go_enter Tryz.func92, Tryz.ntmps92
  go_wp2_with (go_at_call 62; refine (rwidth_ok _ _ h).mono ?_; rintro e w' ⟨rfl, rfl⟩)
  generalize wid v = x at *
  go_ret
  exact ⟨rint (by omega), rfl⟩
def RelL (w : World) (v n : Nat) (ov i : Value) (wr : World) : Prop := ∃ m : Nat, m ≤ n ∧ i = .int .i64 ((m : Int) - 1) ∧ wr.ownsRow w.heap.size 5 1 ov (n - m) (u8s ((low v n).take (n - m))) ∧ Below w.heap.size w wr
theorem low_take (v n m : Nat) (hm : m ≤ n) (h0 : 0 < m) : (low v n).take (n - (m - 1)) = (low v n).take (n - m) ++ [v / 2 ^ (8 * (m - 1)) % 256] := by
  have e : n - (m - 1) = (n - m) + 1 := by omega
  rw [e, List.take_succ_eq_append_getElem (by rw [low_length]; omega)]
  congr 2
  have : (low v n)[n - m]'(by rw [low_length]; omega) = (low v n).getD (n - m) 0 := by rw [List.getD_eq_getElem?_getD, List.getElem?_eq_getElem]; rfl
  rw [this, low_getD _ _ _ (by omega)]
  congr 3
  omega
theorem relL_next {w w2 : World} {v n m : Nat} {ov : Value} (hm : m ≤ n) (h0 : 0 < m) (h : w2.ownsRow w.heap.size 5 1 ov (n - m + 1) (u8s ((low v n).take (n - m)) ++ [.int .u8 ((v / 2 ^ (8 * (m - 1)) % 256 : Nat) : Int)])) (hb : Below w.heap.size w w2) : RelL w v n ov (.int .i64 ((m : Int) - 1 - 1)) w2 := by
  refine ⟨m - 1, by omega, by congr 1; omega, ?_, hb⟩
  rw [low_take v n m hm h0, show n - (m - 1) = n - m + 1 by omega]
  unfold u8s at h ⊢
  rw [List.map_append]
  exact h
theorem fits_iff (n : Int) (k : Nat) : (n / 2 ^ (8 * k - 1) = 0 ∨ n / 2 ^ (8 * k - 1) = -1) ↔ mag n < 2 ^ (8 * k - 1) := by
  have e : ((2 : Int) ^ (8 * k - 1)) = ((2 ^ (8 * k - 1) : Nat) : Int) := by rw [Int.natCast_pow]; rfl
  have hp : 0 < 2 ^ (8 * k - 1) := Nat.pow_pos (by decide)
  rw [e]
  generalize 2 ^ (8 * k - 1) = P at *
  have hP : (0 : Int) < P := by omega
  have h1 := Int.emod_add_mul_ediv n P
  have h2 := Int.emod_nonneg n (show (P : Int) ≠ 0 by omega)
  have h3 := Int.emod_lt_of_pos n hP
  generalize n / (P : Int) = q at *
  generalize n % (P : Int) = r at *
  by_cases hn : n < 0
  · have hm := mag_neg n hn
    constructor
    · rintro (rfl | rfl) <;> omega
    · intro h
      right
      have h4 : -1 ≤ q := by
        rcases Int.lt_or_le q (-1) with h5 | h5
        · have h6 : (P : Int) * q ≤ (P : Int) * (-2) := Int.mul_le_mul_of_nonneg_left (by omega) (by omega)
          omega
        · exact h5
      have h5 : q ≤ -1 := by
        rcases Int.lt_or_le (-1) q with h5 | h5
        · have h6 : (P : Int) * 0 ≤ (P : Int) * q := Int.mul_le_mul_of_nonneg_left (by omega) (by omega)
          omega
        · exact h5
      omega
  · have hm := mag_pos n (by omega)
    constructor
    · rintro (rfl | rfl) <;> omega
    · intro h
      left
      have h4 : 0 ≤ q := by
        rcases Int.lt_or_le q 0 with h5 | h5
        · have h6 : (P : Int) * q ≤ (P : Int) * (-1) := Int.mul_le_mul_of_nonneg_left (by omega) (by omega)
          omega
        · exact h5
      have h5 : q ≤ 0 := by
        rcases Int.lt_or_le 0 q with h5 | h5
        · have h6 : (P : Int) * 1 ≤ (P : Int) * q := Int.mul_le_mul_of_nonneg_left (by omega) (by omega)
          omega
        · exact h5
      omega
theorem fits_scnt (n : Int) (h : mag n < 2 ^ 63) (k : Nat) (hk : 1 ≤ k) (hs : k ≤ scnt n) : mag n < 2 ^ (8 * k - 1) ↔ k = scnt n := by
  have h1 := scnt_lt n h
  have h2 := scnt_ge n h
  constructor
  · intro h3
    rcases Nat.lt_or_ge k (scnt n) with h4 | h4
    · have h5 := h2 (by omega)
      have := pow_lt (Nat.lt_of_le_of_lt h5 h3)
      omega
    · omega
  · rintro rfl
    exact h1
def RelK (w : World) (n : Int) (i : Value) (wr : World) : Prop := ∃ k : Nat, 1 ≤ k ∧ k ≤ scnt n ∧ i = .int .i64 k ∧ wr = w
end Go.Proofs.YtbpfggkpfaobhaaGreat
