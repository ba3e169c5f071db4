/-
  The walks of package octets: there and back.
-/
import Derived.Test.YtbbbgoigacledaaOc
namespace Go.Proofs.Ytbbbgoigacledaa
open Go.RowKit
set_option linter.unusedVariables false
set_option linter.unusedSimpArgs false
set_option maxRecDepth 100000

theorem i64_bounds {n : Int} (h : (Lit.int .i64 n).wf = true) : -9223372036854775808 ≤ n ∧ n ≤ 9223372036854775807 := by
  simp [Lit.wf, IntKind.min, IntKind.max, IntKind.signed, IntKind.bits] at h
  omega
theorem u64_bounds {n : Int} (h : (Lit.int .u64 n).wf = true) : 0 ≤ n ∧ n ≤ 18446744073709551615 := by
  simp [Lit.wf, IntKind.min, IntKind.max, IntKind.signed, IntKind.bits] at h
  omega
theorem unsigned_ok (v : Nat) (w : World) (h : v < 2 ^ 64) :
    Calls Try.prog 103 #[.int .u64 v] w fun e w' => ∃ s, e = .returned s ∧ New w w' s (low v (cnt v)) ∧ Below w.heap.size w w' := by
  have c1 := cnt_pos v
  have c8 := cnt_le v h
  go_enter Try.func103, Try.ntmps103
  go_wp2_with (first | (go_at_call 102; refine (count_ok _ _ h).mono ?_; rintro e w' ⟨rfl, rfl⟩) | (go_at_call 105; refine (lowest_ok _ _ _ h c1 c8).mono ?_; rintro e w1 ⟨s, rfl, hn, hb⟩; have HN := Lib.hid hn; have HB := Lib.hid hb; clear hn hb))
  go_ret
  exact ⟨_, rfl, HN.out, HB.out⟩
theorem xor_mag (n : Int) (h : mag n < 2 ^ 63) (hn : n < 0) : IntKind.u64.wrap (bits BinOp.xor IntKind.i64 (-1) n) = mag n := by
  have hm := mag_neg n hn
  have h1 : BitVec.ofInt 64 (-1) = BitVec.allOnes 64 := by decide
  have key : (BitVec.ofInt 64 (-1) ^^^ BitVec.ofInt 64 n).toNat = 2 ^ 64 - 1 - (n % ((2 ^ 64 : Nat) : Int)).toNat := by
    rw [h1, BitVec.allOnes_xor, BitVec.toNat_not, BitVec.toNat_ofInt]
  have e : bits BinOp.xor IntKind.i64 (-1) n = IntKind.i64.wrap (((BitVec.ofInt 64 (-1) ^^^ BitVec.ofInt 64 n).toNat : Nat) : Int) := rfl
  rw [e, key, IntKind.wrap_i64, IntKind.wrap_u64]
  omega
theorem wrap_u64n (n : Int) : IntKind.u64.wrap n = u64n n := by rw [IntKind.wrap_u64, u64n_cast]
/-! ### back -/
def sgn (x : Nat) : Nat := if 128 ≤ x then 255 else 0
theorem sgn_eq (x : Nat) (h : x < 256) : -((x : Int) / 128) % 256 = (sgn x : Nat) := by
  unfold sgn
  split <;> omega
/-- a number with octets behind it, in 64 bits -/
def ext (v : Nat) (l : List Nat) : Nat := (v * 2 ^ (8 * l.length) + unum l) % 2 ^ 64
theorem ext_lt (v : Nat) (l : List Nat) : ext v l < 2 ^ 64 := Nat.mod_lt _ (by decide)
theorem ext_nil (v : Nat) (h : v < 2 ^ 64) : ext v [] = v := by unfold ext; rw [unum_nil]; simpa using Nat.mod_eq_of_lt h
theorem ext_snoc (v : Nat) (l : List Nat) (b : Nat) : ext v (l ++ [b]) = (256 * ext v l + b) % 2 ^ 64 := by
  unfold ext
  rw [unum_snoc, List.length_append, List.length_singleton, show 8 * (l.length + 1) = 8 * l.length + 8 by omega, pow8]
  rw [show v * (256 * 2 ^ (8 * l.length)) = 256 * (v * 2 ^ (8 * l.length)) by rw [Nat.mul_left_comm]]
  omega
def RelX (w : World) (v : Nat) (l : List Nat) (x i : Value) (wr : World) : Prop := ∃ j : Nat, j ≤ l.length ∧ i = .int .i64 j ∧ x = .int .u64 (ext v (l.take j) : Nat) ∧ wr = w
theorem relX_next {w : World} {v : Nat} {l : List Nat} {j : Nat} {x : Int} (hj : j < l.length) (hx : x = (ext v (l.take (j + 1)) : Nat)) : RelX w v l (.int .u64 x) (.int .i64 ((j : Int) + 1)) w :=
  ⟨j + 1, hj, rfl, by rw [hx], rfl⟩
theorem ext_next (v : Nat) (l : List Nat) (j : Nat) (hj : j < l.length) : ext v (l.take (j + 1)) = (256 * ext v (l.take j) + l.getD j 0) % 2 ^ 64 := by
  rw [List.take_succ_eq_append_getElem hj, ext_snoc, List.getD_eq_getElem?_getD, List.getElem?_eq_getElem hj]
  rfl
theorem or_shift (x b : Nat) (hx : x < 2 ^ 64) (hb : b < 256) : bits BinOp.or IntKind.u64 ((x : Int) * 256 % 18446744073709551616) (b : Int) = (((256 * x + b) % 2 ^ 64 : Nat) : Int) := by
  have e : (x : Int) * 256 % 18446744073709551616 = ((256 * (x % 2 ^ 56) : Nat) : Int) := by omega
  rw [e, bits_or_u64_nat _ _ (by omega) (by omega)]
  rw [show 256 * (x % 2 ^ 56) = 2 ^ 8 * (x % 2 ^ 56) from rfl, ← Nat.two_pow_add_eq_or_of_lt (by omega)]
  congr 1
  omega
theorem extend_at (v : Nat) (w : World) (g o cap : Nat) (l : List Nat) (hd : DataAt w g o l) (hv : v < 2 ^ 64) (hl : l.length ≤ 1000000) :
    Calls Try.prog 109 #[.int .u64 v, .slice (some ⟨g, o, none⟩) l.length cap] w fun e w' => e = .returned (.int .u64 (ext v l : Nat)) ∧ w = w' := by
  have HD := Lib.hid hd
  clear hd
  go_enter Try.func109, Try.ntmps109
  go_wp2_with fail
  go_loopw [0, 9] (fun x i wr => RelX w v l x i wr) (fun _ i _ => l.length - (intOf i).toNat)
  case atStart => exact ⟨0, Nat.zero_le _, rfl, by rw [List.take_zero, ext_nil v hv], rfl⟩
  case round =>
    obtain ⟨j, hj, rfl, rfl, rfl⟩ := hrel
    by_cases hlt : j < l.length
    · have hc := HD.out.cell j hlt
      have hb := HD.out.byte j
      have HN := Lib.hid (ext_next v l j hlt)
      have hx := ext_lt v (l.take j)
      generalize ext v (l.take j) = y at *
      generalize l.getD j 0 = b at *
      have HO := Lib.hid (or_shift y b hx hb)
      go_wp2_with fail
      go_roundw
      case rel => exact relX_next hlt (by rw [HN.out]; exact HO.out)
      case measure => simp [intOf]; omega
    · obtain rfl : j = l.length := by omega
      rw [List.take_length]
      go_wp2_with fail
      go_ret
      exact ⟨rfl, rfl⟩
end Go.Proofs.Ytbbbgoigacledaa
