/-
  'slices.IndexFunc', 'slices.ContainsFunc' at types, over a function that may change the world: what it keeps, and what it tells of an element.
-/
import Derived.Test.YtecedbjkebdeaaaShEv
import Derived.Test.YtecedbjkebdeaaaShE1
namespace Go.Proofs.Ytecedbjkebdeaaa
open Go.RowKit
set_option linter.unusedVariables false
set_option linter.unusedSimpArgs false
set_option maxRecDepth 100000

def RelI2 (n : Nat) (Y : Nat → Prop) (J : World → Prop) (iv : Value) (wr : World) : Prop := ∃ i : Nat, i ≤ n ∧ iv = .int .i64 (i : Nat) ∧ (∀ j, j < i → ¬ Y j) ∧ J wr
set_option maxHeartbeats 8000000 in
theorem idxT2 (B : Nat) (w : World) (a : Option Addr) (n cap : Nat) (pt : Nat → TT) (fn : FuncId) (first lb : Array Value) (Y : Nat → Prop) (J : World → Prop) (hen0 : Enters Try.prog fn) (hJ : ∀ w', J w' → Below B w w') (hJ0 : J w)
    (hrow : RowAt B w a n cap 15 (fun i => (pt i).cells)) (hch : ∀ i, i < n → TIn B w (pt i)) (hp : ∀ i, i < n → ∀ w', J w' → Calls Try.prog fn (first ++ #[(.agg ((pt i).cells).toArray : Value)] ++ lb) w' fun e w'' => ∃ r, e = .returned (.bool r) ∧ J w'' ∧ (r = true ↔ Y i)) :
    Calls Try.prog 56 #[.slice a n cap, .func (.func fn) first lb] w fun e w' => ∃ z : Int, e = .returned (.int .i64 z) ∧ J w' ∧ (0 ≤ z ↔ ∃ i, i < n ∧ Y i) := by
  have hen : ∀ (args : Array Value) (w : World), (callFunc fn args).run Try.prog w = .ok (.enter fn args) w := hen0
  have HROW := Lib.hid hrow
  have HCH := Lib.hid hch
  have HP := Lib.hid hp
  have HJ := Lib.hid hJ
  have HJ0 := Lib.hid hJ0
  have hn : n ≤ 9223372036854775807 := by have := hrow.1; have := hrow.2.1; omega
  clear hrow hp hch hJ hJ0
  go_enter Try.func56, Try.ntmps56
  go_wp2_with fail
  go_loopw [8] (fun iv wr => RelI2 n Y J iv wr) (fun iv _ => n - (Lib.intOf iv).toNat)
  case atStart => exact ⟨0, Nat.zero_le _, rfl, fun j hj => absurd hj (Nat.not_lt_zero _), HJ0.out⟩
  case round =>
    obtain ⟨i, hi, rfl, hall, hj⟩ := hrel
    have HA := Lib.hid hall
    have HK := Lib.hid hj
    clear hall hj
    by_cases hlt : i < n
    · have q1 : decide ((i : Int) < (n : Int)) = true := decide_eq_true (by omega)
      have q1n : decide (i < n) = true := decide_eq_true hlt
      have x1 : (i : Int) < (n : Int) := by omega
      obtain ⟨gx, ox, hix, hgx, hrd⟩ := tRow_read HROW.out hlt
      have HR := Lib.hid (hrd wr ((HJ.out wr HK.out).block gx hgx))
      have HC := Lib.hid (HP.out i hlt wr HK.out)
      have H1 := Lib.hid (one_tcells (HCH.out i hlt))
      clear hrd
      have q3 : IntKind.i64.wrap ((i : Int) + 1) = ((i + 1 : Nat) : Int) := wrap_succ hlt hn
      go_wp2_with (refine wpList_load_mid rfl 35 (.tmp 14) rfl gx ox rfl ((pt i).cells) _ HR.out Try.underlying35 rfl (by rw [info_T, H1.out.1]) ?_)
      refine HC.out.mono ?_
      rintro e w1 ⟨r, rfl, hj1, hy⟩
      have HK1 := Lib.hid hj1
      have HY := Lib.hid hy
      clear hj1 hy HC
      cases r with
      | false =>
        have HN := Lib.hid (show ∀ j, j < i + 1 → ¬ Y j from fun j hj => by
          rcases Nat.lt_or_ge j i with h | h
          · exact HA.out j h
          · obtain rfl : j = i := by omega
            exact fun hy => absurd (HY.out.2 hy) (by decide))
        go_wp2_with fail
        go_roundw
        case rel => exact ⟨i + 1, hlt, rfl, HN.out, HK1.out⟩
        case measure => simp only [Lib.intOf]; omega
      | true =>
        go_wp2_with fail
        go_ret
        exact ⟨_, rfl, HK1.out, fun _ => ⟨i, hlt, HY.out.1 (by first | rfl | trivial)⟩, fun _ => by omega⟩
    · have q1 : decide ((i : Int) < (n : Int)) = false := decide_eq_false (by omega)
      have q1n : decide (i < n) = false := decide_eq_false hlt
      have HI := Lib.hid (show i = n by omega)
      go_wp2_with fail
      go_ret
      exact ⟨_, rfl, HK.out, fun h => absurd h (by decide), fun ⟨j, hj, hy⟩ => absurd hy (HA.out j (by rw [HI.out]; exact hj))⟩
set_option maxHeartbeats 4000000 in
theorem contT2 (B : Nat) (w : World) (a : Option Addr) (n cap : Nat) (pt : Nat → TT) (fn : FuncId) (first lb : Array Value) (Y : Nat → Prop) (J : World → Prop) (hen0 : Enters Try.prog fn) (hJ : ∀ w', J w' → Below B w w') (hJ0 : J w)
    (hrow : RowAt B w a n cap 15 (fun i => (pt i).cells)) (hch : ∀ i, i < n → TIn B w (pt i)) (hp : ∀ i, i < n → ∀ w', J w' → Calls Try.prog fn (first ++ #[(.agg ((pt i).cells).toArray : Value)] ++ lb) w' fun e w'' => ∃ r, e = .returned (.bool r) ∧ J w'' ∧ (r = true ↔ Y i)) :
    Calls Try.prog 45 #[.slice a n cap, .func (.func fn) first lb] w fun e w' => ∃ r, e = .returned (.bool r) ∧ J w' ∧ (r = true ↔ ∃ i, i < n ∧ Y i) := by
  have HC := Lib.hid (idxT2 B w a n cap pt fn first lb Y J hen0 hJ hJ0 hrow hch hp)
  clear hen0 hrow hch hp
  go_enter Try.func45, Try.ntmps45
  go_wp2_with fail
  refine HC.out.mono ?_
  rintro e w1 ⟨z, rfl, hj1, hz⟩
  have HJ1 := Lib.hid hj1
  have HZ := Lib.hid hz
  clear hj1 hz HC hJ hJ0
  go_wp2_with fail
  go_ret
  exact ⟨_, rfl, HJ1.out, by rw [decide_eq_true_iff]; exact HZ.out⟩
end Go.Proofs.Ytecedbjkebdeaaa
