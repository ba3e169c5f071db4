/-
  Package bounds: 'combined', 'byOne', 'byAll', 'between', 'admitted', 'Set'.
-/
import Derived.Test.YtfnpjdglfaaegaaBdB2
import Derived.Test.YtfnpjdglfaaegaaBdI
namespace Go.Proofs.Ytfnpjdglfaaegaa
open Go.RowKit Go.Shelf
set_option linter.unusedVariables false
set_option linter.unusedSimpArgs false
set_option maxRecDepth 100000

theorem combined_ok (u : Bool) (fn : FuncId) (hop : OpOK u fn) (hen0 : Enters Try.prog fn) (k : Nat) (vs : Option Addr) (vn vc : Nat) : ∀ (N n : Nat), n ≤ N → 1 ≤ n → ∀ (B : Nat) (w : World) (a : Option Addr) (cap : Nat) (ch : Nat → CT),
    LIn B w a n cap ch → B ≤ w.heap.size → 2 * sumN (fun i => (ch i).sz) n ≤ 1000 → (∀ i, i < n → AdmOK (ch i) k) → CombOK u fn k vs vn vc a n cap ch w
  | 0, n, h, h1, _, _, _, _, _, _, _, _, _ => by omega
  | N + 1, n, h, h1, B, w, a, cap, ch, hin, hB, hs, hadm => by
    by_cases h2 : n = 1
    · subst h2
      refine (combined_one fn k B w a cap ch vs vn vc hin hB (hadm 0 (by omega))).mono ?_
      rintro e w' ⟨v, r, rfl, h3, h4⟩
      exact ⟨v, r, rfl, h3.cast (fun x _ => by rw [foldU_one]) (by rw [sumN_one]; exact Nat.le_refl _), h4⟩
    · exact combined_two u fn hop hen0 k vs vn vc n (by omega) B w a cap ch hin hB hs fun n' a1 a2 B w' a' cap' ch' hl hB' hs' hsub =>
        combined_ok u fn hop hen0 k vs vn vc N n' (by omega) a1 B w' a' cap' ch' hl hB' hs' (fun i hi => by
          obtain ⟨j, hj, e⟩ := hsub i hi
          rw [e]
          exact hadm j hj)
set_option maxHeartbeats 1000000 in
theorem combined_zero (fn : FuncId) (k : Nat) (w : World) (a : Option Addr) (cap : Nat) (vs : Option Addr) (vn vc : Nat) :
    Calls Try.prog 62 #[.slice a 0 cap, .int .i64 (k : Nat), .slice vs vn vc, .func (.func fn) #[] #[]] w fun e w' => e = .returned (.slice vs vn vc) ∧ w' = w := by
  go_enter Try.func62, Try.ntmps62
  go_wp2_with fail
  go_ret
  exact ⟨rfl, rfl⟩
theorem foldU_nil (u : Bool) (f : Nat → Bool) : (foldU u f 0 = true) ↔ u = false := by
  rw [foldU_zero]
  cases u <;> simp
set_option maxHeartbeats 2000000 in
theorem byOne_ok (k : Nat) (B : Nat) (w : World) (a : Option Addr) (n cap : Nat) (ch : Nat → CT) (hin : LIn B w a n cap ch) (hB : B ≤ w.heap.size) (hs : 2 * sumN (fun i => (ch i).sz) n ≤ 1000) (hadm : ∀ i, i < n → AdmOK (ch i) k) :
    Calls Try.prog 48 #[.slice a n cap, .int .i64 (k : Nat)] w fun e w' => ∃ v r, e = .returned v ∧ OwnA w.heap.size w' v (fun x => foldU true (fun i => adm (ch i) k x) n = true) (2 * sumN (fun i => (ch i).sz) n) r ∧ Below w.heap.size w w' := by
  have HC := Lib.hid (show Calls Try.prog 62 #[.slice a n cap, .int .i64 (k : Nat), .slice none 0 0, .func (.func 63) #[] #[]] w fun e w' => ∃ v r, e = .returned v ∧ OwnA w.heap.size w' v (fun x => foldU true (fun i => adm (ch i) k x) n = true) (2 * sumN (fun i => (ch i).sz) n) r ∧ Below w.heap.size w w' by
    rcases Nat.eq_zero_or_pos n with h0 | h0
    · subst h0
      refine (combined_zero 63 k w a cap none 0 0).mono ?_
      rintro e w' ⟨rfl, rfl⟩
      exact ⟨_, [], rfl, ⟨OwnR.nil _ _, Bd.nil, fun n _ => by show _ ↔ foldU true (fun i => adm (ch i) k n) 0 = true; rw [foldU_nil]; simp [mem_nil], by simp⟩, Below.refl _ _⟩
    · exact combined_ok true 63 append_op enters_append k none 0 0 n n (Nat.le_refl _) h0 B w a cap ch hin hB hs hadm)
  generalize (fun x => foldU true (fun i => adm (ch i) k x) n = true) = p at *
  clear hin hB hs hadm
  go_enter Try.func48, Try.ntmps48
  go_wp2_with fail
  refine HC.out.mono ?_
  rintro e w' ⟨v, r, rfl, h1, h2⟩
  have HA := Lib.hid h1
  have HB := Lib.hid h2
  clear h1 h2
  go_wp2_with fail
  go_ret
  exact ⟨_, r, rfl, HA.out, HB.out⟩
def bA (s : Nat → Nat) (n : Nat) : Nat := if n = 0 then 1 else 2 * sumN s n
set_option maxHeartbeats 2000000 in
theorem byAll_ok (k : Nat) (B : Nat) (w : World) (a : Option Addr) (n cap : Nat) (ch : Nat → CT) (hin : LIn B w a n cap ch) (hB : B ≤ w.heap.size) (hs : 2 * sumN (fun i => (ch i).sz) n ≤ 1000) (hadm : ∀ i, i < n → AdmOK (ch i) k) :
    Calls Try.prog 49 #[.slice a n cap, .int .i64 (k : Nat)] w fun e w' => ∃ v r, e = .returned v ∧ OwnA w.heap.size w' v (fun x => foldU false (fun i => adm (ch i) k x) n = true) (bA (fun i => (ch i).sz) n) r ∧ Below w.heap.size w w' := by
  have HW := Lib.hid (Whole_own w)
  have HC := Lib.hid (show ∀ (w1 : World) (vs : Option Addr) (vn vc : Nat), Below w.heap.size w w1 → OwnR w.heap.size w1 (.slice vs vn vc) wholeL → Calls Try.prog 62 #[.slice a n cap, .int .i64 (k : Nat), .slice vs vn vc, .func (.func 26) #[] #[]] w1 fun e w' => ∃ v r, e = .returned v ∧ OwnA w.heap.size w' v (fun x => foldU false (fun i => adm (ch i) k x) n = true) (bA (fun i => (ch i).sz) n) r ∧ Below w.heap.size w1 w' from fun w1 vs vn vc hb hw => by
    rcases Nat.eq_zero_or_pos n with h0 | h0
    · subst h0
      refine (combined_zero 26 k w1 a cap vs vn vc).mono ?_
      rintro e w' ⟨rfl, hw'⟩
      obtain rfl : w1 = w' := hw'.symm
      exact ⟨_, wholeL, rfl, ⟨hw, wholeL_bd, fun n hn => by show _ ↔ foldU false (fun i => adm (ch i) k n) 0 = true; rw [foldU_nil, wholeL_says.2.2 n hn]; simp, by simp [wholeL, bA]⟩, Below.refl _ _⟩
    · refine (combined_ok false 26 meet_op enters_meet k vs vn vc n n (Nat.le_refl _) h0 w.heap.size w1 a cap ch ((hin.below (Below.refl _ _) hB).below hb (Nat.le_refl _)) hb.size hs hadm).mono ?_
      rintro e w' ⟨v, r, rfl, h1, h2⟩
      exact ⟨v, r, rfl, (h1.base hb.size).cast (fun _ _ => Iff.rfl) (by unfold bA; rw [if_neg (by omega)]; exact Nat.le_refl _), h2.mono hb.size⟩)
  generalize (fun x => foldU false (fun i => adm (ch i) k x) n = true) = p at *
  clear hin hB hs hadm
  go_enter Try.func49, Try.ntmps49
  go_wp2_with fail
  refine HW.out.mono ?_
  rintro e w1 ⟨v1, rfl, h1, h2⟩
  obtain ⟨vs, vn, vc, rfl⟩ := h1.shape
  have HC1 := Lib.hid (HC.out w1 vs vn vc h2 h1)
  have HB1 := Lib.hid h2
  clear h1 h2 HC
  go_wp2_with fail
  refine HC1.out.mono ?_
  rintro e w' ⟨v, r, rfl, h1, h2⟩
  have HA := Lib.hid h1
  have HB := Lib.hid (HB1.out.trans h2)
  clear h1 h2
  go_wp2_with fail
  go_ret
  exact ⟨_, r, rfl, HA.out, HB.out⟩
set_option maxHeartbeats 2000000 in
theorem between_ok (w : World) (op lo hi : Int) (low high : Bool) (a : Option Addr) (n cap : Nat) :
    Calls Try.prog 47 #[.agg #[.int .i64 op, .int .i64 lo, .int .i64 hi, .bool low, .bool high, .slice a n cap]] w fun e w' => e = .returned (.agg #[.int .i64 (if low then -9223372036854775808 else lo), .int .i64 (if high then 9223372036854775807 else hi)]) ∧ Below w.heap.size w w' := by
  obtain ⟨lo', hlo⟩ : ∃ lo', (if low then -9223372036854775808 else lo) = lo' := ⟨_, rfl⟩
  obtain ⟨hi', hhi⟩ : ∃ hi', (if high then 9223372036854775807 else hi) = hi' := ⟨_, rfl⟩
  rw [hlo, hhi]
  cases low <;> cases high
  all_goals
    simp only [if_true, if_neg (by decide : ¬ (false = true))] at hlo hhi
    subst hlo
    subst hhi
    go_enter Try.func47, Try.ntmps47
    go_wp2_with fail
    refine bodyPost_ret (v := .agg #[.int .i64 _, .int .i64 _]) ?_ rfl ⟨rfl, ?_⟩
    · simp [results, Try.f47, go_sem]
    · exact (((Below.refl _ w).alloc (Nat.le_refl _) _).alloc (by simp) _).alloc (by simp; omega) _
end Go.Proofs.Ytfnpjdglfaaegaa
