/-
  'slices.IndexFunc', 'slices.ContainsFunc' at parts and types, over whatever function tells of an element.
-/
import Derived.Test.YtfnpjdglfaaegaaShEv
import Derived.Test.YtfnpjdglfaaegaaShE1
import Derived.Test.YtfnpjdglfaaegaaBdM
namespace Go.Proofs.Ytfnpjdglfaaegaa
open Go.RowKit
set_option linter.unusedVariables false
set_option linter.unusedSimpArgs false
set_option maxRecDepth 100000

def RelIx (w : World) (n : Nat) (p : Nat → Bool) (iv : Value) (wr : World) : Prop := ∃ i : Nat, i ≤ n ∧ iv = .int .i64 (i : Nat) ∧ (∀ j, j < i → p j = false) ∧ Below w.heap.size w wr
theorem relIx_next {p : Nat → Bool} {i : Nat} (h : ∀ j, j < i → p j = false) (hi : p i = false) : ∀ j, j < i + 1 → p j = false := fun j hj => by
  rcases Nat.lt_or_ge j i with h2 | h2
  · exact h j h2
  · obtain rfl : j = i := by omega
    exact hi
set_option maxHeartbeats 8000000 in
theorem idxP_ok (B : Nat) (w : World) (a : Option Addr) (n cap : Nat) (pf : Nat → PD) (pt : Nat → TT) (fn : FuncId) (first lb : Array Value) (p : Nat → Bool) (hen0 : Enters Try.prog fn)
    (hB : B ≤ w.heap.size) (hrow : RowAt B w a n cap 18 (fun i => pcells (pf i) (pt i))) (hch : ∀ i, i < n → TIn B w (pt i)) (hp : PredN w fn first lb n (fun i => (.agg (pcells (pf i) (pt i)).toArray : Value)) p) :
    Calls Try.prog 66 #[.slice a n cap, .func (.func fn) first lb] w fun e w' => (∃ z : Int, e = .returned (.int .i64 z) ∧ (decide (0 ≤ z) = anyN p n)) ∧ Below w.heap.size w w' := by
  have hen : ∀ (args : Array Value) (w : World), (callFunc fn args).run Try.prog w = .ok (.enter fn args) w := hen0
  have HROW := Lib.hid hrow
  have HCH := Lib.hid hch
  have HP := Lib.hid hp
  have HBB := Lib.hid hB
  have hn : n ≤ 9223372036854775807 := by have := hrow.1; have := hrow.2.1; omega
  have HB0 := Lib.hid (Below.refl w.heap.size w)
  clear hrow hp hB hch
  go_enter Try.func66, Try.ntmps66
  go_wp2_with fail
  go_loopw [8] (fun iv wr => RelIx w n p iv wr) (fun iv _ => n - (Lib.intOf iv).toNat)
  case atStart => exact ⟨0, Nat.zero_le _, rfl, fun j hj => absurd hj (Nat.not_lt_zero _), HB0.out⟩
  case round =>
    obtain ⟨i, hi, rfl, hall, hbel⟩ := hrel
    have HB := Lib.hid hbel
    have HA := Lib.hid hall
    have hsz := hbel.size
    clear hbel hall
    by_cases hlt : i < n
    · have q1 : decide ((i : Int) < (n : Int)) = true := decide_eq_true (by omega)
      have q1n : decide (i < n) = true := decide_eq_true hlt
      have x1 : (i : Int) < (n : Int) := by omega
      obtain ⟨gx, ox, hix, hgx, hrd⟩ := pRow_read HROW.out hlt
      have HR := Lib.hid (hrd wr (HB.out.block gx (by have := HBB.out; omega)))
      have HC := Lib.hid (show ∀ w', Below w.heap.size w w' → Calls Try.prog fn (first ++ #[(.agg (pcells (pf i) (pt i)).toArray : Value)] ++ lb) w' fun e w'' => e = .returned (.bool (p i)) ∧ Below w'.heap.size w' w'' from HP.out i hlt)
      have H1 := Lib.hid (one_pcells (p := pf i) (HCH.out i hlt))
      clear hrd
      have q3 : IntKind.i64.wrap ((i : Int) + 1) = ((i + 1 : Nat) : Int) := wrap_succ hlt hn
      cases hpi : p i with
      | false =>
        have HN := Lib.hid (relIx_next HA.out hpi)
        rw [hpi] at HC
        clear hpi
        go_wp2_with (refine wpList_load_mid rfl 67 (.tmp 14) rfl gx ox rfl (pcells (pf i) (pt i)) _ HR.out Try.underlying67 rfl (by rw [info_P, H1.out.1]) ?_)
        refine (HC.out _ HB.out).mono ?_
        rintro e w1 ⟨rfl, hb⟩
        have HB1 := Lib.hid (HB.out.trans (hb.mono HB.out.size))
        clear hb
        go_wp2_with fail
        go_roundw
        case rel => exact ⟨i + 1, hlt, rfl, HN.out, HB1.out⟩
        case measure => simp only [Lib.intOf]; omega
      | true =>
        have HN := Lib.hid (anyN_yes hlt hpi)
        rw [hpi] at HC
        clear hpi
        go_wp2_with (refine wpList_load_mid rfl 67 (.tmp 14) rfl gx ox rfl (pcells (pf i) (pt i)) _ HR.out Try.underlying67 rfl (by rw [info_P, H1.out.1]) ?_)
        refine (HC.out _ HB.out).mono ?_
        rintro e w1 ⟨rfl, hb⟩
        have HB1 := Lib.hid (HB.out.trans (hb.mono HB.out.size))
        clear hb
        go_wp2_with fail
        go_ret
        exact ⟨⟨_, rfl, by rw [HN.out]; exact decide_eq_true (by omega)⟩, HB1.out⟩
    · have q1 : decide ((i : Int) < (n : Int)) = false := decide_eq_false (by omega)
      have q1n : decide (i < n) = false := decide_eq_false hlt
      obtain rfl : i = n := by omega
      have HN := Lib.hid (anyN_no HA.out)
      go_wp2_with fail
      go_ret
      exact ⟨⟨_, rfl, by rw [HN.out]; rfl⟩, HB.out⟩
set_option maxHeartbeats 4000000 in
theorem contP_ok (B : Nat) (w : World) (a : Option Addr) (n cap : Nat) (pf : Nat → PD) (pt : Nat → TT) (fn : FuncId) (first lb : Array Value) (p : Nat → Bool) (hen0 : Enters Try.prog fn)
    (hB : B ≤ w.heap.size) (hrow : RowAt B w a n cap 18 (fun i => pcells (pf i) (pt i))) (hch : ∀ i, i < n → TIn B w (pt i)) (hp : PredN w fn first lb n (fun i => (.agg (pcells (pf i) (pt i)).toArray : Value)) p) :
    Calls Try.prog 53 #[.slice a n cap, .func (.func fn) first lb] w fun e w' => e = .returned (.bool (anyN p n)) ∧ Below w.heap.size w w' := by
  have HC := Lib.hid (idxP_ok B w a n cap pf pt fn first lb p hen0 hB hrow hch hp)
  obtain ⟨b, hb⟩ : ∃ b, anyN p n = b := ⟨_, rfl⟩
  rw [hb] at HC ⊢
  clear hen0 hB hrow hch hp hb
  go_enter Try.func53, Try.ntmps53
  go_wp2_with fail
  refine HC.out.mono ?_
  rintro e w1 ⟨⟨z, rfl, hz⟩, hb⟩
  have HB := Lib.hid hb
  clear hb HC
  go_wp2_with fail
  go_ret
  exact ⟨rfl, HB.out⟩
set_option maxHeartbeats 8000000 in
theorem idxT_ok (B : Nat) (w : World) (a : Option Addr) (n cap : Nat) (pt : Nat → TT) (fn : FuncId) (first lb : Array Value) (p : Nat → Bool) (hen0 : Enters Try.prog fn)
    (hB : B ≤ w.heap.size) (hrow : RowAt B w a n cap 15 (fun i => (pt i).cells)) (hch : ∀ i, i < n → TIn B w (pt i)) (hp : PredN w fn first lb n (fun i => (.agg ((pt i).cells).toArray : Value)) p) :
    Calls Try.prog 67 #[.slice a n cap, .func (.func fn) first lb] w fun e w' => (∃ z : Int, e = .returned (.int .i64 z) ∧ (decide (0 ≤ z) = anyN p n)) ∧ Below w.heap.size w w' := by
  have hen : ∀ (args : Array Value) (w : World), (callFunc fn args).run Try.prog w = .ok (.enter fn args) w := hen0
  have HROW := Lib.hid hrow
  have HCH := Lib.hid hch
  have HP := Lib.hid hp
  have HBB := Lib.hid hB
  have hn : n ≤ 9223372036854775807 := by have := hrow.1; have := hrow.2.1; omega
  have HB0 := Lib.hid (Below.refl w.heap.size w)
  clear hrow hp hB hch
  go_enter Try.func67, Try.ntmps67
  go_wp2_with fail
  go_loopw [8] (fun iv wr => RelIx w n p iv wr) (fun iv _ => n - (Lib.intOf iv).toNat)
  case atStart => exact ⟨0, Nat.zero_le _, rfl, fun j hj => absurd hj (Nat.not_lt_zero _), HB0.out⟩
  case round =>
    obtain ⟨i, hi, rfl, hall, hbel⟩ := hrel
    have HB := Lib.hid hbel
    have HA := Lib.hid hall
    have hsz := hbel.size
    clear hbel hall
    by_cases hlt : i < n
    · have q1 : decide ((i : Int) < (n : Int)) = true := decide_eq_true (by omega)
      have q1n : decide (i < n) = true := decide_eq_true hlt
      have x1 : (i : Int) < (n : Int) := by omega
      obtain ⟨gx, ox, hix, hgx, hrd⟩ := tRow_read HROW.out hlt
      have HR := Lib.hid (hrd wr (HB.out.block gx (by have := HBB.out; omega)))
      have HC := Lib.hid (show ∀ w', Below w.heap.size w w' → Calls Try.prog fn (first ++ #[(.agg ((pt i).cells).toArray : Value)] ++ lb) w' fun e w'' => e = .returned (.bool (p i)) ∧ Below w'.heap.size w' w'' from HP.out i hlt)
      have H1 := Lib.hid (one_tcells (HCH.out i hlt))
      clear hrd
      have q3 : IntKind.i64.wrap ((i : Int) + 1) = ((i + 1 : Nat) : Int) := wrap_succ hlt hn
      cases hpi : p i with
      | false =>
        have HN := Lib.hid (relIx_next HA.out hpi)
        rw [hpi] at HC
        clear hpi
        go_wp2_with (refine wpList_load_mid rfl 35 (.tmp 14) rfl gx ox rfl ((pt i).cells) _ HR.out Try.underlying35 rfl (by rw [info_T, H1.out.1]) ?_)
        refine (HC.out _ HB.out).mono ?_
        rintro e w1 ⟨rfl, hb⟩
        have HB1 := Lib.hid (HB.out.trans (hb.mono HB.out.size))
        clear hb
        go_wp2_with fail
        go_roundw
        case rel => exact ⟨i + 1, hlt, rfl, HN.out, HB1.out⟩
        case measure => simp only [Lib.intOf]; omega
      | true =>
        have HN := Lib.hid (anyN_yes hlt hpi)
        rw [hpi] at HC
        clear hpi
        go_wp2_with (refine wpList_load_mid rfl 35 (.tmp 14) rfl gx ox rfl ((pt i).cells) _ HR.out Try.underlying35 rfl (by rw [info_T, H1.out.1]) ?_)
        refine (HC.out _ HB.out).mono ?_
        rintro e w1 ⟨rfl, hb⟩
        have HB1 := Lib.hid (HB.out.trans (hb.mono HB.out.size))
        clear hb
        go_wp2_with fail
        go_ret
        exact ⟨⟨_, rfl, by rw [HN.out]; exact decide_eq_true (by omega)⟩, HB1.out⟩
    · have q1 : decide ((i : Int) < (n : Int)) = false := decide_eq_false (by omega)
      have q1n : decide (i < n) = false := decide_eq_false hlt
      obtain rfl : i = n := by omega
      have HN := Lib.hid (anyN_no HA.out)
      go_wp2_with fail
      go_ret
      exact ⟨⟨_, rfl, by rw [HN.out]; rfl⟩, HB.out⟩
set_option maxHeartbeats 4000000 in
theorem contT_ok (B : Nat) (w : World) (a : Option Addr) (n cap : Nat) (pt : Nat → TT) (fn : FuncId) (first lb : Array Value) (p : Nat → Bool) (hen0 : Enters Try.prog fn)
    (hB : B ≤ w.heap.size) (hrow : RowAt B w a n cap 15 (fun i => (pt i).cells)) (hch : ∀ i, i < n → TIn B w (pt i)) (hp : PredN w fn first lb n (fun i => (.agg ((pt i).cells).toArray : Value)) p) :
    Calls Try.prog 54 #[.slice a n cap, .func (.func fn) first lb] w fun e w' => e = .returned (.bool (anyN p n)) ∧ Below w.heap.size w w' := by
  have HC := Lib.hid (idxT_ok B w a n cap pt fn first lb p hen0 hB hrow hch hp)
  obtain ⟨b, hb⟩ : ∃ b, anyN p n = b := ⟨_, rfl⟩
  rw [hb] at HC ⊢
  clear hen0 hB hrow hch hp hb
  go_enter Try.func54, Try.ntmps54
  go_wp2_with fail
  refine HC.out.mono ?_
  rintro e w1 ⟨⟨z, rfl, hz⟩, hb⟩
  have HB := Lib.hid hb
  clear hb HC
  go_wp2_with fail
  go_ret
  exact ⟨rfl, HB.out⟩
end Go.Proofs.Ytfnpjdglfaaegaa
