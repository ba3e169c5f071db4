/-
  A bundle of texts, one behind the other: ShK1, ShK2, ShK3, ShD, ShT3.
-/
import Derived.Test.YtgmnojnalkhepaaGreatDoorJE
import Derived.Test.YtgmnojnalkhepaaGreatDoorJB
/-
  Package shape: keywords, references, characters.
-/
namespace Go.Proofs.YtgmnojnalkhepaaGreatDoor
open Go.RowKit
set_option linter.unusedVariables false
set_option linter.unusedSimpArgs false
set_option maxRecDepth 100000

def kwords : List (List UInt8) := [[66, 79, 79, 76, 69, 65, 78], [73, 78, 84, 69, 71, 69, 82], [69, 78, 85, 77, 69, 82, 65, 84, 69, 68], [78, 85, 76, 76], [66, 73, 84], [83, 84, 82, 73, 78, 71], [79, 67, 84, 69, 84], [73, 65, 53, 83, 116, 114, 105, 110, 103], [83, 69, 81, 85, 69, 78, 67, 69], [79, 70], [67, 72, 79, 73, 67, 69], [83, 73, 90, 69], [70, 82, 79, 77], [79, 80, 84, 73, 79, 78, 65, 76], [68, 69, 70, 65, 85, 76, 84], [84, 82, 85, 69], [70, 65, 76, 83, 69], [77, 73, 78], [77, 65, 88], [69, 88, 67, 69, 80, 84], [68, 69, 70, 73, 78, 73, 84, 73, 79, 78, 83], [65, 85, 84, 79, 77, 65, 84, 73, 67], [84, 65, 71, 83], [66, 69, 71, 73, 78], [69, 78, 68], [73, 77, 80, 79, 82, 84, 83]]
def kwd (s : ByteArray) : Bool := kwords.any (fun k => s.toList == k)
set_option maxHeartbeats 4000000 in
theorem keyword_ok (s : ByteArray) (w : World) : Calls Tryz.prog 10 #[.string s] w fun e w' => e = .returned (.bool (kwd s)) ∧ w' = w := by
  cases hk : kwd s with
  | false =>
    have hall : ∀ k ∈ kwords, (s.toList == k) = false := fun k hm => by
      simp only [kwd, List.any_eq_false] at hk
      simpa using hk k hm
    have q0 := hall [66, 79, 79, 76, 69, 65, 78] (by decide)
    have q1 := hall [73, 78, 84, 69, 71, 69, 82] (by decide)
    have q2 := hall [69, 78, 85, 77, 69, 82, 65, 84, 69, 68] (by decide)
    have q3 := hall [78, 85, 76, 76] (by decide)
    have q4 := hall [66, 73, 84] (by decide)
    have q5 := hall [83, 84, 82, 73, 78, 71] (by decide)
    have q6 := hall [79, 67, 84, 69, 84] (by decide)
    have q7 := hall [73, 65, 53, 83, 116, 114, 105, 110, 103] (by decide)
    have q8 := hall [83, 69, 81, 85, 69, 78, 67, 69] (by decide)
    have q9 := hall [79, 70] (by decide)
    have q10 := hall [67, 72, 79, 73, 67, 69] (by decide)
    have q11 := hall [83, 73, 90, 69] (by decide)
    have q12 := hall [70, 82, 79, 77] (by decide)
    have q13 := hall [79, 80, 84, 73, 79, 78, 65, 76] (by decide)
    have q14 := hall [68, 69, 70, 65, 85, 76, 84] (by decide)
    have q15 := hall [84, 82, 85, 69] (by decide)
    have q16 := hall [70, 65, 76, 83, 69] (by decide)
    have q17 := hall [77, 73, 78] (by decide)
    have q18 := hall [77, 65, 88] (by decide)
    have q19 := hall [69, 88, 67, 69, 80, 84] (by decide)
    have q20 := hall [68, 69, 70, 73, 78, 73, 84, 73, 79, 78, 83] (by decide)
    have q21 := hall [65, 85, 84, 79, 77, 65, 84, 73, 67] (by decide)
    have q22 := hall [84, 65, 71, 83] (by decide)
    have q23 := hall [66, 69, 71, 73, 78] (by decide)
    have q24 := hall [69, 78, 68] (by decide)
    have q25 := hall [73, 77, 80, 79, 82, 84, 83] (by decide)
    clear hall hk
    go_enter Tryz.func10, Tryz.ntmps10
    go_wp2_with fail
    go_ret
    exact ⟨rfl, rfl⟩
  | true =>
    obtain ⟨k, hm, he⟩ : ∃ k, k ∈ kwords ∧ (s.toList == k) = true := by simpa only [kwd, List.any_eq_true] using hk
    have he2 : s.toList = k := by simpa using he
    clear hk he
    have hs : s = ⟨k.toArray⟩ := by
      apply ByteArray.ext
      rw [← he2, ByteArray.toList_eq]
    subst hs
    clear he2
    simp only [kwords, List.mem_cons, List.not_mem_nil, or_false] at hm
    rcases hm with rfl | rfl | rfl | rfl | rfl | rfl | rfl | rfl | rfl | rfl | rfl | rfl | rfl | rfl | rfl | rfl | rfl | rfl | rfl | rfl | rfl | rfl | rfl | rfl | rfl | rfl
    all_goals (go_enter Tryz.func10, Tryz.ntmps10; go_wp2_with fail; go_ret; exact ⟨rfl, rfl⟩)
end Go.Proofs.YtgmnojnalkhepaaGreatDoor

/-
  Package shape: references, characters of strings.
-/
namespace Go.Proofs.YtgmnojnalkhepaaGreatDoor
open Go.RowKit
set_option linter.unusedVariables false
set_option linter.unusedSimpArgs false
set_option maxRecDepth 100000

def refd (s : ByteArray) : Bool := (isWd s && isUp (tAt (cods s) 0)) && !kwd s
def lowd (s : ByteArray) : Bool := isWd s && isLo (tAt (cods s) 0)
set_option maxHeartbeats 4000000 in
theorem isRef_ok (s : ByteArray) (w : World) (hg : Gs w) (hs : s.size ≤ 140737488355328) : Calls Tryz.prog 16 #[.string s] w fun e w' => e = .returned (.bool (refd s)) ∧ Below w.heap.size w w' := by
  have HU := Lib.hid (upper_ok s w hg.gl hs)
  have HK := Lib.hid (fun w => keyword_ok s w)
  have HB0 := Lib.hid (Below.refl w.heap.size w)
  unfold refd
  generalize (isWd s && isUp (tAt (cods s) 0)) = u at *
  generalize kwd s = k at *
  cases u with
  | false =>
    go_enter Tryz.func16, Tryz.ntmps16
    go_wp2_with fail
    refine HU.out.mono ?_
    rintro e w1 ⟨rfl, hb⟩
    have HB := Lib.hid hb
    clear hb
    go_wp2_with fail
    go_ret
    exact ⟨rfl, HB.out⟩
  | true =>
    go_enter Tryz.func16, Tryz.ntmps16
    go_wp2_with fail
    refine HU.out.mono ?_
    rintro e w1 ⟨rfl, hb⟩
    have HB := Lib.hid hb
    clear hb
    go_wp2_with fail
    refine (HK.out _).mono ?_
    rintro e w2 ⟨rfl, rfl⟩
    go_wp2_with fail
    go_ret
    exact ⟨rfl, HB.out⟩
/-- characters of strings -/
def chars (s : ByteArray) : Bool := allN (fun i => isQt (tAt (cods s) i)) s.size
def RelCh (s : ByteArray) (W : World) (iv : Value) (wr : World) : Prop := ∃ i : Nat, i ≤ s.size ∧ iv = .int .i64 (i : Nat) ∧ allN (fun i => isQt (tAt (cods s) i)) i = true ∧ wr = W
set_option maxHeartbeats 4000000 in
theorem areCh_ok (s : ByteArray) (w : World) (hs : s.size ≤ 140737488355328) : Calls Tryz.prog 83 #[.string s] w fun e w' => e = .returned (.bool (chars s)) ∧ w' = w := by
  unfold chars
  have HL := Lib.hid hs
  go_enter Tryz.func83, Tryz.ntmps83
  go_wp2_with fail
  go_loopw [6] (fun iv wr => RelCh s w iv wr) (fun iv _ => s.size - (Lib.intOf iv).toNat)
  case atStart => exact ⟨0, Nat.zero_le _, rfl, rfl, rfl⟩
  case round =>
    obtain ⟨i, hi, rfl, hall, rfl⟩ := hrel
    have HA := Lib.hid hall
    clear hall
    by_cases hlt : i < s.size
    · have q1 : decide ((i : Int) < (s.size : Int)) = true := decide_eq_true (by omega)
      have q1n : decide (i < s.size) = true := decide_eq_true hlt
      obtain ⟨x, hx⟩ : ∃ x, tAt (cods s) i = x := ⟨_, rfl⟩
      have e1 : (s[i]'hlt).toNat = x := (cods_at s i hlt).trans hx
      have q3 : (i : Int) < (s.size : Int) := by omega
      have q4 : (0 : Int) ≤ (i : Int) := by omega
      have q5 : IntKind.i64.wrap ((i : Int) + 1) = ((i + 1 : Nat) : Int) := wrap_succ hlt (by omega)
      have HX := Lib.hid hx
      clear hx hi
      by_cases h1 : x < 32
      · have HN := Lib.hid (allN_no (f := fun i => isQt (tAt (cods s) i)) hlt (by show isQt (tAt (cods s) i) = false; rw [HX.out]; simp [isQt]; omega))
        have q6 : decide ((x : Int) < 32) = true := decide_eq_true (by omega)
        have q6n : decide (x < 32) = true := decide_eq_true h1
        go_wp2_with fail
        go_ret
        refine ⟨?_, rfl⟩
        rw [HN.out]
        rfl
      · by_cases h2 : 126 < x
        · have HN := Lib.hid (allN_no (f := fun i => isQt (tAt (cods s) i)) hlt (by show isQt (tAt (cods s) i) = false; rw [HX.out]; simp [isQt]; omega))
          have q6 : decide ((x : Int) < 32) = false := decide_eq_false (by omega)
          have q6n : decide (x < 32) = false := decide_eq_false h1
          have q7 : decide ((126 : Int) < (x : Int)) = true := decide_eq_true (by omega)
          have q7n : decide (126 < x) = true := decide_eq_true h2
          go_wp2_with fail
          go_ret
          refine ⟨?_, rfl⟩
          rw [HN.out]
          rfl
        · have HN := Lib.hid (allN_succ (f := fun i => isQt (tAt (cods s) i)) HA.out (by show isQt (tAt (cods s) i) = true; rw [HX.out]; simp [isQt]; omega))
          have q6 : decide ((x : Int) < 32) = false := decide_eq_false (by omega)
          have q6n : decide (x < 32) = false := decide_eq_false h1
          have q7 : decide ((126 : Int) < (x : Int)) = false := decide_eq_false (by omega)
          have q7n : decide (126 < x) = false := decide_eq_false h2
          go_wp2_with fail
          go_roundw
          case rel => exact ⟨i + 1, hlt, rfl, HN.out, rfl⟩
          case measure => simp only [Lib.intOf]; omega
    · have q1 : decide ((i : Int) < (s.size : Int)) = false := decide_eq_false (by omega)
      have q1n : decide (i < s.size) = false := decide_eq_false hlt
      obtain rfl : i = s.size := by omega
      go_wp2_with fail
      go_ret
      refine ⟨?_, rfl⟩
      rw [HA.out]
      rfl
end Go.Proofs.YtgmnojnalkhepaaGreatDoor

/-
  Package shape: alphabets; lists that are not too long.
-/
namespace Go.Proofs.YtgmnojnalkhepaaGreatDoor
open Go.RowKit
set_option linter.unusedVariables false
set_option linter.unusedSimpArgs false
set_option maxRecDepth 100000

def riseP (s : ByteArray) (j : Nat) : Bool := decide (tAt (cods s) j < tAt (cods s) (j + 1))
def alph (s : ByteArray) : Bool := allN (riseP s) (s.size - 1) && chars s
def RelAl (s : ByteArray) (w : World) (iv : Value) (wr : World) : Prop := ∃ i j : Nat, j + 1 = i ∧ j ≤ s.size - 1 ∧ iv = .int .i64 (i : Nat) ∧ allN (riseP s) j = true ∧ ∃ n, wr = w.drewN n
set_option maxHeartbeats 4000000 in
theorem isAlph_ok (s : ByteArray) (w : World) (hs : s.size ≤ 140737488355328) : Calls Tryz.prog 55 #[.string s] w fun e w' => e = .returned (.bool (alph s)) ∧ Below w.heap.size w w' := by
  unfold alph
  have HL := Lib.hid hs
  have HC := Lib.hid (fun w => areCh_ok s w hs)
  obtain ⟨c, hc⟩ : ∃ c, chars s = c := ⟨_, rfl⟩
  rw [hc] at HC ⊢
  clear hc
  go_enter Tryz.func55, Tryz.ntmps55
  go_wp2_with fail
  go_loopw [3] (fun iv wr => RelAl s w iv wr) (fun iv _ => s.size - (Lib.intOf iv).toNat)
  case atStart => exact ⟨1, 0, rfl, Nat.zero_le _, rfl, rfl, 0, rfl⟩
  case round =>
    obtain ⟨i, j, hij, hj, rfl, hall, m, rfl⟩ := hrel
    have HA := Lib.hid hall
    clear hall
    have HBM := Lib.hid (show Below w.heap.size w (w.drewN m) from ⟨rfl, rfl, rfl, Nat.le_refl _, fun _ _ => rfl⟩)
    by_cases hlt : i < s.size
    · have q1 : decide ((i : Int) < (s.size : Int)) = true := decide_eq_true (by omega)
      have q1n : decide (i < s.size) = true := decide_eq_true hlt
      have hjl : j < s.size := by omega
      obtain ⟨x, hx⟩ : ∃ x, tAt (cods s) i = x := ⟨_, rfl⟩
      obtain ⟨y, hy⟩ : ∃ y, tAt (cods s) j = y := ⟨_, rfl⟩
      have e1 : (s[i]'hlt).toNat = x := (cods_at s i hlt).trans hx
      have e2 : (s[j]'hjl).toNat = y := (cods_at s j hjl).trans hy
      have q3 : (i : Int) < (s.size : Int) := by omega
      have q3j : (j : Int) < (s.size : Int) := by omega
      have q4 : (0 : Int) ≤ (i : Int) := by omega
      have q4j : (0 : Int) ≤ (j : Int) := by omega
      have q5 : IntKind.i64.wrap ((i : Int) + 1) = ((i + 1 : Nat) : Int) := wrap_succ hlt (by omega)
      have q6 : IntKind.i64.wrap ((i : Int) - 1) = (j : Int) := (wrap_ok (x := (i : Int) - 1) (by unfold I64; omega)).trans (by omega)
      have HP := Lib.hid (show riseP s j = decide (y < x) by unfold riseP; rw [hij, hx, hy])
      clear hx hy hj
      by_cases h1 : y < x
      · have q7 : decide ((x : Int) ≤ (y : Int)) = false := decide_eq_false (by omega)
        have q7n : decide (x ≤ y) = false := decide_eq_false (by omega)
        have HN := Lib.hid (allN_succ HA.out (HP.out.trans (decide_eq_true h1)))
        have HIJ := Lib.hid hij
        clear h1 hij
        go_wp2_with fail
        go_quiet (fail)
        go_wp2_with fail
        go_roundw
        case rel => exact ⟨i + 1, i, rfl, by omega, rfl, by rw [← HIJ.out]; exact HN.out, m + nq, by simp⟩
        case measure => simp only [Lib.intOf]; omega
      · have q7 : decide ((x : Int) ≤ (y : Int)) = true := decide_eq_true (by omega)
        have q7n : decide (x ≤ y) = true := decide_eq_true (by omega)
        have HN := Lib.hid (allN_no (n := s.size - 1) (by omega : j < s.size - 1) (HP.out.trans (decide_eq_false h1)))
        clear h1 hij
        go_wp2_with fail
        go_quiet (fail)
        go_wp2_with fail
        go_ret
        refine ⟨?_, ⟨rfl, rfl, rfl, Nat.le_refl _, fun _ _ => rfl⟩⟩
        rw [HN.out]
        rfl
    · have q1 : decide ((i : Int) < (s.size : Int)) = false := decide_eq_false (by omega)
      have q1n : decide (i < s.size) = false := decide_eq_false hlt
      obtain rfl : j = s.size - 1 := by omega
      go_wp2_with fail
      refine (HC.out _).mono ?_
      rintro e w2 ⟨rfl, rfl⟩
      go_wp2_with fail
      go_ret
      refine ⟨?_, HBM.out⟩
      rw [HA.out]
      rfl
def fewOk (p : Nat → Bool) (n : Nat) : Bool := decide (n ≤ 256) && allN p n
set_option maxHeartbeats 4000000 in
theorem fewS_ok (B : Nat) (w : World) (a : Option Addr) (n cap : Nat) (sv : Nat → ByteArray) (fn : FuncId) (first lb : Array Value) (p : Nat → Bool) (hen0 : Enters Tryz.prog fn)
    (hB : B ≤ w.heap.size) (hrow : RowAt B w a n cap 1 (fun i => [.string (sv i)])) (hp : PredN w fn first lb n (fun i => .string (sv i)) p) :
    Calls Tryz.prog 32 #[.slice a n cap, .func (.func fn) first lb] w fun e w' => e = .returned (.bool (fewOk p n)) ∧ Below w.heap.size w w' := by
  have HE := Lib.hid (everyS_ok B w a n cap sv fn first lb p hen0 hB hrow hp)
  have hn : n ≤ 9223372036854775807 := by have := hrow.1; have := hrow.2.1; omega
  have HB0 := Lib.hid (Below.refl w.heap.size w)
  clear hrow hp 
  unfold fewOk
  generalize allN p n = r at *
  by_cases h1 : n ≤ 256
  · have q1 : decide ((n : Int) ≤ 256) = true := decide_eq_true (by omega)
    have q1n : decide (n ≤ 256) = true := decide_eq_true h1
    have HR := Lib.hid (show (decide (n ≤ 256) && r) = r by simp [h1])
    rw [HR.out]
    go_enter Tryz.func32, Tryz.ntmps32
    go_wp2_with fail
    refine HE.out.mono ?_
    rintro e w1 ⟨rfl, hb⟩
    have HB := Lib.hid hb
    clear hb
    go_wp2_with fail
    go_ret
    exact ⟨rfl, HB.out⟩
  · have q1 : decide ((n : Int) ≤ 256) = false := decide_eq_false (by omega)
    have q1n : decide (n ≤ 256) = false := decide_eq_false h1
    rw [q1n, Bool.false_and]
    go_enter Tryz.func32, Tryz.ntmps32
    go_wp2_with fail
    go_ret
    exact ⟨rfl, HB0.out⟩
set_option maxHeartbeats 4000000 in
theorem fewP_ok (B : Nat) (w : World) (a : Option Addr) (n cap : Nat) (pf : Nat → PD) (pt : Nat → TT) (fn : FuncId) (first lb : Array Value) (p : Nat → Bool) (hen0 : Enters Tryz.prog fn)
    (hB : B ≤ w.heap.size) (hrow : RowAt B w a n cap 18 (fun i => pcells (pf i) (pt i))) (hch : ∀ i, i < n → PDIn B w (pf i) ∧ TIn B w (pt i)) (hp : PredN w fn first lb n (fun i => pval (pf i) (pt i)) p) :
    Calls Tryz.prog 57 #[.slice a n cap, .func (.func fn) first lb] w fun e w' => e = .returned (.bool (fewOk p n)) ∧ Below w.heap.size w w' := by
  have HE := Lib.hid (everyP_ok B w a n cap pf pt fn first lb p hen0 hB hrow hch hp)
  have hn : n ≤ 9223372036854775807 := by have := hrow.1; have := hrow.2.1; omega
  have HB0 := Lib.hid (Below.refl w.heap.size w)
  clear hrow hp hch
  unfold fewOk
  generalize allN p n = r at *
  by_cases h1 : n ≤ 256
  · have q1 : decide ((n : Int) ≤ 256) = true := decide_eq_true (by omega)
    have q1n : decide (n ≤ 256) = true := decide_eq_true h1
    have HR := Lib.hid (show (decide (n ≤ 256) && r) = r by simp [h1])
    rw [HR.out]
    go_enter Tryz.func57, Tryz.ntmps57
    go_wp2_with fail
    refine HE.out.mono ?_
    rintro e w1 ⟨rfl, hb⟩
    have HB := Lib.hid hb
    clear hb
    go_wp2_with fail
    go_ret
    exact ⟨rfl, HB.out⟩
  · have q1 : decide ((n : Int) ≤ 256) = false := decide_eq_false (by omega)
    have q1n : decide (n ≤ 256) = false := decide_eq_false h1
    rw [q1n, Bool.false_and]
    go_enter Tryz.func57, Tryz.ntmps57
    go_wp2_with fail
    go_ret
    exact ⟨rfl, HB0.out⟩
end Go.Proofs.YtgmnojnalkhepaaGreatDoor

/-
  Package shape: default values.
-/
namespace Go.Proofs.YtgmnojnalkhepaaGreatDoor
open Go.RowKit
set_option linter.unusedVariables false
set_option linter.unusedSimpArgs false
set_option maxRecDepth 100000

/-- may a value be the default of a part? -/
def VT.dflt : VT → Bool
  | .nil => false
  | .mk kd m s nm _ n _ _ =>
    if kd = 1 then decide (s.size = 0) && (decide (nm.n = 0) && (decide (n = 0) && decide (m = 0 ∨ m = 1)))
    else if kd = 2 then decide (s.size = 0) && (decide (nm.n = 0) && (decide (n = 0) && decide (m ≠ -9223372036854775808)))
    else if kd = 3 then decide (m = 0) && (decide (s.size ≠ 0) && (decide (nm.n = 0) && (decide (n = 0) && lowd s)))
    else if kd = 7 then decide (m = 0) && (decide (nm.n = 0) && (decide (n = 0) && chars s))
    else false
theorem VIn.open {B : Nat} {W : World} {x : VT} (h : VIn B W x) : ∃ kd m s nm a n cap ch, x = .mk kd m s nm a n cap ch := by
  cases x with
  | nil => exact h.elim
  | mk kd m s nm a n cap ch => exact ⟨kd, m, s, nm, a, n, cap, ch, rfl⟩
theorem empty_size (s : ByteArray) : (!s.toList.isEmpty) = decide (s.size ≠ 0) := by
  rw [ByteArray.toList_eq]
  rcases Nat.eq_zero_or_pos s.size with h | h
  · have : s.data.toList = [] := List.length_eq_zero_iff.1 h
    rw [this, h]
    rfl
  · have h2 : s.data.toList ≠ [] := by
      intro e
      have h4 : s.data.toList.length = 0 := by rw [e]; rfl
      have h3 : s.data.toList.length = s.size := rfl
      omega
    rw [decide_eq_true (by omega)]
    cases hh : s.data.toList with
    | nil => exact absurd hh h2
    | cons => rfl
set_option maxHeartbeats 4000000 in
theorem isDefault_ok (B : Nat) (x : VT) (w : World) (hg : Gs w) (hx : VIn B w x) :
    Calls Tryz.prog 80 #[x.v] w fun e w' => e = .returned (.bool x.dflt) ∧ Below w.heap.size w w' := by
  obtain ⟨kd, m, s, ⟨na, nn, ncap, nf⟩, a, n, cap, ch, rfl⟩ := hx.open
  obtain ⟨⟨hk, hm, hs, _⟩, _, _⟩ := hx
  have hs2 := hs
  obtain ⟨b1, h1⟩ : ∃ b1, decide (m ≠ 0) = b1 := ⟨_, rfl⟩
  obtain ⟨b2, h2⟩ : ∃ b2, decide (s.size ≠ 0) = b2 := ⟨_, rfl⟩
  obtain ⟨b3, h3⟩ : ∃ b3, decide (0 < nn) = b3 := ⟨_, rfl⟩
  obtain ⟨b4, h4⟩ : ∃ b4, decide (0 < n) = b4 := ⟨_, rfl⟩
  obtain ⟨m1, hm1⟩ : ∃ m1, decide (m ≠ -9223372036854775808) = m1 := ⟨_, rfl⟩
  obtain ⟨m2, hm2⟩ : ∃ m2, decide (m = 1) = m2 := ⟨_, rfl⟩
  have HL := Lib.hid (fun (w' : World) (hb : Below w.heap.size w w') => lower_ok s w' (hg.below hb).gl hs2)
  have HC := Lib.hid (fun w => areCh_ok s w hs2)
  obtain ⟨u, hu⟩ : ∃ u, (isWd s && isLo (tAt (cods s) 0)) = u := ⟨_, rfl⟩
  obtain ⟨c, hc⟩ : ∃ c, chars s = c := ⟨_, rfl⟩
  rw [hu] at HL
  rw [hc] at HC
  obtain ⟨r, hr⟩ : ∃ r, (VT.mk kd m s ⟨na, nn, ncap, nf⟩ a n cap ch).dflt = r := ⟨_, rfl⟩
  have HR := Lib.hid hr
  rw [hr]
  have HU := Lib.hid hu
  have HCC := Lib.hid hc
  have H1 := Lib.hid h1
  have H2 := Lib.hid h2
  have H3 := Lib.hid h3
  have H4 := Lib.hid h4
  have HM1 := Lib.hid hm1
  have HM2 := Lib.hid hm2
  have q1 : (m != 0) = b1 := by rw [← h1]; simp [bne]; rfl
  have q1e : (m == 0) = !b1 := by rw [← h1]; by_cases e : m = 0 <;> simp [e]
  have q2 : (!s.toList.isEmpty) = b2 := by rw [← h2]; exact empty_size s
  have q3 : decide ((0 : Int) < (nn : Int)) = b3 := by rw [← h3]; simp
  have q4 : decide ((0 : Int) < (n : Int)) = b4 := by rw [← h4]; simp
  have q5 : (m != -9223372036854775808) = m1 := by rw [← hm1]; simp [bne]; rfl
  have q6 : (m == 1) = m2 := by rw [← hm2]; by_cases e : m = 1 <;> simp [e]
  have HB0 := Lib.hid (fun (o1 o2 : Obj) => ((Below.refl w.heap.size w).alloc (Nat.le_refl _) o1).alloc (by simp) o2)
  clear hg hk hm hs hs2 h1 h2 h3 h4 hm1 hm2 hu hc hr
  show Calls _ _ #[.agg #[.int .i64 kd, .int .i64 m, .string s, .slice na nn ncap, .slice a n cap]] w _
  by_cases k1 : kd = 1
  · subst k1
    go_enter Tryz.func80, Tryz.ntmps80
    go_wp2_with fail
    all_goals go_ret
    all_goals refine ⟨?_, HB0.out _ _⟩
    all_goals (have hr := HR.out; have e1 := H1.out; have e2 := H2.out; have e3 := H3.out; have e4 := H4.out; have e5 := HM1.out; have e6 := HM2.out; clear HR H1 H2 H3 H4 HM1 HM2 HL HC HB0 q1 q1e q2 q3 q4 q5 q6; simp only [VT.dflt] at hr; simp_all; try (first | omega | (rw [← hr]; first | (simp; omega) | (have h9 : ¬ nn = 0 := by omega; simp [h9]) | (have h9 : ¬ n = 0 := by omega; simp [h9]))))
  by_cases k2 : kd = 2
  · subst k2
    go_enter Tryz.func80, Tryz.ntmps80
    go_wp2_with fail
    all_goals go_ret
    all_goals refine ⟨?_, HB0.out _ _⟩
    all_goals (have hr := HR.out; have e1 := H1.out; have e2 := H2.out; have e3 := H3.out; have e4 := H4.out; have e5 := HM1.out; have e6 := HM2.out; clear HR H1 H2 H3 H4 HM1 HM2 HL HC HB0 q1 q1e q2 q3 q4 q5 q6; simp only [VT.dflt] at hr; simp_all; try (first | omega | (rw [← hr]; first | (simp; omega) | (have h9 : ¬ nn = 0 := by omega; simp [h9]) | (have h9 : ¬ n = 0 := by omega; simp [h9]))))
  by_cases k3 : kd = 3
  · subst k3
    go_enter Tryz.func80, Tryz.ntmps80
    go_wp2_with fail
    all_goals first
      | (go_ret; refine ⟨?_, HB0.out _ _⟩)
      | (refine (HL.out _ (HB0.out _ _)).mono ?_
         rintro e w1 ⟨rfl, hb⟩
         have HB1 := Lib.hid ((HB0.out _ _).trans (hb.mono (HB0.out _ _).size))
         clear hb
         go_wp2_with fail
         go_ret
         refine ⟨?_, HB1.out⟩
         clear HB1)
    all_goals (have hr := HR.out; have e1 := H1.out; have e2 := H2.out; have e3 := H3.out; have e4 := H4.out; have e5 := HM1.out; have e6 := HM2.out; clear HR H1 H2 H3 H4 HM1 HM2 HL HC HB0 q1 q1e q2 q3 q4 q5 q6; have hu := HU.out; have hc := HCC.out; clear HU HCC; simp only [VT.dflt, lowd] at hr; simp_all; try (first | omega | (rw [← hr]; first | (simp; omega) | (have h9 : ¬ nn = 0 := by omega; simp [h9]) | (have h9 : ¬ n = 0 := by omega; simp [h9]))))
  by_cases k7 : kd = 7
  · subst k7
    go_enter Tryz.func80, Tryz.ntmps80
    go_wp2_with fail
    all_goals first
      | (go_ret; refine ⟨?_, HB0.out _ _⟩)
      | (refine (HC.out _).mono ?_
         rintro e w1 ⟨rfl, rfl⟩
         go_wp2_with fail
         go_ret
         refine ⟨?_, HB0.out _ _⟩)
    all_goals (have hr := HR.out; have e1 := H1.out; have e2 := H2.out; have e3 := H3.out; have e4 := H4.out; have e5 := HM1.out; have e6 := HM2.out; clear HR H1 H2 H3 H4 HM1 HM2 HL HC HB0 q1 q1e q2 q3 q4 q5 q6; have hu := HU.out; have hc := HCC.out; clear HU HCC; simp only [VT.dflt, lowd] at hr; simp_all; try (first | omega | (rw [← hr]; first | (simp; omega) | (have h9 : ¬ nn = 0 := by omega; simp [h9]) | (have h9 : ¬ n = 0 := by omega; simp [h9]))))
  have p1 : (kd == 1) = false := by simpa using k1
  have p2 : (kd == 2) = false := by simpa using k2
  have p3 : (kd == 3) = false := by simpa using k3
  have p7 : (kd == 7) = false := by simpa using k7
  have HF := Lib.hid (show r = false by rw [← HR.out]; simp only [VT.dflt]; rw [if_neg k1, if_neg k2, if_neg k3, if_neg k7])
  clear k1 k2 k3 k7
  go_enter Tryz.func80, Tryz.ntmps80
  go_wp2_with fail
  go_ret
  refine ⟨?_, HB0.out _ _⟩
  rw [HF.out]
  rfl
end Go.Proofs.YtgmnojnalkhepaaGreatDoor

/-
  Package shape: 'isComponent', 'isAlternative'.
-/
namespace Go.Proofs.YtgmnojnalkhepaaGreatDoor
open Go.RowKit
set_option linter.unusedVariables false
set_option linter.unusedSimpArgs false
set_option maxRecDepth 100000

/-- is a part well-formed, its type being so or not? -/
def compOk (p : PD) (t : Bool) : Bool := lowd p.name && (t && (!(p.opt && decide (0 < p.d.n)) && (decide (p.d.n ≤ 1) && allN (fun i => (p.d.f i).dflt) p.d.n)))
theorem enters_isDefault : Enters Tryz.prog 80 := enters_of Tryz.func80 (by kernel_rfl) rfl
set_option maxHeartbeats 8000000 in
theorem comp_ok (B : Nat) (p : PD) (t : TT) (w : World) (hgs : Gs w) (hB : B ≤ w.heap.size) (hp : PDIn B w p) (ht : TIn B w t) (r : Bool)
    (hrec : ∀ w', Below w.heap.size w w' → Calls Tryz.prog 27 #[t.v] w' fun e w'' => e = .returned (.bool r) ∧ Below w'.heap.size w' w'') :
    Calls Tryz.prog 51 #[pval p t] w fun e w' => e = .returned (.bool (compOk p r)) ∧ Below w.heap.size w w' := by
  obtain ⟨kd, tn, op, lo, hi, lw, hg, ca, cn, cc, cch, ext, fr, sa, sn, sc, sf, ma, mn, mc, mf, pa, pn, pc, pf, ptf, aa, an, ac, af, atf, ea, en, ec, etf, rfl⟩ := ht.open
  obtain ⟨qn, qo, ⟨qa, qk, qc, qf⟩⟩ := p
  obtain ⟨hqn, hd⟩ := hp
  have hk : qk ≤ 9223372036854775807 := by have := hd.1.1; have := hd.1.2.1; dsimp only at *; omega
  have HX := Lib.hid (Bx.new w #[.string qn, .int .i64 kd, .string tn, .int .i64 op, .int .i64 lo, .int .i64 hi, .bool lw, .bool hg, .slice ca cn cc, .bool ext, .string fr, .slice sa sn sc, .slice ma mn mc, .slice pa pn pc, .slice aa an ac, .slice ea en ec, .bool qo, .slice qa qk qc] 42)
  have HB0 := Lib.hid ((Below.refl w.heap.size w).alloc (Nat.le_refl _) (.cells #[.string qn, .int .i64 kd, .string tn, .int .i64 op, .int .i64 lo, .int .i64 hi, .bool lw, .bool hg, .slice ca cn cc, .bool ext, .string fr, .slice sa sn sc, .slice ma mn mc, .slice pa pn pc, .slice aa an ac, .slice ea en ec, .bool qo, .slice qa qk qc] 42))
  have HL := Lib.hid (lower_ok qn (w.alloc (.cells #[.string qn, .int .i64 kd, .string tn, .int .i64 op, .int .i64 lo, .int .i64 hi, .bool lw, .bool hg, .slice ca cn cc, .bool ext, .string fr, .slice sa sn sc, .slice ma mn mc, .slice pa pn pc, .slice aa an ac, .slice ea en ec, .bool qo, .slice qa qk qc] 42)) ((hgs.below HB0.out).gl) hqn)
  obtain ⟨u, hu⟩ : ∃ u, (isWd qn && isLo (tAt (cods qn) 0)) = u := ⟨_, rfl⟩
  rw [hu] at HL
  have HR := Lib.hid hrec
  obtain ⟨al, hal⟩ : ∃ al, allN (fun i => (qf i).dflt) qk = al := ⟨_, rfl⟩
  have HE := Lib.hid (fun (w' : World) (hb : Below w.heap.size w w') => everyV_ok w.heap.size w' qa qk qc qf 80 #[] #[] (fun i => (qf i).dflt) enters_isDefault hb.size (hd.1.below hb hB) (fun i hi => (hd.2 i hi).below hb hB)
    (fun i hi w'' hb' => isDefault_ok w.heap.size (qf i) w'' (hgs.below (hb.trans (hb'.mono hb.size))) ((hd.2 i hi).below (hb.trans (hb'.mono hb.size)) hB)))
  rw [hal] at HE
  have HRES := Lib.hid (show compOk ⟨qn, qo, ⟨qa, qk, qc, qf⟩⟩ r = (u && (r && (!(qo && decide (0 < qk)) && (decide (qk ≤ 1) && al)))) by unfold compOk lowd; rw [hu, hal])
  obtain ⟨res, hres⟩ : ∃ res, compOk ⟨qn, qo, ⟨qa, qk, qc, qf⟩⟩ r = res := ⟨_, rfl⟩
  rw [hres] at HRES ⊢
  clear hrec hgs hB hqn hd hu hal hres ht
  change Hid (∀ w', Below w.heap.size w w' → Calls Tryz.prog 27 #[.agg #[.int .i64 kd, .string tn, .int .i64 op, .int .i64 lo, .int .i64 hi, .bool lw, .bool hg, .slice ca cn cc, .bool ext, .string fr, .slice sa sn sc, .slice ma mn mc, .slice pa pn pc, .slice aa an ac, .slice ea en ec]] w' fun e w'' => e = .returned (.bool r) ∧ Below w'.heap.size w' w'') at HR
  show Calls _ _ #[.agg #[.string qn, .int .i64 kd, .string tn, .int .i64 op, .int .i64 lo, .int .i64 hi, .bool lw, .bool hg, .slice ca cn cc, .bool ext, .string fr, .slice sa sn sc, .slice ma mn mc, .slice pa pn pc, .slice aa an ac, .slice ea en ec, .bool qo, .slice qa qk qc]] w _
  cases u with
  | false =>
    obtain rfl : res = false := by rw [HRES.out]; rfl
    go_enter Tryz.func51, Tryz.ntmps51
    go_wp2_with fail
    refine HL.out.mono ?_
    rintro e w1 ⟨rfl, hb⟩
    have HB1 := Lib.hid (HB0.out.trans (hb.mono HB0.out.size))
    clear hb
    go_wp2_with fail
    go_ret
    exact ⟨rfl, HB1.out⟩
  | true =>
    obtain ⟨b1, hb1⟩ : ∃ b1, decide (0 < qk) = b1 := ⟨_, rfl⟩
    obtain ⟨b2, hb2⟩ : ∃ b2, decide (qk ≤ 1) = b2 := ⟨_, rfl⟩
    have z1 : decide ((0 : Int) < (qk : Int)) = b1 := by rw [← hb1]; simp
    have z2 : decide ((qk : Int) ≤ 1) = b2 := by rw [← hb2]; exact decide_eq_decide.2 (by omega)
    rw [hb1, hb2] at HRES
    go_enter Tryz.func51, Tryz.ntmps51
    go_wp2_with fail
    refine HL.out.mono ?_
    rintro e w1 ⟨rfl, hb⟩
    have HB1 := Lib.hid (HB0.out.trans (hb.mono HB0.out.size))
    have hx1 := HX.out.below hb HX.out.lt
    have HX1 := Lib.hid hx1
    have c0 := hx1.cell 0 rfl
    have c1 := hx1.cell 1 rfl
    have c2 := hx1.cell 2 rfl
    have c3 := hx1.cell 3 rfl
    have c4 := hx1.cell 4 rfl
    have c5 := hx1.cell 5 rfl
    have c6 := hx1.cell 6 rfl
    have c7 := hx1.cell 7 rfl
    have c8 := hx1.cell 8 rfl
    have c9 := hx1.cell 9 rfl
    have c10 := hx1.cell 10 rfl
    have c11 := hx1.cell 11 rfl
    have c12 := hx1.cell 12 rfl
    have c13 := hx1.cell 13 rfl
    have c14 := hx1.cell 14 rfl
    have c15 := hx1.cell 15 rfl
    have c16 := hx1.cell 16 rfl
    have c17 := hx1.cell 17 rfl
    clear hb hx1 HX
    go_wp2_with fail
    refine (HR.out w1 HB1.out).mono ?_
    rintro e w2 ⟨rfl, hb⟩
    have HB2 := Lib.hid (HB1.out.trans (hb.mono HB1.out.size))
    have hx2 := HX1.out.below hb HX1.out.lt
    clear c0 c1 c2 c3 c4 c5 c6 c7 c8 c9 c10 c11 c12 c13 c14 c15 c16 c17
    have d16 := hx2.cell 16 rfl
    have d17 := hx2.cell 17 rfl
    have HE2 := Lib.hid (HE.out w2 HB2.out)
    clear hb hx2 HX1 HE
    cases r with
    | false =>
      obtain rfl : res = false := by rw [HRES.out]; rfl
      go_wp2_with fail
      go_ret
      exact ⟨rfl, HB2.out⟩
    | true =>
      cases hqo : (qo && b1) with
      | true =>
        obtain rfl : res = false := by rw [HRES.out, hqo]; rfl
        obtain ⟨rfl, rfl⟩ : qo = true ∧ b1 = true := by simpa using hqo
        clear hqo
        go_wp2_with fail
        go_ret
        exact ⟨rfl, HB2.out⟩
      | false =>
        cases b2 with
        | false =>
          obtain rfl : res = false := by rw [HRES.out]; simp
          go_wp2_with fail
          all_goals first
            | (go_ret; exact ⟨rfl, HB2.out⟩)
            | (exfalso; simp_all)
        | true =>
          have HRES2 := Lib.hid (show al = res by rw [HRES.out, hqo]; simp)
          go_wp2_with fail
          all_goals first
            | (exfalso; simp_all; done)
            | (refine HE2.out.mono ?_
               rintro e w3 ⟨rfl, hb⟩
               have HB3 := Lib.hid (HB2.out.trans (hb.mono HB2.out.size))
               clear hb
               go_wp2_with fail
               go_ret
               refine ⟨?_, HB3.out⟩
               rw [HRES2.out]
               rfl)
end Go.Proofs.YtgmnojnalkhepaaGreatDoor
