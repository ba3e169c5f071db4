/-
  Package token: kinds of octets; the octet at a place.
-/
import Derived.Test.YthcodmcfkmochaaDoorTkM
import Derived.WalkLawsBesides
import Derived.Deep.DeepFit
import Derived.OwnWalk
namespace Go.Proofs.YthcodmcfkmochaaDoor
open Go.RowKit
set_option linter.unusedVariables false
set_option linter.unusedSimpArgs false
set_option maxRecDepth 100000

theorem tup_ok (c : Nat) (w : World) : Calls Tryd.prog 15 #[.int .u8 (c : Nat)] w fun e w' => e = .returned (.bool (isUp c)) ∧ w = w' := by
  by_cases h1 : 65 ≤ c
  · by_cases h2 : c ≤ 90
    · rw [show isUp c = true by simp [isUp, h1, h2]]
      have q1 : decide ((65 : Int) ≤ (c : Int)) = true := decide_eq_true (by omega)
      have q2 : decide ((c : Int) ≤ (90 : Int)) = true := decide_eq_true (by omega)
      have q3 : decide (65 ≤ c) = true := decide_eq_true h1
      have q4 : decide (c ≤ 90) = true := decide_eq_true h2
      clear h1 h2
      go_enter Tryd.func15, Tryd.ntmps15
      go_wp2_with fail
      go_ret
      exact ⟨rfl, rfl⟩
    · rw [show isUp c = false by simp [isUp, h1, h2]]
      have q1 : decide ((65 : Int) ≤ (c : Int)) = true := decide_eq_true (by omega)
      have q2 : decide ((c : Int) ≤ (90 : Int)) = false := decide_eq_false (by omega)
      have q3 : decide (65 ≤ c) = true := decide_eq_true h1
      have q4 : decide (c ≤ 90) = false := decide_eq_false h2
      clear h1 h2
      go_enter Tryd.func15, Tryd.ntmps15
      go_wp2_with fail
      go_ret
      exact ⟨rfl, rfl⟩
  · rw [show isUp c = false by simp [isUp, h1]]
    have q1 : decide ((65 : Int) ≤ (c : Int)) = false := decide_eq_false (by omega)
    have q3 : decide (65 ≤ c) = false := decide_eq_false h1
    clear h1
    go_enter Tryd.func15, Tryd.ntmps15
    go_wp2_with fail
    go_ret
    exact ⟨rfl, rfl⟩
theorem tlo_ok (c : Nat) (w : World) : Calls Tryd.prog 17 #[.int .u8 (c : Nat)] w fun e w' => e = .returned (.bool (isLo c)) ∧ w = w' := by
  by_cases h1 : 97 ≤ c
  · by_cases h2 : c ≤ 122
    · rw [show isLo c = true by simp [isLo, h1, h2]]
      have q1 : decide ((97 : Int) ≤ (c : Int)) = true := decide_eq_true (by omega)
      have q2 : decide ((c : Int) ≤ (122 : Int)) = true := decide_eq_true (by omega)
      have q3 : decide (97 ≤ c) = true := decide_eq_true h1
      have q4 : decide (c ≤ 122) = true := decide_eq_true h2
      clear h1 h2
      go_enter Tryd.func17, Tryd.ntmps17
      go_wp2_with fail
      go_ret
      exact ⟨rfl, rfl⟩
    · rw [show isLo c = false by simp [isLo, h1, h2]]
      have q1 : decide ((97 : Int) ≤ (c : Int)) = true := decide_eq_true (by omega)
      have q2 : decide ((c : Int) ≤ (122 : Int)) = false := decide_eq_false (by omega)
      have q3 : decide (97 ≤ c) = true := decide_eq_true h1
      have q4 : decide (c ≤ 122) = false := decide_eq_false h2
      clear h1 h2
      go_enter Tryd.func17, Tryd.ntmps17
      go_wp2_with fail
      go_ret
      exact ⟨rfl, rfl⟩
  · rw [show isLo c = false by simp [isLo, h1]]
    have q1 : decide ((97 : Int) ≤ (c : Int)) = false := decide_eq_false (by omega)
    have q3 : decide (97 ≤ c) = false := decide_eq_false h1
    clear h1
    go_enter Tryd.func17, Tryd.ntmps17
    go_wp2_with fail
    go_ret
    exact ⟨rfl, rfl⟩
theorem tdg_ok (c : Nat) (w : World) : Calls Tryd.prog 29 #[.int .u8 (c : Nat)] w fun e w' => e = .returned (.bool (isDg c)) ∧ w = w' := by
  by_cases h1 : 48 ≤ c
  · by_cases h2 : c ≤ 57
    · rw [show isDg c = true by simp [isDg, h1, h2]]
      have q1 : decide ((48 : Int) ≤ (c : Int)) = true := decide_eq_true (by omega)
      have q2 : decide ((c : Int) ≤ (57 : Int)) = true := decide_eq_true (by omega)
      have q3 : decide (48 ≤ c) = true := decide_eq_true h1
      have q4 : decide (c ≤ 57) = true := decide_eq_true h2
      clear h1 h2
      go_enter Tryd.func29, Tryd.ntmps29
      go_wp2_with fail
      go_ret
      exact ⟨rfl, rfl⟩
    · rw [show isDg c = false by simp [isDg, h1, h2]]
      have q1 : decide ((48 : Int) ≤ (c : Int)) = true := decide_eq_true (by omega)
      have q2 : decide ((c : Int) ≤ (57 : Int)) = false := decide_eq_false (by omega)
      have q3 : decide (48 ≤ c) = true := decide_eq_true h1
      have q4 : decide (c ≤ 57) = false := decide_eq_false h2
      clear h1 h2
      go_enter Tryd.func29, Tryd.ntmps29
      go_wp2_with fail
      go_ret
      exact ⟨rfl, rfl⟩
  · rw [show isDg c = false by simp [isDg, h1]]
    have q1 : decide ((48 : Int) ≤ (c : Int)) = false := decide_eq_false (by omega)
    have q3 : decide (48 ≤ c) = false := decide_eq_false h1
    clear h1
    go_enter Tryd.func29, Tryd.ntmps29
    go_wp2_with fail
    go_ret
    exact ⟨rfl, rfl⟩
theorem tqt_ok (c : Nat) (w : World) : Calls Tryd.prog 36 #[.int .u8 (c : Nat)] w fun e w' => e = .returned (.bool (isQt c)) ∧ w = w' := by
  by_cases h1 : 32 ≤ c
  · by_cases h2 : c ≤ 126
    · rw [show isQt c = true by simp [isQt, h1, h2]]
      have q1 : decide ((32 : Int) ≤ (c : Int)) = true := decide_eq_true (by omega)
      have q2 : decide ((c : Int) ≤ (126 : Int)) = true := decide_eq_true (by omega)
      have q3 : decide (32 ≤ c) = true := decide_eq_true h1
      have q4 : decide (c ≤ 126) = true := decide_eq_true h2
      clear h1 h2
      go_enter Tryd.func36, Tryd.ntmps36
      go_wp2_with fail
      go_ret
      exact ⟨rfl, rfl⟩
    · rw [show isQt c = false by simp [isQt, h1, h2]]
      have q1 : decide ((32 : Int) ≤ (c : Int)) = true := decide_eq_true (by omega)
      have q2 : decide ((c : Int) ≤ (126 : Int)) = false := decide_eq_false (by omega)
      have q3 : decide (32 ≤ c) = true := decide_eq_true h1
      have q4 : decide (c ≤ 126) = false := decide_eq_false h2
      clear h1 h2
      go_enter Tryd.func36, Tryd.ntmps36
      go_wp2_with fail
      go_ret
      exact ⟨rfl, rfl⟩
  · rw [show isQt c = false by simp [isQt, h1]]
    have q1 : decide ((32 : Int) ≤ (c : Int)) = false := decide_eq_false (by omega)
    have q3 : decide (32 ≤ c) = false := decide_eq_false h1
    clear h1
    go_enter Tryd.func36, Tryd.ntmps36
    go_wp2_with fail
    go_ret
    exact ⟨rfl, rfl⟩
theorem rdg_ok (c : Nat) (w : World) : Calls Tryd.prog 22 #[.int .u8 (c : Nat)] w fun e w' => e = .returned (.bool (isDg c)) ∧ w = w' := by
  by_cases h1 : 48 ≤ c
  · by_cases h2 : c ≤ 57
    · rw [show isDg c = true by simp [isDg, h1, h2]]
      have q1 : decide ((48 : Int) ≤ (c : Int)) = true := decide_eq_true (by omega)
      have q2 : decide ((c : Int) ≤ (57 : Int)) = true := decide_eq_true (by omega)
      have q3 : decide (48 ≤ c) = true := decide_eq_true h1
      have q4 : decide (c ≤ 57) = true := decide_eq_true h2
      clear h1 h2
      go_enter Tryd.func22, Tryd.ntmps22
      go_wp2_with fail
      go_ret
      exact ⟨rfl, rfl⟩
    · rw [show isDg c = false by simp [isDg, h1, h2]]
      have q1 : decide ((48 : Int) ≤ (c : Int)) = true := decide_eq_true (by omega)
      have q2 : decide ((c : Int) ≤ (57 : Int)) = false := decide_eq_false (by omega)
      have q3 : decide (48 ≤ c) = true := decide_eq_true h1
      have q4 : decide (c ≤ 57) = false := decide_eq_false h2
      clear h1 h2
      go_enter Tryd.func22, Tryd.ntmps22
      go_wp2_with fail
      go_ret
      exact ⟨rfl, rfl⟩
  · rw [show isDg c = false by simp [isDg, h1]]
    have q1 : decide ((48 : Int) ≤ (c : Int)) = false := decide_eq_false (by omega)
    have q3 : decide (48 ≤ c) = false := decide_eq_false h1
    clear h1
    go_enter Tryd.func22, Tryd.ntmps22
    go_wp2_with fail
    go_ret
    exact ⟨rfl, rfl⟩
theorem tlt_ok (c : Nat) (w : World) : Calls Tryd.prog 27 #[.int .u8 (c : Nat)] w fun e w' => e = .returned (.bool (isLt c)) ∧ w = w' := by
  have H1 := Lib.hid (fun w => tup_ok c w)
  have H2 := Lib.hid (fun w => tlo_ok c w)
  unfold isLt
  cases h1 : isUp c with
  | true =>
    rw [h1] at H1
    clear h1
    go_enter Tryd.func27, Tryd.ntmps27
    go_wp2_with fail
    refine (H1.out _).mono ?_
    rintro e w1 ⟨rfl, rfl⟩
    go_wp2_with fail
    go_ret
    exact ⟨rfl, rfl⟩
  | false =>
    rw [h1] at H1
    clear h1
    generalize isLo c = b at *
    go_enter Tryd.func27, Tryd.ntmps27
    go_wp2_with fail
    refine (H1.out _).mono ?_
    rintro e w1 ⟨rfl, rfl⟩
    go_wp2_with fail
    refine (H2.out _).mono ?_
    rintro e w2 ⟨rfl, rfl⟩
    go_wp2_with fail
    go_ret
    exact ⟨by simp, rfl⟩
theorem tws_ok (c : Nat) (w : World) : Calls Tryd.prog 23 #[.int .u8 (c : Nat)] w fun e w' => e = .returned (.bool (isWs c)) ∧ w = w' := by
  by_cases h0 : c = 32
  · subst h0
    rw [show isWs 32 = true by decide]
    go_enter Tryd.func23, Tryd.ntmps23
    go_wp2_with fail
    go_ret
    exact ⟨rfl, rfl⟩
  by_cases h1 : c = 9
  · subst h1
    rw [show isWs 9 = true by decide]
    go_enter Tryd.func23, Tryd.ntmps23
    go_wp2_with fail
    go_ret
    exact ⟨rfl, rfl⟩
  by_cases h2 : c = 10
  · subst h2
    rw [show isWs 10 = true by decide]
    go_enter Tryd.func23, Tryd.ntmps23
    go_wp2_with fail
    go_ret
    exact ⟨rfl, rfl⟩
  by_cases h3 : c = 13
  · subst h3
    rw [show isWs 13 = true by decide]
    go_enter Tryd.func23, Tryd.ntmps23
    go_wp2_with fail
    go_ret
    exact ⟨rfl, rfl⟩
  rw [show isWs c = false by simp [isWs, h0, h1, h2, h3]]
  have q0 : ((c : Int) == 32) = false := beq_false_of_ne (by omega)
  have r0 : decide (c = 32) = false := decide_eq_false h0
  have q1 : ((c : Int) == 9) = false := beq_false_of_ne (by omega)
  have r1 : decide (c = 9) = false := decide_eq_false h1
  have q2 : ((c : Int) == 10) = false := beq_false_of_ne (by omega)
  have r2 : decide (c = 10) = false := decide_eq_false h2
  have q3 : ((c : Int) == 13) = false := beq_false_of_ne (by omega)
  have r3 : decide (c = 13) = false := decide_eq_false h3
  clear h0 h1 h2 h3
  go_enter Tryd.func23, Tryd.ntmps23
  go_wp2_with fail
  go_ret
  exact ⟨rfl, rfl⟩
theorem rlt_ok (c : Nat) (w : World) : Calls Tryd.prog 21 #[.int .u8 (c : Nat)] w fun e w' => e = .returned (.bool (isLt c)) ∧ w = w' := by
  by_cases g0 : 97 ≤ c ∧ c ≤ 122
  · rw [show isLt c = true from isLt_iff.2 (by omega)]
    have q0 : decide ((97 : Int) ≤ (c : Int)) = true := decide_eq_true (by omega)
    have r0 : decide (97 ≤ c) = true := decide_eq_true (by omega)
    have q1 : decide ((c : Int) ≤ (122 : Int)) = true := decide_eq_true (by omega)
    have r1 : decide (c ≤ 122) = true := decide_eq_true (by omega)
    clear g0
    go_enter Tryd.func21, Tryd.ntmps21
    go_wp2_with fail
    go_ret
    exact ⟨rfl, rfl⟩
  by_cases g1 : 122 < c
  · rw [show isLt c = false from Bool.eq_false_iff.2 fun h => by rw [isLt_iff] at h; omega]
    have q0 : decide ((97 : Int) ≤ (c : Int)) = true := decide_eq_true (by omega)
    have r0 : decide (97 ≤ c) = true := decide_eq_true (by omega)
    have q1 : decide ((c : Int) ≤ (122 : Int)) = false := decide_eq_false (by omega)
    have r1 : decide (c ≤ 122) = false := decide_eq_false (by omega)
    have q2 : decide ((65 : Int) ≤ (c : Int)) = true := decide_eq_true (by omega)
    have r2 : decide (65 ≤ c) = true := decide_eq_true (by omega)
    have q3 : decide ((c : Int) ≤ (90 : Int)) = false := decide_eq_false (by omega)
    have r3 : decide (c ≤ 90) = false := decide_eq_false (by omega)
    clear g0 g1
    go_enter Tryd.func21, Tryd.ntmps21
    go_wp2_with fail
    go_ret
    exact ⟨rfl, rfl⟩
  by_cases g2 : 90 < c ∧ c < 97
  · rw [show isLt c = false from Bool.eq_false_iff.2 fun h => by rw [isLt_iff] at h; omega]
    have q0 : decide ((97 : Int) ≤ (c : Int)) = false := decide_eq_false (by omega)
    have r0 : decide (97 ≤ c) = false := decide_eq_false (by omega)
    have q1 : decide ((65 : Int) ≤ (c : Int)) = true := decide_eq_true (by omega)
    have r1 : decide (65 ≤ c) = true := decide_eq_true (by omega)
    have q2 : decide ((c : Int) ≤ (90 : Int)) = false := decide_eq_false (by omega)
    have r2 : decide (c ≤ 90) = false := decide_eq_false (by omega)
    clear g0 g1 g2
    go_enter Tryd.func21, Tryd.ntmps21
    go_wp2_with fail
    go_ret
    exact ⟨rfl, rfl⟩
  by_cases g3 : 65 ≤ c ∧ c ≤ 90
  · rw [show isLt c = true from isLt_iff.2 (by omega)]
    have q0 : decide ((97 : Int) ≤ (c : Int)) = false := decide_eq_false (by omega)
    have r0 : decide (97 ≤ c) = false := decide_eq_false (by omega)
    have q1 : decide ((65 : Int) ≤ (c : Int)) = true := decide_eq_true (by omega)
    have r1 : decide (65 ≤ c) = true := decide_eq_true (by omega)
    have q2 : decide ((c : Int) ≤ (90 : Int)) = true := decide_eq_true (by omega)
    have r2 : decide (c ≤ 90) = true := decide_eq_true (by omega)
    clear g0 g1 g2 g3
    go_enter Tryd.func21, Tryd.ntmps21
    go_wp2_with fail
    go_ret
    exact ⟨rfl, rfl⟩
  rw [show isLt c = false from Bool.eq_false_iff.2 fun h => by rw [isLt_iff] at h; omega]
  have q0 : decide ((97 : Int) ≤ (c : Int)) = false := decide_eq_false (by omega)
  have r0 : decide (97 ≤ c) = false := decide_eq_false (by omega)
  have q1 : decide ((65 : Int) ≤ (c : Int)) = false := decide_eq_false (by omega)
  have r1 : decide (65 ≤ c) = false := decide_eq_false (by omega)
  clear g0 g1 g2 g3
  go_enter Tryd.func21, Tryd.ntmps21
  go_wp2_with fail
  go_ret
  exact ⟨rfl, rfl⟩
theorem tat_ok (s : ByteArray) (i : Nat) (w : World) : Calls Tryd.prog 24 #[.string s, .int .i64 (i : Nat)] w fun e w' => e = .returned (.int .u8 (tAt (cods s) i : Nat)) ∧ w = w' := by
  rcases Nat.lt_or_ge i s.size with h | h
  · obtain ⟨x, hx⟩ : ∃ x, tAt (cods s) i = x := ⟨_, rfl⟩
    have e1 : (s[i]'h).toNat = x := (cods_at s i h).trans hx
    rw [hx]
    have q1 : decide ((s.size : Int) ≤ (i : Int)) = false := decide_eq_false (by omega)
    have q2 : decide (s.size ≤ i) = false := decide_eq_false (by omega)
    have q3 : (i : Int) < (s.size : Int) := by omega
    have q4 : (0 : Int) ≤ (i : Int) := by omega
    clear hx
    go_enter Tryd.func24, Tryd.ntmps24
    go_wp2_with fail
    go_ret
    exact ⟨rfl, rfl⟩
  · rw [tAt_out (by rw [cods_length]; exact h)]
    have q1 : decide ((s.size : Int) ≤ (i : Int)) = true := decide_eq_true (by omega)
    have q2 : decide (s.size ≤ i) = true := decide_eq_true h
    clear h
    go_enter Tryd.func24, Tryd.ntmps24
    go_wp2_with fail
    go_ret
    exact ⟨rfl, rfl⟩
end Go.Proofs.YthcodmcfkmochaaDoor
