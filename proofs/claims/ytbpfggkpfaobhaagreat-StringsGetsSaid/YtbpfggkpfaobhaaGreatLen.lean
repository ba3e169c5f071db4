/-
  length.Put and length.PutSmall, whatever they are given.
-/
import Derived.Test.YtbpfggkpfaobhaaGreatLnM
import Derived.Test.YtbpfggkpfaobhaaGreatWhole
import Derived.Laws.Bits64b
namespace Go.Proofs.YtbpfggkpfaobhaaGreat
open Go.RowKit
set_option linter.unusedVariables false
set_option linter.unusedSimpArgs false
set_option maxRecDepth 100000

theorem valid_ok (lo hi : Int) (w : World) (b : Bool) (hb : b = decide (¬ lBad lo hi)) :
    Calls Tryz.prog 76 #[.int .i64 lo, .int .i64 hi] w fun e w' => e = .returned (.bool b) ∧ w = w' := by
  unfold lBad at hb
  by_cases h1 : lo < 0
  · have q1 : decide ((0 : Int) ≤ lo) = false := decide_eq_false (by omega)
    have : b = false := by rw [hb]; exact decide_eq_false (by omega)
    subst this
    clear hb h1
    go_enter Tryz.func76, Tryz.ntmps76
    go_wp2_with fail
    go_ret
    exact ⟨rfl, rfl⟩
  have q1 : decide ((0 : Int) ≤ lo) = true := decide_eq_true (by omega)
  by_cases h2 : hi < 0
  · have q2 : decide (hi < (0 : Int)) = true := decide_eq_true (by omega)
    have : b = true := by rw [hb]; exact decide_eq_true (by omega)
    subst this
    clear hb h1 h2
    go_enter Tryz.func76, Tryz.ntmps76
    go_wp2_with fail
    go_ret
    exact ⟨rfl, rfl⟩
  have q2 : decide (hi < (0 : Int)) = false := decide_eq_false (by omega)
  have q3 : decide (lo ≤ hi) = b := by
    rw [hb, decide_eq_decide]
    omega
  clear hb h1 h2
  go_enter Tryz.func76, Tryz.ntmps76
  go_wp2_with fail
  go_ret
  exact ⟨rfl, rfl⟩
theorem narrow_ok (hi : Int) (w : World) (b : Bool) (hb : b = lNar hi) :
    Calls Tryz.prog 78 #[.int .i64 hi] w fun e w' => e = .returned (.bool b) ∧ w = w' := by
  unfold lNar at hb
  by_cases h1 : hi < 0
  · have q1 : decide ((0 : Int) ≤ hi) = false := decide_eq_false (by omega)
    have : b = false := by rw [hb]; exact decide_eq_false (by omega)
    subst this
    clear hb h1
    go_enter Tryz.func78, Tryz.ntmps78
    go_wp2_with fail
    go_ret
    exact ⟨rfl, rfl⟩
  have q1 : decide ((0 : Int) ≤ hi) = true := decide_eq_true (by omega)
  have q3 : decide (hi ≤ (65535 : Int)) = b := by
    rw [hb, decide_eq_decide]
    omega
  clear hb h1
  go_enter Tryz.func78, Tryz.ntmps78
  go_wp2_with fail
  go_ret
  exact ⟨rfl, rfl⟩
theorem exceeds_ok (n hi : Int) (w : World) (b : Bool) (hb : b = decide (0 ≤ hi ∧ hi < n)) :
    Calls Tryz.prog 77 #[.int .i64 n, .int .i64 hi] w fun e w' => e = .returned (.bool b) ∧ w = w' := by
  by_cases h1 : hi < 0
  · have q1 : decide ((0 : Int) ≤ hi) = false := decide_eq_false (by omega)
    have : b = false := by rw [hb]; exact decide_eq_false (by omega)
    subst this
    clear hb h1
    go_enter Tryz.func77, Tryz.ntmps77
    go_wp2_with fail
    go_ret
    exact ⟨rfl, rfl⟩
  have q1 : decide ((0 : Int) ≤ hi) = true := decide_eq_true (by omega)
  have q3 : decide (hi < n) = b := by
    rw [hb, decide_eq_decide]
    omega
  clear hb h1
  go_enter Tryz.func77, Tryz.ntmps77
  go_wp2_with fail
  go_ret
  exact ⟨rfl, rfl⟩
def lform (n : Int) : Int := if n < 128 then 1 else if n < 16384 then 2 else 3
theorem formOf_ok (n : Int) (w : World) (k : Int) (hk : k = lform n) :
    Calls Tryz.prog 89 #[.int .i64 n] w fun e w' => e = .returned (.int .i64 k) ∧ w = w' := by
  unfold lform at hk
  by_cases h1 : n < 128
  · have q1 : decide (n < (128 : Int)) = true := decide_eq_true h1
    rw [if_pos h1] at hk
    subst hk
    go_enter Tryz.func89, Tryz.ntmps89
    go_wp2_with fail
    go_ret
    exact ⟨rfl, rfl⟩
  rw [if_neg h1] at hk
  have q1 : decide (n < (128 : Int)) = false := decide_eq_false h1
  by_cases h2 : n < 16384
  · have q2 : decide (n < (16384 : Int)) = true := decide_eq_true h2
    rw [if_pos h2] at hk
    subst hk
    go_enter Tryz.func89, Tryz.ntmps89
    go_wp2_with fail
    go_ret
    exact ⟨rfl, rfl⟩
  · have q2 : decide (n < (16384 : Int)) = false := decide_eq_false h2
    rw [if_neg h2] at hk
    subst hk
    go_enter Tryz.func89, Tryz.ntmps89
    go_wp2_with fail
    go_ret
    exact ⟨rfl, rfl⟩
theorem first_ok (n : Nat) (w : World) (hn : (n : Int) ≤ 9223372036854775807) :
    Calls Tryz.prog 80 #[.int .i64 n] w fun e w' => e = .returned (.tuple #[.int .i64 (lfst n : Nat), .bool (decide (16384 ≤ n))]) ∧ w = w' := by
  rcases Nat.lt_or_ge n 16384 with h | h
  · rw [lfst_small h, decide_eq_false (show ¬ 16384 ≤ n by omega)]
    obtain ⟨k, hk, hk3⟩ : ∃ k, k = lform n ∧ (k != 3) = true := ⟨lform n, rfl, by unfold lform; split; rfl; rw [if_pos (by omega)]; rfl⟩
    have HF := Lib.hid (formOf_ok n w k hk)
    clear hk
    go_enter Tryz.func80, Tryz.ntmps80
    go_wp2_with fail
    refine HF.out.mono ?_
    rintro e w1 ⟨rfl, rfl⟩
    go_wp2_with fail
    go_ret2
    exact ⟨rfl, rfl⟩
  · rw [decide_eq_true h]
    have HF := Lib.hid (formOf_ok n w 3 (by unfold lform; rw [if_neg (by omega), if_neg (by omega)]))
    obtain ⟨m, m1, m4, hm, hmin⟩ := lfst_frag h
    rw [hm]
    have HM := Lib.hid hmin
    clear hm hmin
    go_enter Tryz.func80, Tryz.ntmps80
    go_wp2_with fail
    refine HF.out.mono ?_
    rintro e w1 ⟨rfl, rfl⟩
    go_wp2_with fail
    go_ret2
    refine ⟨?_, rfl⟩
    rw [show ((16384 * m : Nat) : Int) = 16384 * min 4 ((n : Int) / 16384) by have := HM.out; omega]
    rfl
theorem or_two {c : Nat} (h : c < 16384) : bits .or .u64 32768 (c : Int) = ((32768 + c : Nat) : Int) := by
  have h1 := bits_or_u64_nat 32768 c (by omega) (by omega)
  rw [← Nat.two_pow_add_eq_or_of_lt (i := 15) (b := c) (by omega) 1] at h1
  exact h1
theorem or_frag {m : Nat} (h : m < 64) : bits .or .u64 192 (m : Int) = ((192 + m : Nat) : Int) := by
  have h1 := bits_or_u64_nat 192 m (by omega) (by omega)
  rw [← Nat.two_pow_add_eq_or_of_lt (i := 6) (b := m) (by omega) 3] at h1
  exact h1
theorem putForm_one (w : World) (b : Nat) (B : List Bool) (al : Bool) (c : Nat) (h : WrAt w b B) (h1 : c < 128) (hn : B.length ≤ 100000000) :
    Calls Tryz.prog 81 #[.pointer (some ⟨b, 0, none⟩), .bool al, .int .i64 (c : Nat)] w fun e w' => e = .returned (.int .i64 0) ∧ WrAt w' b (putF al B (c)) ∧ Only b w w' := by
  have HF := Lib.hid (fun w => formOf_ok (c : Nat) w 1 (by unfold lform; rw [if_pos (by omega)]))
  have hpl := padded_le B
  have HP : Go.RowKit.Hid (∀ (w : World) (B : List Bool), WrAt w b B → B.length ≤ 100000100 → Calls Tryz.prog 45 #[.pointer (some ⟨b, 0, none⟩), .int .u64 c, .int .i64 8] w fun e w' => e = .returned (.int .i64 0) ∧ WrAt w' b (B ++ formB (c)) ∧ Only b w w') := fun w B h hn => by
    have := put_ok w b B c 8 h (by omega) (by omega) (by omega)
    rw [← formB_one h1] at this
    exact this
  cases al with
  | false =>
    have HP1 := Lib.hid (HP.out w B h (by omega))
    clear h HP
    go_enter Tryz.func81, Tryz.ntmps81
    go_wp2_with fail
    refine (HF.out w).mono ?_
    rintro e' w1 ⟨rfl, rfl⟩
    go_wp2_with fail
    refine HP1.out.mono ?_
    rintro e' w1 ⟨rfl, h1, h2⟩
    have H1 := Lib.hid h1
    have H2 := Lib.hid h2
    clear h1 h2 
    go_wp2_with fail
    go_ret
    exact ⟨rfl, H1.out, H2.out⟩
  | true =>
    have HA := Lib.hid (align_ok w b B h (by omega))
    clear h
    go_enter Tryz.func81, Tryz.ntmps81
    go_wp2_with fail
    refine HA.out.mono ?_
    rintro e' w1 ⟨rfl, h1, h2⟩
    have H1 := Lib.hid h1
    have H2 := Lib.hid h2
    clear h1 h2 
    go_wp2_with fail
    refine (HF.out w1).mono ?_
    rintro e' w2 ⟨rfl, rfl⟩
    go_wp2_with fail
    refine (HP.out w1 _ H1.out (by omega)).mono ?_
    rintro e' w2 ⟨rfl, h1, h2⟩
    have H3 := Lib.hid h1
    have H4 := Lib.hid (H2.out.trans h2)
    clear h1 h2 
    go_wp2_with fail
    go_ret
    exact ⟨rfl, H3.out, H4.out⟩
theorem putForm_two (w : World) (b : Nat) (B : List Bool) (al : Bool) (c : Nat) (h : WrAt w b B) (h1 : 128 ≤ c) (h2 : c < 16384) (hn : B.length ≤ 100000000) :
    Calls Tryz.prog 81 #[.pointer (some ⟨b, 0, none⟩), .bool al, .int .i64 (c : Nat)] w fun e w' => e = .returned (.int .i64 0) ∧ WrAt w' b (putF al B (c)) ∧ Only b w w' := by
  have HF := Lib.hid (fun w => formOf_ok (c : Nat) w 2 (by unfold lform; rw [if_neg (by omega), if_pos (by omega)]))
  have hpl := padded_le B
  have HP : Go.RowKit.Hid (∀ (w : World) (B : List Bool), WrAt w b B → B.length ≤ 100000100 → Calls Tryz.prog 45 #[.pointer (some ⟨b, 0, none⟩), .int .u64 (bits .or .u64 32768 (c : Int)), .int .i64 16] w fun e w' => e = .returned (.int .i64 0) ∧ WrAt w' b (B ++ formB (c)) ∧ Only b w w') := fun w B h hn => by
    have := put_ok w b B (32768 + c) 16 h (by omega) (by omega) (by omega)
    rw [← formB_two h1 h2, ← or_two h2] at this
    exact this
  cases al with
  | false =>
    have HP1 := Lib.hid (HP.out w B h (by omega))
    clear h HP
    go_enter Tryz.func81, Tryz.ntmps81
    go_wp2_with fail
    refine (HF.out w).mono ?_
    rintro e' w1 ⟨rfl, rfl⟩
    go_wp2_with fail
    refine HP1.out.mono ?_
    rintro e' w1 ⟨rfl, h1, h2⟩
    have H1 := Lib.hid h1
    have H2 := Lib.hid h2
    clear h1 h2 
    go_wp2_with fail
    go_ret
    exact ⟨rfl, H1.out, H2.out⟩
  | true =>
    have HA := Lib.hid (align_ok w b B h (by omega))
    clear h
    go_enter Tryz.func81, Tryz.ntmps81
    go_wp2_with fail
    refine HA.out.mono ?_
    rintro e' w1 ⟨rfl, h1, h2⟩
    have H1 := Lib.hid h1
    have H2 := Lib.hid h2
    clear h1 h2 
    go_wp2_with fail
    refine (HF.out w1).mono ?_
    rintro e' w2 ⟨rfl, rfl⟩
    go_wp2_with fail
    refine (HP.out w1 _ H1.out (by omega)).mono ?_
    rintro e' w2 ⟨rfl, h1, h2⟩
    have H3 := Lib.hid h1
    have H4 := Lib.hid (H2.out.trans h2)
    clear h1 h2 
    go_wp2_with fail
    go_ret
    exact ⟨rfl, H3.out, H4.out⟩
theorem putForm_frag (w : World) (b : Nat) (B : List Bool) (al : Bool) (m : Nat) (h : WrAt w b B) (h1 : 1 ≤ m) (h2 : m ≤ 4) (hn : B.length ≤ 100000000) :
    Calls Tryz.prog 81 #[.pointer (some ⟨b, 0, none⟩), .bool al, .int .i64 (16384 * m : Nat)] w fun e w' => e = .returned (.int .i64 0) ∧ WrAt w' b (putF al B (16384 * m)) ∧ Only b w w' := by
  have HF := Lib.hid (fun w => formOf_ok (16384 * m : Nat) w 3 (by unfold lform; rw [if_neg (by omega), if_neg (by omega)]))
  have hpl := padded_le B
  have HP : Go.RowKit.Hid (∀ (w : World) (B : List Bool), WrAt w b B → B.length ≤ 100000100 → Calls Tryz.prog 45 #[.pointer (some ⟨b, 0, none⟩), .int .u64 (bits .or .u64 192 (m : Int)), .int .i64 8] w fun e w' => e = .returned (.int .i64 0) ∧ WrAt w' b (B ++ formB (16384 * m)) ∧ Only b w w') := fun w B h hn => by
    have := put_ok w b B (192 + m) 8 h (by omega) (by omega) (by omega)
    rw [show nb (192 + m) 8 = formB (16384 * m) by rw [formB_frag (by omega), show 16384 * m / 16384 = m by omega], ← or_frag (show m < 64 by omega)] at this
    exact this
  cases al with
  | false =>
    have HP1 := Lib.hid (HP.out w B h (by omega))
    clear h HP
    go_enter Tryz.func81, Tryz.ntmps81
    go_wp2_with fail
    refine (HF.out w).mono ?_
    rintro e' w1 ⟨rfl, rfl⟩
    go_wp2_with fail
    refine HP1.out.mono ?_
    rintro e' w1 ⟨rfl, h1, h2⟩
    have H1 := Lib.hid h1
    have H2 := Lib.hid h2
    clear h1 h2 
    go_wp2_with fail
    go_ret
    exact ⟨rfl, H1.out, H2.out⟩
  | true =>
    have HA := Lib.hid (align_ok w b B h (by omega))
    clear h
    go_enter Tryz.func81, Tryz.ntmps81
    go_wp2_with fail
    refine HA.out.mono ?_
    rintro e' w1 ⟨rfl, h1, h2⟩
    have H1 := Lib.hid h1
    have H2 := Lib.hid h2
    clear h1 h2 
    go_wp2_with fail
    refine (HF.out w1).mono ?_
    rintro e' w2 ⟨rfl, rfl⟩
    go_wp2_with fail
    refine (HP.out w1 _ H1.out (by omega)).mono ?_
    rintro e' w2 ⟨rfl, h1, h2⟩
    have H3 := Lib.hid h1
    have H4 := Lib.hid (H2.out.trans h2)
    clear h1 h2 
    go_wp2_with fail
    go_ret
    exact ⟨rfl, H3.out, H4.out⟩
theorem putForm_any (w : World) (b : Nat) (B : List Bool) (al : Bool) (c : Nat) (h : WrAt w b B) (hc : c < 16384 ∨ ∃ m, 1 ≤ m ∧ m ≤ 4 ∧ c = 16384 * m) (hn : B.length ≤ 100000000) :
    Calls Tryz.prog 81 #[.pointer (some ⟨b, 0, none⟩), .bool al, .int .i64 (c : Nat)] w fun e w' => e = .returned (.int .i64 0) ∧ WrAt w' b (putF al B c) ∧ Only b w w' := by
  by_cases h1 : c < 128
  · exact putForm_one w b B al c h h1 hn
  by_cases h2 : c < 16384
  · exact putForm_two w b B al c h (by omega) h2 hn
  obtain ⟨m, m1, m4, rfl⟩ : ∃ m, 1 ≤ m ∧ m ≤ 4 ∧ c = 16384 * m := by
    rcases hc with hc | hc
    · omega
    · exact hc
  exact putForm_frag w b B al m h m1 m4 hn
theorem lput_any (w : World) (b : Nat) (B : List Bool) (al : Bool) (n lo hi : Int) (h : WrAt w b B) (b1 : -9223372036854775808 ≤ n ∧ n ≤ 9223372036854775807) (b2 : -9223372036854775808 ≤ lo ∧ lo ≤ 9223372036854775807) (b3 : -9223372036854775808 ≤ hi ∧ hi ≤ 9223372036854775807) (hn : B.length ≤ 10000000) :
    Calls Tryz.prog 64 #[.pointer (some ⟨b, 0, none⟩), .bool al, .int .i64 n, .int .i64 lo, .int .i64 hi] w fun e' w' =>
      e' = .returned (.tuple #[.int .i64 (lCnt n lo hi), .bool (lMore n lo hi), .int .i64 (lErr n lo hi)]) ∧ WrAt w' b (lBits al B n lo hi) ∧ Only b w w' := by
  by_cases hb : lBad lo hi
  · have he := lErr_arg (n := n) (lo := lo) (hi := hi) (by unfold lBad at hb; omega)
    obtain ⟨p1, p2, p3⟩ := lPut_bad (by rw [he]; decide) al B
    rw [p1, p2, p3, he]
    have HV := Lib.hid (valid_ok lo hi w false (by simp [hb]))
    have HW := Lib.hid h
    clear h he p1 p2 p3
    go_enter Tryz.func64, Tryz.ntmps64
    go_wp2_with fail
    refine HV.out.mono ?_
    rintro e' w1 ⟨rfl, rfl⟩
    go_wp2_with fail
    go_ret3
    exact ⟨rfl, HW.out, Only.refl _ _⟩
  have HV := Lib.hid (valid_ok lo hi w true (by simp [hb]))
  by_cases h0 : n < 0
  · have he := lErr_arg (n := n) (lo := lo) (hi := hi) (by omega)
    obtain ⟨p1, p2, p3⟩ := lPut_bad (by rw [he]; decide) al B
    rw [p1, p2, p3, he]
    have q1 : decide (n < (0 : Int)) = true := decide_eq_true h0
    have HW := Lib.hid h
    clear h he p1 p2 p3
    go_enter Tryz.func64, Tryz.ntmps64
    go_wp2_with fail
    refine HV.out.mono ?_
    rintro e' w1 ⟨rfl, rfl⟩
    go_wp2_with fail
    go_ret3
    exact ⟨rfl, HW.out, Only.refl _ _⟩
  have q1 : decide (n < (0 : Int)) = false := decide_eq_false h0
  have hg : ¬ (lo < 0 ∨ (0 ≤ hi ∧ hi < lo) ∨ n < 0) := by unfold lBad at hb; omega
  by_cases h2 : n < lo
  · have he := lErr_con hg (.inl h2)
    obtain ⟨p1, p2, p3⟩ := lPut_bad (by rw [he]; decide) al B
    rw [p1, p2, p3, he]
    have q2 : decide (n < lo) = true := decide_eq_true h2
    have HW := Lib.hid h
    clear h he p1 p2 p3
    go_enter Tryz.func64, Tryz.ntmps64
    go_wp2_with fail
    refine HV.out.mono ?_
    rintro e' w1 ⟨rfl, rfl⟩
    go_wp2_with fail
    go_ret3
    exact ⟨rfl, HW.out, Only.refl _ _⟩
  have q2 : decide (n < lo) = false := decide_eq_false h2
  by_cases h3 : 0 ≤ hi ∧ hi < n
  · have he := lErr_con hg (.inr h3)
    obtain ⟨p1, p2, p3⟩ := lPut_bad (by rw [he]; decide) al B
    rw [p1, p2, p3, he]
    have HE := Lib.hid (exceeds_ok n hi w true (decide_eq_true h3).symm)
    have HW := Lib.hid h
    clear h he p1 p2 p3
    go_enter Tryz.func64, Tryz.ntmps64
    go_wp2_with fail
    refine HV.out.mono ?_
    rintro e' w1 ⟨rfl, rfl⟩
    go_wp2_with fail
    refine HE.out.mono ?_
    rintro e' w1 ⟨rfl, rfl⟩
    go_wp2_with fail
    go_ret3
    exact ⟨rfl, HW.out, Only.refl _ _⟩
  have HE := Lib.hid (exceeds_ok n hi w false (decide_eq_false h3).symm)
  have he := lErr_ok hg (by omega)
  by_cases hh : 0 ≤ hi ∧ hi ≤ 65535
  · obtain ⟨p1, p2, p3⟩ := lPut_nar he hh al B
    rw [p1, p2, p3, he]
    have HN := Lib.hid (narrow_ok hi w true (lNar_yes hh).symm)
    have HP := Lib.hid (wput_any w b B al n lo hi h b1 b2 b3 (by omega))
    rw [wErr_ok (by omega) (by omega)] at HP
    clear h he p1 p2 p3
    go_enter Tryz.func64, Tryz.ntmps64
    go_wp2_with fail
    refine HV.out.mono ?_
    rintro e' w1 ⟨rfl, rfl⟩
    go_wp2_with fail
    refine HE.out.mono ?_
    rintro e' w1 ⟨rfl, rfl⟩
    go_wp2_with fail
    refine HN.out.mono ?_
    rintro e' w1 ⟨rfl, rfl⟩
    go_wp2_with fail
    refine HP.out.mono ?_
    rintro e' w1 ⟨rfl, h1, h2⟩
    have H1 := Lib.hid h1
    have H2 := Lib.hid h2
    clear h1 h2 
    go_wp2_with fail
    go_ret3
    exact ⟨rfl, H1.out, H2.out⟩
  · obtain ⟨p1, p2, p3⟩ := lPut_form he hh al B
    rw [p1, p2, p3, he]
    have HN := Lib.hid (narrow_ok hi w false (lNar_no hh).symm)
    obtain ⟨N, rfl⟩ : ∃ N : Nat, n = N := ⟨n.toNat, by omega⟩
    have HF := Lib.hid (first_ok N w (by omega))
    have HP := Lib.hid (putForm_any w b B al (lfst N) h (lfst_form N) (by omega))
    have hm : decide (16384 ≤ (N : Int)) = decide (16384 ≤ N) := by rw [decide_eq_decide]; omega
    rw [hm, Int.toNat_natCast]
    generalize decide (16384 ≤ N) = mo at *
    generalize lfst N = c at *
    clear h he p1 p2 p3 hg hh h3 hm
    go_enter Tryz.func64, Tryz.ntmps64
    go_wp2_with fail
    refine HV.out.mono ?_
    rintro e' w1 ⟨rfl, rfl⟩
    go_wp2_with fail
    refine HE.out.mono ?_
    rintro e' w1 ⟨rfl, rfl⟩
    go_wp2_with fail
    refine HN.out.mono ?_
    rintro e' w1 ⟨rfl, rfl⟩
    go_wp2_with fail
    refine HF.out.mono ?_
    rintro e' w1 ⟨rfl, rfl⟩
    go_wp2_with fail
    refine HP.out.mono ?_
    rintro e' w1 ⟨rfl, h1, h2⟩
    have H1 := Lib.hid h1
    have H2 := Lib.hid h2
    clear h1 h2 
    go_wp2_with fail
    go_ret3
    exact ⟨rfl, H1.out, H2.out⟩
theorem lput_nil (w : World) (al : Bool) (n lo hi : Int) :
    Calls Tryz.prog 64 #[.pointer none, .bool al, .int .i64 n, .int .i64 lo, .int .i64 hi] w fun e' w' => e' = .returned (.tuple #[.int .i64 0, .bool false, .int .i64 1]) ∧ w = w' := by
  go_enter Tryz.func64, Tryz.ntmps64
  go_wp2_with fail
  go_ret3
  exact ⟨rfl, rfl⟩
end Go.Proofs.YtbpfggkpfaobhaaGreat
