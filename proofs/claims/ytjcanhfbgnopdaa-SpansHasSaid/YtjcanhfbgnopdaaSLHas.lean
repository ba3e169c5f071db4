/-
  Proved: the statement SpansHas (a number is in what two sets are together, in both, and the one without the other, just as it is in them; all these are right), for every input; no further condition.
-/
import Derived.Test.YtjcanhfbgnopdaaRows
import Derived.Test.YtjcanhfbgnopdaaSpB
import Derived.ProofKit
import Derived.OpenShut
import Derived.ShutString
import Derived.ChangeOld
namespace Go.Proofs.Ytjcanhfbgnopdaa.spansHas
open Go.ChangeShapes Go.WideShapes Go.ChangeAt Go.RowKit
open Go.ChangeMaps (open_string shut_string)
set_option linter.unusedVariables false
set_option linter.unusedSimpArgs false
set_option maxRecDepth 100000

theorem own : ownKnob Try.prog.godebug = none := by kernel_rfl
theorem laidOut : laidOutB Try.prog = true := by kernel_rfl

set_option maxHeartbeats 8000000 in
theorem walk (w : World) (a0 : Option Addr) (len0 cap0 : Nat) (w0 : ∃ l, RSl w (.slice a0 len0 cap0) l ∧ l.length = len0 ∧ len0 ≤ maxLen) (a1 : Option Addr) (len1 cap1 : Nat) (w1 : ∃ l, RSl w (.slice a1 len1 cap1) l ∧ l.length = len1 ∧ len1 ≤ maxLen) (a2 : Int) (w2 : (Lit.int .i64 a2).wf = true) :
    Calls Try.prog 5 #[.slice a0 len0 cap0, .slice a1 len1 cap1, .int .i64 a2] w fun e w' => e = .returned (.bool true) ∧ Below w.heap.size w w' := by
  obtain ⟨a, ha, hn0, hm0⟩ := w0
  obtain ⟨b, hb, hn1, hm1⟩ := w1
  have hi2 : I64 a2 := by simp [Lit.wf, IntKind.min, IntKind.max, IntKind.signed, IntKind.bits] at w2; unfold I64; omega
  have HI2 := Lib.hid hi2
  clear hi2 w2
  have HB := Lib.hid (Below.refl w.heap.size w)
  have HVa := Lib.hid ha
  have HNa := Lib.hid hn0
  have HVb := Lib.hid hb
  have HNb := Lib.hid hn1
  clear ha hb hn0 hm0 hn1 hm1
  go_enter Try.func5, Try.ntmps5
  go_wp2_with fail
  refine (awake_ok _).mono ?_
  rintro e w1x ⟨rfl, h2⟩
  have HVa_1 := Lib.hid (HVa.out.below h2)
  have HVb_1 := Lib.hid (HVb.out.below h2)
  have HB_1 := Lib.hid (HB.out.trans (h2.mono HB.out.size))
  clear h2 HVa HVb HB
  by_cases hl0 : 40 < len0
  · have q0 : decide ((40 : Int) < (len0 : Int)) = true := decide_eq_true (by omega)
    have qn0 : decide (40 < len0) = true := decide_eq_true hl0
    go_wp2_with fail
    go_ret
    exact ⟨rfl, HB_1.out⟩
  have q0 : decide ((40 : Int) < (len0 : Int)) = false := decide_eq_false (by omega)
  have qn0 : decide (40 < len0) = false := decide_eq_false hl0
  have HLa := Lib.hid (show a.length ≤ 40 by have := HNa.out; omega)
  clear hl0
  by_cases hl1 : 40 < len1
  · have q1 : decide ((40 : Int) < (len1 : Int)) = true := decide_eq_true (by omega)
    have qn1 : decide (40 < len1) = true := decide_eq_true hl1
    go_wp2_with fail
    go_ret
    exact ⟨rfl, HB_1.out⟩
  have q1 : decide ((40 : Int) < (len1 : Int)) = false := decide_eq_false (by omega)
  have qn1 : decide (40 < len1) = false := decide_eq_false hl1
  have HLb := Lib.hid (show b.length ≤ 40 by have := HNb.out; omega)
  clear hl1
  obtain ⟨xb, hxb⟩ : ∃ xb, hasB a a2 = xb := ⟨_, rfl⟩
  obtain ⟨yb, hyb⟩ : ∃ yb, hasB b a2 = yb := ⟨_, rfl⟩
  have HXB := Lib.hid hxb
  have HYB := Lib.hid hyb
  clear hxb hyb
  have hc := Has_ok _ _ a a2 HVa_1.out (by have := HLa.out; omega)
  rw [HXB.out] at hc
  have HCx := Lib.hid hc
  clear hc
  go_wp2_with fail
  refine (HCx.out).mono ?_
  rintro e w2x ⟨rfl, h2⟩
  have HVa_2 := Lib.hid (HVa_1.out.below h2)
  have HVb_2 := Lib.hid (HVb_1.out.below h2)
  have HB_2 := Lib.hid (HB_1.out.trans (h2.mono HB_1.out.size))
  clear h2 HVa_1 HVb_1 HB_1 HCx
  have hc := Has_ok _ _ b a2 HVb_2.out (by have := HLb.out; omega)
  rw [HYB.out] at hc
  have HCx := Lib.hid hc
  clear hc
  go_wp2_with fail
  refine (HCx.out).mono ?_
  rintro e w3x ⟨rfl, h2⟩
  have HVa_3 := Lib.hid (HVa_2.out.below h2)
  have HVb_3 := Lib.hid (HVb_2.out.below h2)
  have HB_3 := Lib.hid (HB_2.out.trans (h2.mono HB_2.out.size))
  clear h2 HVa_2 HVb_2 HB_2 HCx
  go_wp2_with fail
  refine (Union_ok _ _ _ a b HVa_3.out HVb_3.out (by have := HLa.out; omega) (by have := HLb.out; omega)).mono ?_
  rintro e w4x ⟨v4, u, rfl, h1, h2⟩
  have HVa_4 := Lib.hid (HVa_3.out.below h2)
  have HVb_4 := Lib.hid (HVb_3.out.below h2)
  have HB_4 := Lib.hid (HB_3.out.trans (h2.mono HB_3.out.size))
  have HVu_4 := Lib.hid h1.1
  have HSu := Lib.hid h1.2.1
  have HLu := Lib.hid h1.2.2
  clear h1 h2 HVa_3 HVb_3 HB_3
  go_wp2_with fail
  refine (Meet_ok _ _ _ a b HVa_4.out HVb_4.out (by have := HLa.out; omega) (by have := HLb.out; omega)).mono ?_
  rintro e w5x ⟨v5, m, rfl, h1, h2⟩
  have HVa_5 := Lib.hid (HVa_4.out.below h2)
  have HVb_5 := Lib.hid (HVb_4.out.below h2)
  have HVu_5 := Lib.hid (HVu_4.out.below h2)
  have HB_5 := Lib.hid (HB_4.out.trans (h2.mono HB_4.out.size))
  have HVm_5 := Lib.hid h1.1
  have HSm := Lib.hid h1.2.1
  have HLm := Lib.hid h1.2.2
  clear h1 h2 HVa_4 HVb_4 HVu_4 HB_4
  go_wp2_with fail
  refine (Minus_ok _ _ _ a b HVa_5.out HVb_5.out (by have := HLa.out; omega) (by have := HLb.out; omega)).mono ?_
  rintro e w6x ⟨v6, d, rfl, h1, h2⟩
  have HVa_6 := Lib.hid (HVa_5.out.below h2)
  have HVb_6 := Lib.hid (HVb_5.out.below h2)
  have HVu_6 := Lib.hid (HVu_5.out.below h2)
  have HVm_6 := Lib.hid (HVm_5.out.below h2)
  have HB_6 := Lib.hid (HB_5.out.trans (h2.mono HB_5.out.size))
  have HVd_6 := Lib.hid h1.1
  have HSd := Lib.hid h1.2.1
  have HLd := Lib.hid h1.2.2
  clear h1 h2 HVa_5 HVb_5 HVu_5 HVm_5 HB_5
  have HU := Lib.hid (HSu.out.has HI2.out (xb || yb) (by rw [Bool.or_eq_true, ← HXB.out, ← HYB.out, hasB_iff, hasB_iff]))
  have HM := Lib.hid (HSm.out.has HI2.out (xb && yb) (by rw [Bool.and_eq_true, ← HXB.out, ← HYB.out, hasB_iff, hasB_iff]))
  have HD := Lib.hid (HSd.out.has HI2.out (xb && !yb) (by rw [Bool.and_eq_true, Bool.not_eq_true', ← HXB.out, ← HYB.out, hasB_iff, hasB_false]))
  clear HVa_6
  clear HVb_6
  cases xb <;> cases yb
  · have hc := Has_ok _ _ u a2 HVu_6.out (by have := HLu.out; have := HLa.out; have := HLb.out; omega)
    rw [HU.out] at hc
    simp only [Bool.or_true, Bool.or_false, Bool.true_or, Bool.false_or] at hc
    have HCx := Lib.hid hc
    clear hc
    go_wp2_with fail
    refine (HCx.out).mono ?_
    rintro e w7x ⟨rfl, h2⟩
    have HVu_7 := Lib.hid (HVu_6.out.below h2)
    have HVm_7 := Lib.hid (HVm_6.out.below h2)
    have HVd_7 := Lib.hid (HVd_6.out.below h2)
    have HB_7 := Lib.hid (HB_6.out.trans (h2.mono HB_6.out.size))
    clear h2 HVu_6 HVm_6 HVd_6 HB_6 HCx
    have hc := Has_ok _ _ m a2 HVm_7.out (by have := HLm.out; have := HLa.out; have := HLb.out; omega)
    rw [HM.out] at hc
    simp only [Bool.and_true, Bool.and_false, Bool.true_and, Bool.false_and] at hc
    have HCx := Lib.hid hc
    clear hc
    go_wp2_with fail
    refine (HCx.out).mono ?_
    rintro e w8x ⟨rfl, h2⟩
    have HVu_8 := Lib.hid (HVu_7.out.below h2)
    have HVm_8 := Lib.hid (HVm_7.out.below h2)
    have HVd_8 := Lib.hid (HVd_7.out.below h2)
    have HB_8 := Lib.hid (HB_7.out.trans (h2.mono HB_7.out.size))
    clear h2 HVu_7 HVm_7 HVd_7 HB_7 HCx
    have hc := Has_ok _ _ d a2 HVd_8.out (by have := HLd.out; have := HLa.out; have := HLb.out; omega)
    rw [HD.out] at hc
    simp only [Bool.and_true, Bool.and_false, Bool.true_and, Bool.false_and, Bool.not_true, Bool.not_false] at hc
    have HCx := Lib.hid hc
    clear hc
    go_wp2_with fail
    refine (HCx.out).mono ?_
    rintro e w9x ⟨rfl, h2⟩
    have HVu_9 := Lib.hid (HVu_8.out.below h2)
    have HVm_9 := Lib.hid (HVm_8.out.below h2)
    have HVd_9 := Lib.hid (HVd_8.out.below h2)
    have HB_9 := Lib.hid (HB_8.out.trans (h2.mono HB_8.out.size))
    clear h2 HVu_8 HVm_8 HVd_8 HB_8 HCx
    have hc := Right_ok _ _ u HVu_9.out (by have := HLu.out; have := HLa.out; have := HLb.out; omega)
    have HCx := Lib.hid hc
    clear hc
    go_wp2_with fail
    refine (HCx.out).mono ?_
    rintro e w10x ⟨bx, rfl, hbx, h2⟩
    have HVu_10 := Lib.hid (HVu_9.out.below h2)
    have HVm_10 := Lib.hid (HVm_9.out.below h2)
    have HVd_10 := Lib.hid (HVd_9.out.below h2)
    have HB_10 := Lib.hid (HB_9.out.trans (h2.mono HB_9.out.size))
    obtain rfl : bx = true := hbx.2 HSu.out.1
    clear h2 HVu_9 HVm_9 HVd_9 HB_9 HCx hbx
    have hc := Right_ok _ _ m HVm_10.out (by have := HLm.out; have := HLa.out; have := HLb.out; omega)
    have HCx := Lib.hid hc
    clear hc
    go_wp2_with fail
    refine (HCx.out).mono ?_
    rintro e w11x ⟨bx, rfl, hbx, h2⟩
    have HVu_11 := Lib.hid (HVu_10.out.below h2)
    have HVm_11 := Lib.hid (HVm_10.out.below h2)
    have HVd_11 := Lib.hid (HVd_10.out.below h2)
    have HB_11 := Lib.hid (HB_10.out.trans (h2.mono HB_10.out.size))
    obtain rfl : bx = true := hbx.2 HSm.out.1
    clear h2 HVu_10 HVm_10 HVd_10 HB_10 HCx hbx
    have hc := Right_ok _ _ d HVd_11.out (by have := HLd.out; have := HLa.out; have := HLb.out; omega)
    have HCx := Lib.hid hc
    clear hc
    go_wp2_with fail
    refine (HCx.out).mono ?_
    rintro e w12x ⟨bx, rfl, hbx, h2⟩
    have HVu_12 := Lib.hid (HVu_11.out.below h2)
    have HVm_12 := Lib.hid (HVm_11.out.below h2)
    have HVd_12 := Lib.hid (HVd_11.out.below h2)
    have HB_12 := Lib.hid (HB_11.out.trans (h2.mono HB_11.out.size))
    obtain rfl : bx = true := hbx.2 HSd.out.1
    clear h2 HVu_11 HVm_11 HVd_11 HB_11 HCx hbx
    go_wp2_with fail
    refine (Whole_ok _).mono ?_
    rintro e w13x ⟨vw, rfl, hw, h2⟩
    have HVu_13 := Lib.hid (HVu_12.out.below h2)
    have HVm_13 := Lib.hid (HVm_12.out.below h2)
    have HVd_13 := Lib.hid (HVd_12.out.below h2)
    have HB_13 := Lib.hid (HB_12.out.trans (h2.mono HB_12.out.size))
    clear h2 HVu_12 HVm_12 HVd_12 HB_12
    have hc := Has_ok _ _ wholeL a2 hw (by simp [wholeL])
    rw [wholeL_says.has HI2.out true (by simp)] at hc
    have HCx := Lib.hid hc
    clear hc hw
    go_wp2_with fail
    refine (HCx.out).mono ?_
    rintro e w14x ⟨rfl, h2⟩
    have HVu_14 := Lib.hid (HVu_13.out.below h2)
    have HVm_14 := Lib.hid (HVm_13.out.below h2)
    have HVd_14 := Lib.hid (HVd_13.out.below h2)
    have HB_14 := Lib.hid (HB_13.out.trans (h2.mono HB_13.out.size))
    clear h2 HVu_13 HVm_13 HVd_13 HB_13 HCx
    go_wp2_with fail
    go_ret
    exact ⟨rfl, HB_14.out⟩
  · have hc := Has_ok _ _ u a2 HVu_6.out (by have := HLu.out; have := HLa.out; have := HLb.out; omega)
    rw [HU.out] at hc
    simp only [Bool.or_true, Bool.or_false, Bool.true_or, Bool.false_or] at hc
    have HCx := Lib.hid hc
    clear hc
    go_wp2_with fail
    refine (HCx.out).mono ?_
    rintro e w7x ⟨rfl, h2⟩
    have HVu_7 := Lib.hid (HVu_6.out.below h2)
    have HVm_7 := Lib.hid (HVm_6.out.below h2)
    have HVd_7 := Lib.hid (HVd_6.out.below h2)
    have HB_7 := Lib.hid (HB_6.out.trans (h2.mono HB_6.out.size))
    clear h2 HVu_6 HVm_6 HVd_6 HB_6 HCx
    have hc := Has_ok _ _ m a2 HVm_7.out (by have := HLm.out; have := HLa.out; have := HLb.out; omega)
    rw [HM.out] at hc
    simp only [Bool.and_true, Bool.and_false, Bool.true_and, Bool.false_and] at hc
    have HCx := Lib.hid hc
    clear hc
    go_wp2_with fail
    refine (HCx.out).mono ?_
    rintro e w8x ⟨rfl, h2⟩
    have HVu_8 := Lib.hid (HVu_7.out.below h2)
    have HVm_8 := Lib.hid (HVm_7.out.below h2)
    have HVd_8 := Lib.hid (HVd_7.out.below h2)
    have HB_8 := Lib.hid (HB_7.out.trans (h2.mono HB_7.out.size))
    clear h2 HVu_7 HVm_7 HVd_7 HB_7 HCx
    have hc := Has_ok _ _ d a2 HVd_8.out (by have := HLd.out; have := HLa.out; have := HLb.out; omega)
    rw [HD.out] at hc
    simp only [Bool.and_true, Bool.and_false, Bool.true_and, Bool.false_and, Bool.not_true, Bool.not_false] at hc
    have HCx := Lib.hid hc
    clear hc
    go_wp2_with fail
    refine (HCx.out).mono ?_
    rintro e w9x ⟨rfl, h2⟩
    have HVu_9 := Lib.hid (HVu_8.out.below h2)
    have HVm_9 := Lib.hid (HVm_8.out.below h2)
    have HVd_9 := Lib.hid (HVd_8.out.below h2)
    have HB_9 := Lib.hid (HB_8.out.trans (h2.mono HB_8.out.size))
    clear h2 HVu_8 HVm_8 HVd_8 HB_8 HCx
    have hc := Right_ok _ _ u HVu_9.out (by have := HLu.out; have := HLa.out; have := HLb.out; omega)
    have HCx := Lib.hid hc
    clear hc
    go_wp2_with fail
    refine (HCx.out).mono ?_
    rintro e w10x ⟨bx, rfl, hbx, h2⟩
    have HVu_10 := Lib.hid (HVu_9.out.below h2)
    have HVm_10 := Lib.hid (HVm_9.out.below h2)
    have HVd_10 := Lib.hid (HVd_9.out.below h2)
    have HB_10 := Lib.hid (HB_9.out.trans (h2.mono HB_9.out.size))
    obtain rfl : bx = true := hbx.2 HSu.out.1
    clear h2 HVu_9 HVm_9 HVd_9 HB_9 HCx hbx
    have hc := Right_ok _ _ m HVm_10.out (by have := HLm.out; have := HLa.out; have := HLb.out; omega)
    have HCx := Lib.hid hc
    clear hc
    go_wp2_with fail
    refine (HCx.out).mono ?_
    rintro e w11x ⟨bx, rfl, hbx, h2⟩
    have HVu_11 := Lib.hid (HVu_10.out.below h2)
    have HVm_11 := Lib.hid (HVm_10.out.below h2)
    have HVd_11 := Lib.hid (HVd_10.out.below h2)
    have HB_11 := Lib.hid (HB_10.out.trans (h2.mono HB_10.out.size))
    obtain rfl : bx = true := hbx.2 HSm.out.1
    clear h2 HVu_10 HVm_10 HVd_10 HB_10 HCx hbx
    have hc := Right_ok _ _ d HVd_11.out (by have := HLd.out; have := HLa.out; have := HLb.out; omega)
    have HCx := Lib.hid hc
    clear hc
    go_wp2_with fail
    refine (HCx.out).mono ?_
    rintro e w12x ⟨bx, rfl, hbx, h2⟩
    have HVu_12 := Lib.hid (HVu_11.out.below h2)
    have HVm_12 := Lib.hid (HVm_11.out.below h2)
    have HVd_12 := Lib.hid (HVd_11.out.below h2)
    have HB_12 := Lib.hid (HB_11.out.trans (h2.mono HB_11.out.size))
    obtain rfl : bx = true := hbx.2 HSd.out.1
    clear h2 HVu_11 HVm_11 HVd_11 HB_11 HCx hbx
    go_wp2_with fail
    refine (Whole_ok _).mono ?_
    rintro e w13x ⟨vw, rfl, hw, h2⟩
    have HVu_13 := Lib.hid (HVu_12.out.below h2)
    have HVm_13 := Lib.hid (HVm_12.out.below h2)
    have HVd_13 := Lib.hid (HVd_12.out.below h2)
    have HB_13 := Lib.hid (HB_12.out.trans (h2.mono HB_12.out.size))
    clear h2 HVu_12 HVm_12 HVd_12 HB_12
    have hc := Has_ok _ _ wholeL a2 hw (by simp [wholeL])
    rw [wholeL_says.has HI2.out true (by simp)] at hc
    have HCx := Lib.hid hc
    clear hc hw
    go_wp2_with fail
    refine (HCx.out).mono ?_
    rintro e w14x ⟨rfl, h2⟩
    have HVu_14 := Lib.hid (HVu_13.out.below h2)
    have HVm_14 := Lib.hid (HVm_13.out.below h2)
    have HVd_14 := Lib.hid (HVd_13.out.below h2)
    have HB_14 := Lib.hid (HB_13.out.trans (h2.mono HB_13.out.size))
    clear h2 HVu_13 HVm_13 HVd_13 HB_13 HCx
    go_wp2_with fail
    go_ret
    exact ⟨rfl, HB_14.out⟩
  · have hc := Has_ok _ _ u a2 HVu_6.out (by have := HLu.out; have := HLa.out; have := HLb.out; omega)
    rw [HU.out] at hc
    simp only [Bool.or_true, Bool.or_false, Bool.true_or, Bool.false_or] at hc
    have HCx := Lib.hid hc
    clear hc
    go_wp2_with fail
    refine (HCx.out).mono ?_
    rintro e w7x ⟨rfl, h2⟩
    have HVu_7 := Lib.hid (HVu_6.out.below h2)
    have HVm_7 := Lib.hid (HVm_6.out.below h2)
    have HVd_7 := Lib.hid (HVd_6.out.below h2)
    have HB_7 := Lib.hid (HB_6.out.trans (h2.mono HB_6.out.size))
    clear h2 HVu_6 HVm_6 HVd_6 HB_6 HCx
    have hc := Has_ok _ _ m a2 HVm_7.out (by have := HLm.out; have := HLa.out; have := HLb.out; omega)
    rw [HM.out] at hc
    simp only [Bool.and_true, Bool.and_false, Bool.true_and, Bool.false_and] at hc
    have HCx := Lib.hid hc
    clear hc
    go_wp2_with fail
    refine (HCx.out).mono ?_
    rintro e w8x ⟨rfl, h2⟩
    have HVu_8 := Lib.hid (HVu_7.out.below h2)
    have HVm_8 := Lib.hid (HVm_7.out.below h2)
    have HVd_8 := Lib.hid (HVd_7.out.below h2)
    have HB_8 := Lib.hid (HB_7.out.trans (h2.mono HB_7.out.size))
    clear h2 HVu_7 HVm_7 HVd_7 HB_7 HCx
    have hc := Has_ok _ _ d a2 HVd_8.out (by have := HLd.out; have := HLa.out; have := HLb.out; omega)
    rw [HD.out] at hc
    simp only [Bool.and_true, Bool.and_false, Bool.true_and, Bool.false_and, Bool.not_true, Bool.not_false] at hc
    have HCx := Lib.hid hc
    clear hc
    go_wp2_with fail
    refine (HCx.out).mono ?_
    rintro e w9x ⟨rfl, h2⟩
    have HVu_9 := Lib.hid (HVu_8.out.below h2)
    have HVm_9 := Lib.hid (HVm_8.out.below h2)
    have HVd_9 := Lib.hid (HVd_8.out.below h2)
    have HB_9 := Lib.hid (HB_8.out.trans (h2.mono HB_8.out.size))
    clear h2 HVu_8 HVm_8 HVd_8 HB_8 HCx
    have hc := Right_ok _ _ u HVu_9.out (by have := HLu.out; have := HLa.out; have := HLb.out; omega)
    have HCx := Lib.hid hc
    clear hc
    go_wp2_with fail
    refine (HCx.out).mono ?_
    rintro e w10x ⟨bx, rfl, hbx, h2⟩
    have HVu_10 := Lib.hid (HVu_9.out.below h2)
    have HVm_10 := Lib.hid (HVm_9.out.below h2)
    have HVd_10 := Lib.hid (HVd_9.out.below h2)
    have HB_10 := Lib.hid (HB_9.out.trans (h2.mono HB_9.out.size))
    obtain rfl : bx = true := hbx.2 HSu.out.1
    clear h2 HVu_9 HVm_9 HVd_9 HB_9 HCx hbx
    have hc := Right_ok _ _ m HVm_10.out (by have := HLm.out; have := HLa.out; have := HLb.out; omega)
    have HCx := Lib.hid hc
    clear hc
    go_wp2_with fail
    refine (HCx.out).mono ?_
    rintro e w11x ⟨bx, rfl, hbx, h2⟩
    have HVu_11 := Lib.hid (HVu_10.out.below h2)
    have HVm_11 := Lib.hid (HVm_10.out.below h2)
    have HVd_11 := Lib.hid (HVd_10.out.below h2)
    have HB_11 := Lib.hid (HB_10.out.trans (h2.mono HB_10.out.size))
    obtain rfl : bx = true := hbx.2 HSm.out.1
    clear h2 HVu_10 HVm_10 HVd_10 HB_10 HCx hbx
    have hc := Right_ok _ _ d HVd_11.out (by have := HLd.out; have := HLa.out; have := HLb.out; omega)
    have HCx := Lib.hid hc
    clear hc
    go_wp2_with fail
    refine (HCx.out).mono ?_
    rintro e w12x ⟨bx, rfl, hbx, h2⟩
    have HVu_12 := Lib.hid (HVu_11.out.below h2)
    have HVm_12 := Lib.hid (HVm_11.out.below h2)
    have HVd_12 := Lib.hid (HVd_11.out.below h2)
    have HB_12 := Lib.hid (HB_11.out.trans (h2.mono HB_11.out.size))
    obtain rfl : bx = true := hbx.2 HSd.out.1
    clear h2 HVu_11 HVm_11 HVd_11 HB_11 HCx hbx
    go_wp2_with fail
    refine (Whole_ok _).mono ?_
    rintro e w13x ⟨vw, rfl, hw, h2⟩
    have HVu_13 := Lib.hid (HVu_12.out.below h2)
    have HVm_13 := Lib.hid (HVm_12.out.below h2)
    have HVd_13 := Lib.hid (HVd_12.out.below h2)
    have HB_13 := Lib.hid (HB_12.out.trans (h2.mono HB_12.out.size))
    clear h2 HVu_12 HVm_12 HVd_12 HB_12
    have hc := Has_ok _ _ wholeL a2 hw (by simp [wholeL])
    rw [wholeL_says.has HI2.out true (by simp)] at hc
    have HCx := Lib.hid hc
    clear hc hw
    go_wp2_with fail
    refine (HCx.out).mono ?_
    rintro e w14x ⟨rfl, h2⟩
    have HVu_14 := Lib.hid (HVu_13.out.below h2)
    have HVm_14 := Lib.hid (HVm_13.out.below h2)
    have HVd_14 := Lib.hid (HVd_13.out.below h2)
    have HB_14 := Lib.hid (HB_13.out.trans (h2.mono HB_13.out.size))
    clear h2 HVu_13 HVm_13 HVd_13 HB_13 HCx
    go_wp2_with fail
    go_ret
    exact ⟨rfl, HB_14.out⟩
  · have hc := Has_ok _ _ u a2 HVu_6.out (by have := HLu.out; have := HLa.out; have := HLb.out; omega)
    rw [HU.out] at hc
    simp only [Bool.or_true, Bool.or_false, Bool.true_or, Bool.false_or] at hc
    have HCx := Lib.hid hc
    clear hc
    go_wp2_with fail
    refine (HCx.out).mono ?_
    rintro e w7x ⟨rfl, h2⟩
    have HVu_7 := Lib.hid (HVu_6.out.below h2)
    have HVm_7 := Lib.hid (HVm_6.out.below h2)
    have HVd_7 := Lib.hid (HVd_6.out.below h2)
    have HB_7 := Lib.hid (HB_6.out.trans (h2.mono HB_6.out.size))
    clear h2 HVu_6 HVm_6 HVd_6 HB_6 HCx
    have hc := Has_ok _ _ m a2 HVm_7.out (by have := HLm.out; have := HLa.out; have := HLb.out; omega)
    rw [HM.out] at hc
    simp only [Bool.and_true, Bool.and_false, Bool.true_and, Bool.false_and] at hc
    have HCx := Lib.hid hc
    clear hc
    go_wp2_with fail
    refine (HCx.out).mono ?_
    rintro e w8x ⟨rfl, h2⟩
    have HVu_8 := Lib.hid (HVu_7.out.below h2)
    have HVm_8 := Lib.hid (HVm_7.out.below h2)
    have HVd_8 := Lib.hid (HVd_7.out.below h2)
    have HB_8 := Lib.hid (HB_7.out.trans (h2.mono HB_7.out.size))
    clear h2 HVu_7 HVm_7 HVd_7 HB_7 HCx
    have hc := Has_ok _ _ d a2 HVd_8.out (by have := HLd.out; have := HLa.out; have := HLb.out; omega)
    rw [HD.out] at hc
    simp only [Bool.and_true, Bool.and_false, Bool.true_and, Bool.false_and, Bool.not_true, Bool.not_false] at hc
    have HCx := Lib.hid hc
    clear hc
    go_wp2_with fail
    refine (HCx.out).mono ?_
    rintro e w9x ⟨rfl, h2⟩
    have HVu_9 := Lib.hid (HVu_8.out.below h2)
    have HVm_9 := Lib.hid (HVm_8.out.below h2)
    have HVd_9 := Lib.hid (HVd_8.out.below h2)
    have HB_9 := Lib.hid (HB_8.out.trans (h2.mono HB_8.out.size))
    clear h2 HVu_8 HVm_8 HVd_8 HB_8 HCx
    have hc := Right_ok _ _ u HVu_9.out (by have := HLu.out; have := HLa.out; have := HLb.out; omega)
    have HCx := Lib.hid hc
    clear hc
    go_wp2_with fail
    refine (HCx.out).mono ?_
    rintro e w10x ⟨bx, rfl, hbx, h2⟩
    have HVu_10 := Lib.hid (HVu_9.out.below h2)
    have HVm_10 := Lib.hid (HVm_9.out.below h2)
    have HVd_10 := Lib.hid (HVd_9.out.below h2)
    have HB_10 := Lib.hid (HB_9.out.trans (h2.mono HB_9.out.size))
    obtain rfl : bx = true := hbx.2 HSu.out.1
    clear h2 HVu_9 HVm_9 HVd_9 HB_9 HCx hbx
    have hc := Right_ok _ _ m HVm_10.out (by have := HLm.out; have := HLa.out; have := HLb.out; omega)
    have HCx := Lib.hid hc
    clear hc
    go_wp2_with fail
    refine (HCx.out).mono ?_
    rintro e w11x ⟨bx, rfl, hbx, h2⟩
    have HVu_11 := Lib.hid (HVu_10.out.below h2)
    have HVm_11 := Lib.hid (HVm_10.out.below h2)
    have HVd_11 := Lib.hid (HVd_10.out.below h2)
    have HB_11 := Lib.hid (HB_10.out.trans (h2.mono HB_10.out.size))
    obtain rfl : bx = true := hbx.2 HSm.out.1
    clear h2 HVu_10 HVm_10 HVd_10 HB_10 HCx hbx
    have hc := Right_ok _ _ d HVd_11.out (by have := HLd.out; have := HLa.out; have := HLb.out; omega)
    have HCx := Lib.hid hc
    clear hc
    go_wp2_with fail
    refine (HCx.out).mono ?_
    rintro e w12x ⟨bx, rfl, hbx, h2⟩
    have HVu_12 := Lib.hid (HVu_11.out.below h2)
    have HVm_12 := Lib.hid (HVm_11.out.below h2)
    have HVd_12 := Lib.hid (HVd_11.out.below h2)
    have HB_12 := Lib.hid (HB_11.out.trans (h2.mono HB_11.out.size))
    obtain rfl : bx = true := hbx.2 HSd.out.1
    clear h2 HVu_11 HVm_11 HVd_11 HB_11 HCx hbx
    go_wp2_with fail
    refine (Whole_ok _).mono ?_
    rintro e w13x ⟨vw, rfl, hw, h2⟩
    have HVu_13 := Lib.hid (HVu_12.out.below h2)
    have HVm_13 := Lib.hid (HVm_12.out.below h2)
    have HVd_13 := Lib.hid (HVd_12.out.below h2)
    have HB_13 := Lib.hid (HB_12.out.trans (h2.mono HB_12.out.size))
    clear h2 HVu_12 HVm_12 HVd_12 HB_12
    have hc := Has_ok _ _ wholeL a2 hw (by simp [wholeL])
    rw [wholeL_says.has HI2.out true (by simp)] at hc
    have HCx := Lib.hid hc
    clear hc hw
    go_wp2_with fail
    refine (HCx.out).mono ?_
    rintro e w14x ⟨rfl, h2⟩
    have HVu_14 := Lib.hid (HVu_13.out.below h2)
    have HVm_14 := Lib.hid (HVm_13.out.below h2)
    have HVd_14 := Lib.hid (HVd_13.out.below h2)
    have HB_14 := Lib.hid (HB_13.out.trans (h2.mono HB_13.out.size))
    clear h2 HVu_13 HVm_13 HVd_13 HB_13 HCx
    go_wp2_with fail
    go_ret
    exact ⟨rfl, HB_14.out⟩

set_option maxRecDepth 100000 in
theorem lifted (os : Os) (started : os.Started) (H : Type) (enc : TypeId × Value → H) :
    ReturnsInHanded {} Try.checked os 5 .any (Rows.spansHasSpec.pre6 enc Try.prog Try.f5 Rows.spansHasRow.domain false) (Rows.spansHasSpec.post enc Try.prog Try.f5 false true false false) := by
  refine returnsInHanded_of_change (C := Try.checked) own started (by kernel_rfl) Try.func5
    (ChangeSpec.witness6 (enc := enc) (C := Try.checked) false ⟨#[], #[.slice none 0 0, .slice none 0 0, .int .i64 0], []⟩ 8 (by kernel_rfl) (by kernel_rfl) (by kernel_rfl) (by kernel_rfl)) ?_
  intro W base args ds gs before hval0 hW hcnd _
  have hval : ∀ (j : Nat) t v, Try.f5.params[j]? = some t → args[j]? = some v → Value.okWide Try.prog W .any base t v := hval0
  have hW' := hW
  obtain ⟨p, q, hA0, hV, rfl, hfz, hnd⟩ := hW
  have hA : DataW.TrodAll enc Try.prog W 0 (fun _ => true) true Try.f5.params.toList args.toList ds p := hA0
  rw [Try.params5] at hA hval
  obtain ⟨v0, vs0, d0, ds0, p0, q0, hargs, rfl, rfl, h0, r0⟩ := trodAll_cons hA
  obtain ⟨v1, vs1, d1, ds1, p1, q1, rfl, rfl, rfl, h1, r1⟩ := trodAll_cons r0
  obtain ⟨v2, vs2, d2, ds2, p2, q2, rfl, rfl, rfl, h2, r2⟩ := trodAll_cons r1
  obtain ⟨rfl, rfl, rfl⟩ := trodAll_nil r2
  obtain rfl : args = #[v0, v1, v2] := by cases args; simp_all
  obtain ⟨rfl, rfl⟩ := trodVars_none hV
  obtain ⟨a0, len0, cap0, rfl⟩ := okWide_slice Try.underlying22 (hval 0 22 v0 rfl rfl)
  have k0 := h0
  have lt0 : ∀ x ∈ p0, x.block < W.heap.size := by obtain ⟨m, hm⟩ := k0; exact DataW.trod_lt m _ _ _ hm
  have w0 := open_rs h0
  obtain ⟨a1, len1, cap1, rfl⟩ := okWide_slice Try.underlying22 (hval 1 22 v1 rfl rfl)
  have k1 := h1
  have lt1 : ∀ x ∈ p1, x.block < W.heap.size := by obtain ⟨m, hm⟩ := k1; exact DataW.trod_lt m _ _ _ hm
  have w1 := open_rs h1
  obtain ⟨a2, rfl, rfl, rfl, w2⟩ := open_int Try.underlying3 (hval 2 3 v2 rfl rfl) h2
  clear hA0 hval0
  refine (walk W a0 len0 cap0 w0 a1 len1 cap1 w1 a2 w2).mono fun e W' ⟨he, bel⟩ => ?_
  subst he
  exact ⟨_, rfl, _, _, _, [], _, [], hW', trodAll_mk1 (shut_bool Try.underlying4 _), (trodAll_cons_mk (Below.trod laidOut (by kernel_rfl) (of_decide_eq_true (by kernel_rfl)) k0 bel lt0) (trodAll_cons_mk (Below.trod laidOut (by kernel_rfl) (of_decide_eq_true (by kernel_rfl)) k1 bel lt1) (trodAll_cons_mk (shut_int Try.underlying3 w2) trodAll_mk0))), rfl, bel.frame _, fun h => by cases h⟩

theorem over : Rows.spansHasRow.holds Try.pinned (OpenSpec.ofChange Rows.spansHasSpec) :=
  OpenClaim.holds_of_wide 5 Try.f5 rfl rfl rfl rfl rfl rfl rfl ⟨rfl, rfl, rfl, rfl, rfl⟩ rfl rfl rfl rfl rfl (by kernel_rfl) Try.func5 (by kernel_rfl)
    (of_decide_eq_true (by kernel_rfl)) (by unfold Func.isWrapper; first | (rw [if_pos (by decide +kernel)]; kernel_rfl) | (rw [if_neg (by decide +kernel)]; exact ⟨rfl, rfl⟩))
    (fun os started H enc _ => lifted os started H enc)

theorem proved : Rows.SpansHasSaid := over
end Go.Proofs.Ytjcanhfbgnopdaa.spansHas
