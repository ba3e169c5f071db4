/-
  Proved: the statement SpansOne (a set with a number more has it, and no other one more; without it, it has it no more), for every input; no further condition.
-/
import Derived.Test.YtjcanhfbgnopdaaRows
import Derived.Test.YtjcanhfbgnopdaaSpB
import Derived.ProofKit
import Derived.OpenShut
import Derived.ShutString
import Derived.ChangeOld
namespace Go.Proofs.Ytjcanhfbgnopdaa.spansOne
open Go.ChangeShapes Go.WideShapes Go.ChangeAt Go.RowKit
open Go.ChangeMaps (open_string shut_string)
set_option linter.unusedVariables false
set_option linter.unusedSimpArgs false
set_option maxRecDepth 100000

theorem own : ownKnob Try.prog.godebug = none := by kernel_rfl
theorem laidOut : laidOutB Try.prog = true := by kernel_rfl

set_option maxHeartbeats 8000000 in
theorem walk (w : World) (a0 : Option Addr) (len0 cap0 : Nat) (w0 : ∃ l, RSl w (.slice a0 len0 cap0) l ∧ l.length = len0 ∧ len0 ≤ maxLen) (a1 : Int) (w1 : (Lit.int .i64 a1).wf = true) (a2 : Int) (w2 : (Lit.int .i64 a2).wf = true) :
    Calls Try.prog 7 #[.slice a0 len0 cap0, .int .i64 a1, .int .i64 a2] w fun e w' => e = .returned (.bool true) ∧ Below w.heap.size w w' := by
  obtain ⟨s, hs, hn0, hm0⟩ := w0
  have hi1 : I64 a1 := by simp [Lit.wf, IntKind.min, IntKind.max, IntKind.signed, IntKind.bits] at w1; unfold I64; omega
  have HI1 := Lib.hid hi1
  clear hi1 w1
  have hi2 : I64 a2 := by simp [Lit.wf, IntKind.min, IntKind.max, IntKind.signed, IntKind.bits] at w2; unfold I64; omega
  have HI2 := Lib.hid hi2
  clear hi2 w2
  have HB := Lib.hid (Below.refl w.heap.size w)
  have HVs := Lib.hid hs
  have HNs := Lib.hid hn0
  clear hs hn0 hm0
  go_enter Try.func7, Try.ntmps7
  go_wp2_with fail
  refine (awake_ok _).mono ?_
  rintro e w1x ⟨rfl, h2⟩
  have HVs_1 := Lib.hid (HVs.out.below h2)
  have HB_1 := Lib.hid (HB.out.trans (h2.mono HB.out.size))
  clear h2 HVs HB
  by_cases hl0 : 40 < len0
  · have q0 : decide ((40 : Int) < (len0 : Int)) = true := decide_eq_true (by omega)
    have qn0 : decide (40 < len0) = true := decide_eq_true hl0
    go_wp2_with fail
    go_ret
    exact ⟨rfl, HB_1.out⟩
  have q0 : decide ((40 : Int) < (len0 : Int)) = false := decide_eq_false (by omega)
  have qn0 : decide (40 < len0) = false := decide_eq_false hl0
  have HLs := Lib.hid (show s.length ≤ 40 by have := HNs.out; omega)
  clear hl0
  have hone : Bd [((a1 : Int), a1)] := by intro r hr; simp at hr; subst hr; exact ⟨HI1.out, HI1.out⟩
  have hbl := lit_below w1x (.cells #[.int .i64 a1, .int .i64 a1] 32)
  have HVone := Lib.hid (rsl_lit w1x [((a1 : Int), a1)] hone #[.int .i64 a1, .int .i64 a1] rfl 1 rfl)
  have HVs_l := Lib.hid (HVs_1.out.below hbl)
  have HB_l := Lib.hid (HB_1.out.trans (hbl.mono HB_1.out.size))
  clear hone hbl HVs_1 HB_1
  obtain ⟨one, hone⟩ : ∃ one, [((a1 : Int), a1)] = one := ⟨_, rfl⟩
  rw [hone] at HVone
  have HLone := Lib.hid (show one.length ≤ 1 by rw [← hone]; simp)
  have HMone := Lib.hid (show ∀ k, mem one k ↔ k = a1 by intro k; rw [← hone, mem_one]; simp only; omega)
  clear hone
  go_wp2_with fail
  refine (Union_ok _ _ _ s one HVs_l.out HVone.out (by have := HLs.out; omega) (by have := HLone.out; omega)).mono ?_
  rintro e w2x ⟨v2, u, rfl, h1, h2⟩
  have HVs_2 := Lib.hid (HVs_l.out.below h2)
  have HVone_2 := Lib.hid (HVone.out.below h2)
  have HB_2 := Lib.hid (HB_l.out.trans (h2.mono HB_l.out.size))
  have HVu_2 := Lib.hid h1.1
  have HSu := Lib.hid h1.2.1
  have HLu := Lib.hid h1.2.2
  clear h1 h2 HVs_l HVone HB_l
  go_wp2_with fail
  refine (Minus_ok _ _ _ s one HVs_2.out HVone_2.out (by have := HLs.out; omega) (by have := HLone.out; omega)).mono ?_
  rintro e w3x ⟨v3, d, rfl, h1, h2⟩
  have HVs_3 := Lib.hid (HVs_2.out.below h2)
  have HVone_3 := Lib.hid (HVone_2.out.below h2)
  have HVu_3 := Lib.hid (HVu_2.out.below h2)
  have HB_3 := Lib.hid (HB_2.out.trans (h2.mono HB_2.out.size))
  have HVd_3 := Lib.hid h1.1
  have HSd := Lib.hid h1.2.1
  have HLd := Lib.hid h1.2.2
  clear h1 h2 HVs_2 HVone_2 HVu_2 HB_2
  have hc := Has_ok _ _ u a1 HVu_3.out (by have := HLs.out; have := HLone.out; have := HLu.out; omega)
  rw [HSu.out.has HI1.out true (by simp [HMone.out])] at hc
  have HCx := Lib.hid hc
  clear hc
  go_wp2_with fail
  refine (HCx.out).mono ?_
  rintro e w4x ⟨rfl, h2⟩
  have HVs_4 := Lib.hid (HVs_3.out.below h2)
  have HVone_4 := Lib.hid (HVone_3.out.below h2)
  have HVu_4 := Lib.hid (HVu_3.out.below h2)
  have HVd_4 := Lib.hid (HVd_3.out.below h2)
  have HB_4 := Lib.hid (HB_3.out.trans (h2.mono HB_3.out.size))
  clear h2 HVs_3 HVone_3 HVu_3 HVd_3 HB_3 HCx
  have hc := Has_ok _ _ d a1 HVd_4.out (by have := HLs.out; have := HLone.out; have := HLd.out; omega)
  rw [HSd.out.has HI1.out false (by simp [HMone.out])] at hc
  have HCx := Lib.hid hc
  clear hc
  go_wp2_with fail
  refine (HCx.out).mono ?_
  rintro e w5x ⟨rfl, h2⟩
  have HVs_5 := Lib.hid (HVs_4.out.below h2)
  have HVone_5 := Lib.hid (HVone_4.out.below h2)
  have HVu_5 := Lib.hid (HVu_4.out.below h2)
  have HVd_5 := Lib.hid (HVd_4.out.below h2)
  have HB_5 := Lib.hid (HB_4.out.trans (h2.mono HB_4.out.size))
  clear h2 HVs_4 HVone_4 HVu_4 HVd_4 HB_4 HCx
  by_cases hmn : a2 = a1
  · have qm : (a2 == a1) = true := by rw [hmn]; simp
    clear hmn
    go_wp2_with fail
    refine (Union_ok _ _ _ u s HVu_5.out HVs_5.out (by have := HLs.out; have := HLone.out; have := HLu.out; omega) (by have := HLs.out; omega)).mono ?_
    rintro e w6x ⟨v6, r1, rfl, h1, h2⟩
    have HVs_6 := Lib.hid (HVs_5.out.below h2)
    have HVone_6 := Lib.hid (HVone_5.out.below h2)
    have HVu_6 := Lib.hid (HVu_5.out.below h2)
    have HVd_6 := Lib.hid (HVd_5.out.below h2)
    have HB_6 := Lib.hid (HB_5.out.trans (h2.mono HB_5.out.size))
    have HVr1_6 := Lib.hid h1.1
    have HSr1 := Lib.hid h1.2.1
    have HLr1 := Lib.hid h1.2.2
    clear h1 h2 HVs_5 HVone_5 HVu_5 HVd_5 HB_5
    go_wp2_with fail
    refine (same_yes _ _ _ r1 u HVr1_6.out HVu_6.out (by have := HLr1.out; have := HLu.out; have := HLs.out; have := HLone.out; omega) (HSr1.out.eq HSu.out (fun k hk => by rw [HSu.out.2.2 k hk]; by_cases h1 : mem s k <;> by_cases h2 : mem one k <;> simp [h1, h2]))).mono ?_
    rintro e w7x ⟨rfl, h2⟩
    have HVs_7 := Lib.hid (HVs_6.out.below h2)
    have HVone_7 := Lib.hid (HVone_6.out.below h2)
    have HVu_7 := Lib.hid (HVu_6.out.below h2)
    have HVd_7 := Lib.hid (HVd_6.out.below h2)
    have HVr1_7 := Lib.hid (HVr1_6.out.below h2)
    have HB_7 := Lib.hid (HB_6.out.trans (h2.mono HB_6.out.size))
    clear h2 HVs_6 HVone_6 HVu_6 HVd_6 HVr1_6 HB_6
    go_wp2_with fail
    refine (Meet_ok _ _ _ s one HVs_7.out HVone_7.out (by have := HLs.out; omega) (by have := HLone.out; omega)).mono ?_
    rintro e w8x ⟨v8, r2, rfl, h1, h2⟩
    have HVs_8 := Lib.hid (HVs_7.out.below h2)
    have HVone_8 := Lib.hid (HVone_7.out.below h2)
    have HVu_8 := Lib.hid (HVu_7.out.below h2)
    have HVd_8 := Lib.hid (HVd_7.out.below h2)
    have HVr1_8 := Lib.hid (HVr1_7.out.below h2)
    have HB_8 := Lib.hid (HB_7.out.trans (h2.mono HB_7.out.size))
    have HVr2_8 := Lib.hid h1.1
    have HSr2 := Lib.hid h1.2.1
    have HLr2 := Lib.hid h1.2.2
    clear h1 h2 HVs_7 HVone_7 HVu_7 HVd_7 HVr1_7 HB_7
    go_wp2_with fail
    refine (Union_ok _ _ _ d r2 HVd_8.out HVr2_8.out (by have := HLs.out; have := HLone.out; have := HLd.out; omega) (by have := HLr2.out; have := HLs.out; have := HLone.out; omega)).mono ?_
    rintro e w9x ⟨v9, r3, rfl, h1, h2⟩
    have HVs_9 := Lib.hid (HVs_8.out.below h2)
    have HVone_9 := Lib.hid (HVone_8.out.below h2)
    have HVu_9 := Lib.hid (HVu_8.out.below h2)
    have HVd_9 := Lib.hid (HVd_8.out.below h2)
    have HVr1_9 := Lib.hid (HVr1_8.out.below h2)
    have HVr2_9 := Lib.hid (HVr2_8.out.below h2)
    have HB_9 := Lib.hid (HB_8.out.trans (h2.mono HB_8.out.size))
    have HVr3_9 := Lib.hid h1.1
    have HSr3 := Lib.hid h1.2.1
    have HLr3 := Lib.hid h1.2.2
    clear h1 h2 HVs_8 HVone_8 HVu_8 HVd_8 HVr1_8 HVr2_8 HB_8
    go_wp2_with fail
    refine (Norm_ok _ _ s HVs_9.out (by have := HLs.out; omega)).mono ?_
    rintro e w10x ⟨v10, r4, rfl, h1, h2⟩
    have HVs_10 := Lib.hid (HVs_9.out.below h2)
    have HVone_10 := Lib.hid (HVone_9.out.below h2)
    have HVu_10 := Lib.hid (HVu_9.out.below h2)
    have HVd_10 := Lib.hid (HVd_9.out.below h2)
    have HVr1_10 := Lib.hid (HVr1_9.out.below h2)
    have HVr2_10 := Lib.hid (HVr2_9.out.below h2)
    have HVr3_10 := Lib.hid (HVr3_9.out.below h2)
    have HB_10 := Lib.hid (HB_9.out.trans (h2.mono HB_9.out.size))
    have HVr4_10 := Lib.hid h1.1
    have HSr4 := Lib.hid h1.2.1
    have HLr4 := Lib.hid h1.2.2
    clear h1 h2 HVs_9 HVone_9 HVu_9 HVd_9 HVr1_9 HVr2_9 HVr3_9 HB_9
    go_wp2_with fail
    refine (same_yes _ _ _ r3 r4 HVr3_10.out HVr4_10.out (by have := HLr3.out; have := HLr2.out; have := HLd.out; have := HLs.out; have := HLone.out; omega) (HSr3.out.eq HSr4.out (fun k hk => by rw [HSd.out.2.2 k hk, HSr2.out.2.2 k hk]; by_cases h1 : mem s k <;> by_cases h2 : mem one k <;> simp [h1, h2]))).mono ?_
    rintro e w11x ⟨rfl, h2⟩
    have HVs_11 := Lib.hid (HVs_10.out.below h2)
    have HVone_11 := Lib.hid (HVone_10.out.below h2)
    have HVu_11 := Lib.hid (HVu_10.out.below h2)
    have HVd_11 := Lib.hid (HVd_10.out.below h2)
    have HVr1_11 := Lib.hid (HVr1_10.out.below h2)
    have HVr2_11 := Lib.hid (HVr2_10.out.below h2)
    have HVr3_11 := Lib.hid (HVr3_10.out.below h2)
    have HVr4_11 := Lib.hid (HVr4_10.out.below h2)
    have HB_11 := Lib.hid (HB_10.out.trans (h2.mono HB_10.out.size))
    clear h2 HVs_10 HVone_10 HVu_10 HVd_10 HVr1_10 HVr2_10 HVr3_10 HVr4_10 HB_10
    go_wp2_with fail
    go_ret
    exact ⟨rfl, HB_11.out⟩
  · have qm : (a2 == a1) = false := beq_false_of_ne hmn
    have HMN := Lib.hid hmn
    clear hmn
    obtain ⟨z, hz⟩ : ∃ z, hasB s a2 = z := ⟨_, rfl⟩
    have HZ := Lib.hid hz
    clear hz
    have qz : (z == z) = true := by cases z <;> rfl
    have hc := Has_ok _ _ u a2 HVu_5.out (by have := HLs.out; have := HLone.out; have := HLu.out; omega)
    rw [HSu.out.has HI2.out z (by rw [← HZ.out, hasB_iff, HMone.out]; have := HMN.out; simp [this])] at hc
    have HCx := Lib.hid hc
    clear hc
    go_wp2_with fail
    refine (HCx.out).mono ?_
    rintro e w6x ⟨rfl, h2⟩
    have HVs_6 := Lib.hid (HVs_5.out.below h2)
    have HVone_6 := Lib.hid (HVone_5.out.below h2)
    have HVu_6 := Lib.hid (HVu_5.out.below h2)
    have HVd_6 := Lib.hid (HVd_5.out.below h2)
    have HB_6 := Lib.hid (HB_5.out.trans (h2.mono HB_5.out.size))
    clear h2 HVs_5 HVone_5 HVu_5 HVd_5 HB_5 HCx
    have hc := Has_ok _ _ s a2 HVs_6.out (by have := HLs.out; have := HLone.out; have := HLs.out; omega)
    rw [HZ.out] at hc
    have HCx := Lib.hid hc
    clear hc
    go_wp2_with fail
    refine (HCx.out).mono ?_
    rintro e w7x ⟨rfl, h2⟩
    have HVs_7 := Lib.hid (HVs_6.out.below h2)
    have HVone_7 := Lib.hid (HVone_6.out.below h2)
    have HVu_7 := Lib.hid (HVu_6.out.below h2)
    have HVd_7 := Lib.hid (HVd_6.out.below h2)
    have HB_7 := Lib.hid (HB_6.out.trans (h2.mono HB_6.out.size))
    clear h2 HVs_6 HVone_6 HVu_6 HVd_6 HB_6 HCx
    have hc := Has_ok _ _ d a2 HVd_7.out (by have := HLs.out; have := HLone.out; have := HLd.out; omega)
    rw [HSd.out.has HI2.out z (by rw [← HZ.out, hasB_iff, HMone.out]; have := HMN.out; simp [this])] at hc
    have HCx := Lib.hid hc
    clear hc
    go_wp2_with fail
    refine (HCx.out).mono ?_
    rintro e w8x ⟨rfl, h2⟩
    have HVs_8 := Lib.hid (HVs_7.out.below h2)
    have HVone_8 := Lib.hid (HVone_7.out.below h2)
    have HVu_8 := Lib.hid (HVu_7.out.below h2)
    have HVd_8 := Lib.hid (HVd_7.out.below h2)
    have HB_8 := Lib.hid (HB_7.out.trans (h2.mono HB_7.out.size))
    clear h2 HVs_7 HVone_7 HVu_7 HVd_7 HB_7 HCx
    have hc := Has_ok _ _ s a2 HVs_8.out (by have := HLs.out; have := HLone.out; have := HLs.out; omega)
    rw [HZ.out] at hc
    have HCx := Lib.hid hc
    clear hc
    go_wp2_with fail
    refine (HCx.out).mono ?_
    rintro e w9x ⟨rfl, h2⟩
    have HVs_9 := Lib.hid (HVs_8.out.below h2)
    have HVone_9 := Lib.hid (HVone_8.out.below h2)
    have HVu_9 := Lib.hid (HVu_8.out.below h2)
    have HVd_9 := Lib.hid (HVd_8.out.below h2)
    have HB_9 := Lib.hid (HB_8.out.trans (h2.mono HB_8.out.size))
    clear h2 HVs_8 HVone_8 HVu_8 HVd_8 HB_8 HCx
    go_wp2_with fail
    refine (Union_ok _ _ _ u s HVu_9.out HVs_9.out (by have := HLs.out; have := HLone.out; have := HLu.out; omega) (by have := HLs.out; omega)).mono ?_
    rintro e w10x ⟨v10, r1, rfl, h1, h2⟩
    have HVs_10 := Lib.hid (HVs_9.out.below h2)
    have HVone_10 := Lib.hid (HVone_9.out.below h2)
    have HVu_10 := Lib.hid (HVu_9.out.below h2)
    have HVd_10 := Lib.hid (HVd_9.out.below h2)
    have HB_10 := Lib.hid (HB_9.out.trans (h2.mono HB_9.out.size))
    have HVr1_10 := Lib.hid h1.1
    have HSr1 := Lib.hid h1.2.1
    have HLr1 := Lib.hid h1.2.2
    clear h1 h2 HVs_9 HVone_9 HVu_9 HVd_9 HB_9
    go_wp2_with fail
    refine (same_yes _ _ _ r1 u HVr1_10.out HVu_10.out (by have := HLr1.out; have := HLu.out; have := HLs.out; have := HLone.out; omega) (HSr1.out.eq HSu.out (fun k hk => by rw [HSu.out.2.2 k hk]; by_cases h1 : mem s k <;> by_cases h2 : mem one k <;> simp [h1, h2]))).mono ?_
    rintro e w11x ⟨rfl, h2⟩
    have HVs_11 := Lib.hid (HVs_10.out.below h2)
    have HVone_11 := Lib.hid (HVone_10.out.below h2)
    have HVu_11 := Lib.hid (HVu_10.out.below h2)
    have HVd_11 := Lib.hid (HVd_10.out.below h2)
    have HVr1_11 := Lib.hid (HVr1_10.out.below h2)
    have HB_11 := Lib.hid (HB_10.out.trans (h2.mono HB_10.out.size))
    clear h2 HVs_10 HVone_10 HVu_10 HVd_10 HVr1_10 HB_10
    go_wp2_with fail
    refine (Meet_ok _ _ _ s one HVs_11.out HVone_11.out (by have := HLs.out; omega) (by have := HLone.out; omega)).mono ?_
    rintro e w12x ⟨v12, r2, rfl, h1, h2⟩
    have HVs_12 := Lib.hid (HVs_11.out.below h2)
    have HVone_12 := Lib.hid (HVone_11.out.below h2)
    have HVu_12 := Lib.hid (HVu_11.out.below h2)
    have HVd_12 := Lib.hid (HVd_11.out.below h2)
    have HVr1_12 := Lib.hid (HVr1_11.out.below h2)
    have HB_12 := Lib.hid (HB_11.out.trans (h2.mono HB_11.out.size))
    have HVr2_12 := Lib.hid h1.1
    have HSr2 := Lib.hid h1.2.1
    have HLr2 := Lib.hid h1.2.2
    clear h1 h2 HVs_11 HVone_11 HVu_11 HVd_11 HVr1_11 HB_11
    go_wp2_with fail
    refine (Union_ok _ _ _ d r2 HVd_12.out HVr2_12.out (by have := HLs.out; have := HLone.out; have := HLd.out; omega) (by have := HLr2.out; have := HLs.out; have := HLone.out; omega)).mono ?_
    rintro e w13x ⟨v13, r3, rfl, h1, h2⟩
    have HVs_13 := Lib.hid (HVs_12.out.below h2)
    have HVone_13 := Lib.hid (HVone_12.out.below h2)
    have HVu_13 := Lib.hid (HVu_12.out.below h2)
    have HVd_13 := Lib.hid (HVd_12.out.below h2)
    have HVr1_13 := Lib.hid (HVr1_12.out.below h2)
    have HVr2_13 := Lib.hid (HVr2_12.out.below h2)
    have HB_13 := Lib.hid (HB_12.out.trans (h2.mono HB_12.out.size))
    have HVr3_13 := Lib.hid h1.1
    have HSr3 := Lib.hid h1.2.1
    have HLr3 := Lib.hid h1.2.2
    clear h1 h2 HVs_12 HVone_12 HVu_12 HVd_12 HVr1_12 HVr2_12 HB_12
    go_wp2_with fail
    refine (Norm_ok _ _ s HVs_13.out (by have := HLs.out; omega)).mono ?_
    rintro e w14x ⟨v14, r4, rfl, h1, h2⟩
    have HVs_14 := Lib.hid (HVs_13.out.below h2)
    have HVone_14 := Lib.hid (HVone_13.out.below h2)
    have HVu_14 := Lib.hid (HVu_13.out.below h2)
    have HVd_14 := Lib.hid (HVd_13.out.below h2)
    have HVr1_14 := Lib.hid (HVr1_13.out.below h2)
    have HVr2_14 := Lib.hid (HVr2_13.out.below h2)
    have HVr3_14 := Lib.hid (HVr3_13.out.below h2)
    have HB_14 := Lib.hid (HB_13.out.trans (h2.mono HB_13.out.size))
    have HVr4_14 := Lib.hid h1.1
    have HSr4 := Lib.hid h1.2.1
    have HLr4 := Lib.hid h1.2.2
    clear h1 h2 HVs_13 HVone_13 HVu_13 HVd_13 HVr1_13 HVr2_13 HVr3_13 HB_13
    go_wp2_with fail
    refine (same_yes _ _ _ r3 r4 HVr3_14.out HVr4_14.out (by have := HLr3.out; have := HLr2.out; have := HLd.out; have := HLs.out; have := HLone.out; omega) (HSr3.out.eq HSr4.out (fun k hk => by rw [HSd.out.2.2 k hk, HSr2.out.2.2 k hk]; by_cases h1 : mem s k <;> by_cases h2 : mem one k <;> simp [h1, h2]))).mono ?_
    rintro e w15x ⟨rfl, h2⟩
    have HVs_15 := Lib.hid (HVs_14.out.below h2)
    have HVone_15 := Lib.hid (HVone_14.out.below h2)
    have HVu_15 := Lib.hid (HVu_14.out.below h2)
    have HVd_15 := Lib.hid (HVd_14.out.below h2)
    have HVr1_15 := Lib.hid (HVr1_14.out.below h2)
    have HVr2_15 := Lib.hid (HVr2_14.out.below h2)
    have HVr3_15 := Lib.hid (HVr3_14.out.below h2)
    have HVr4_15 := Lib.hid (HVr4_14.out.below h2)
    have HB_15 := Lib.hid (HB_14.out.trans (h2.mono HB_14.out.size))
    clear h2 HVs_14 HVone_14 HVu_14 HVd_14 HVr1_14 HVr2_14 HVr3_14 HVr4_14 HB_14
    go_wp2_with fail
    go_ret
    exact ⟨rfl, HB_15.out⟩

set_option maxRecDepth 100000 in
theorem lifted (os : Os) (started : os.Started) (H : Type) (enc : TypeId × Value → H) :
    ReturnsInHanded {} Try.checked os 7 .any (Rows.spansOneSpec.pre6 enc Try.prog Try.f7 Rows.spansOneRow.domain false) (Rows.spansOneSpec.post enc Try.prog Try.f7 false true false false) := by
  refine returnsInHanded_of_change (C := Try.checked) own started (by kernel_rfl) Try.func7
    (ChangeSpec.witness6 (enc := enc) (C := Try.checked) false ⟨#[], #[.slice none 0 0, .int .i64 0, .int .i64 0], []⟩ 8 (by kernel_rfl) (by kernel_rfl) (by kernel_rfl) (by kernel_rfl)) ?_
  intro W base args ds gs before hval0 hW hcnd _
  have hval : ∀ (j : Nat) t v, Try.f7.params[j]? = some t → args[j]? = some v → Value.okWide Try.prog W .any base t v := hval0
  have hW' := hW
  obtain ⟨p, q, hA0, hV, rfl, hfz, hnd⟩ := hW
  have hA : DataW.TrodAll enc Try.prog W 0 (fun _ => true) true Try.f7.params.toList args.toList ds p := hA0
  rw [Try.params7] at hA hval
  obtain ⟨v0, vs0, d0, ds0, p0, q0, hargs, rfl, rfl, h0, r0⟩ := trodAll_cons hA
  obtain ⟨v1, vs1, d1, ds1, p1, q1, rfl, rfl, rfl, h1, r1⟩ := trodAll_cons r0
  obtain ⟨v2, vs2, d2, ds2, p2, q2, rfl, rfl, rfl, h2, r2⟩ := trodAll_cons r1
  obtain ⟨rfl, rfl, rfl⟩ := trodAll_nil r2
  obtain rfl : args = #[v0, v1, v2] := by cases args; simp_all
  obtain ⟨rfl, rfl⟩ := trodVars_none hV
  obtain ⟨a0, len0, cap0, rfl⟩ := okWide_slice Try.underlying22 (hval 0 22 v0 rfl rfl)
  have k0 := h0
  have lt0 : ∀ x ∈ p0, x.block < W.heap.size := by obtain ⟨m, hm⟩ := k0; exact DataW.trod_lt m _ _ _ hm
  have w0 := open_rs h0
  obtain ⟨a1, rfl, rfl, rfl, w1⟩ := open_int Try.underlying3 (hval 1 3 v1 rfl rfl) h1
  obtain ⟨a2, rfl, rfl, rfl, w2⟩ := open_int Try.underlying3 (hval 2 3 v2 rfl rfl) h2
  clear hA0 hval0
  refine (walk W a0 len0 cap0 w0 a1 w1 a2 w2).mono fun e W' ⟨he, bel⟩ => ?_
  subst he
  exact ⟨_, rfl, _, _, _, [], _, [], hW', trodAll_mk1 (shut_bool Try.underlying4 _), (trodAll_cons_mk (Below.trod laidOut (by kernel_rfl) (of_decide_eq_true (by kernel_rfl)) k0 bel lt0) (trodAll_cons_mk (shut_int Try.underlying3 w1) (trodAll_cons_mk (shut_int Try.underlying3 w2) trodAll_mk0))), rfl, bel.frame _, fun h => by cases h⟩

theorem over : Rows.spansOneRow.holds Try.pinned (OpenSpec.ofChange Rows.spansOneSpec) :=
  OpenClaim.holds_of_wide 7 Try.f7 rfl rfl rfl rfl rfl rfl rfl ⟨rfl, rfl, rfl, rfl, rfl⟩ rfl rfl rfl rfl rfl (by kernel_rfl) Try.func7 (by kernel_rfl)
    (of_decide_eq_true (by kernel_rfl)) (by unfold Func.isWrapper; first | (rw [if_pos (by decide +kernel)]; kernel_rfl) | (rw [if_neg (by decide +kernel)]; exact ⟨rfl, rfl⟩))
    (fun os started H enc _ => lifted os started H enc)

theorem proved : Rows.SpansOneSaid := over
end Go.Proofs.Ytjcanhfbgnopdaa.spansOne
