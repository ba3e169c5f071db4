/-
  Proved: the statement SpansLaws (what two sets are together and in both is the same either way round; in both is the one without what it has alone; what is left twice is what was there), for every input; no further condition.
-/
import Derived.Test.YtjcanhfbgnopdaaRows
import Derived.Test.YtjcanhfbgnopdaaSpB
import Derived.ProofKit
import Derived.OpenShut
import Derived.ShutString
import Derived.ChangeOld
namespace Go.Proofs.Ytjcanhfbgnopdaa.spansLaws
open Go.ChangeShapes Go.WideShapes Go.ChangeAt Go.RowKit
open Go.ChangeMaps (open_string shut_string)
set_option linter.unusedVariables false
set_option linter.unusedSimpArgs false
set_option maxRecDepth 100000

theorem own : ownKnob Try.prog.godebug = none := by kernel_rfl
theorem laidOut : laidOutB Try.prog = true := by kernel_rfl

set_option maxHeartbeats 8000000 in
theorem walk (w : World) (a0 : Option Addr) (len0 cap0 : Nat) (w0 : ∃ l, RSl w (.slice a0 len0 cap0) l ∧ l.length = len0 ∧ len0 ≤ maxLen) (a1 : Option Addr) (len1 cap1 : Nat) (w1 : ∃ l, RSl w (.slice a1 len1 cap1) l ∧ l.length = len1 ∧ len1 ≤ maxLen) :
    Calls Try.prog 6 #[.slice a0 len0 cap0, .slice a1 len1 cap1] w fun e w' => e = .returned (.bool true) ∧ Below w.heap.size w w' := by
  obtain ⟨a, ha, hn0, hm0⟩ := w0
  obtain ⟨b, hb, hn1, hm1⟩ := w1
  have HB := Lib.hid (Below.refl w.heap.size w)
  have HVa := Lib.hid ha
  have HNa := Lib.hid hn0
  have HVb := Lib.hid hb
  have HNb := Lib.hid hn1
  clear ha hb hn0 hm0 hn1 hm1
  go_enter Try.func6, Try.ntmps6
  go_wp2_with fail
  refine (awake_ok _).mono ?_
  rintro e w1x ⟨rfl, h2⟩
  have HVa_1 := Lib.hid (HVa.out.below h2)
  have HVb_1 := Lib.hid (HVb.out.below h2)
  have HB_1 := Lib.hid (HB.out.trans (h2.mono HB.out.size))
  clear h2 HVa HVb HB
  by_cases hl0 : 40 < len0
  · have q0 : decide ((40 : Int) < (len0 : Int)) = true := decide_eq_true (by omega)
    have qn0 : decide (40 < len0) = true := decide_eq_true hl0
    go_wp2_with fail
    go_ret
    exact ⟨rfl, HB_1.out⟩
  have q0 : decide ((40 : Int) < (len0 : Int)) = false := decide_eq_false (by omega)
  have qn0 : decide (40 < len0) = false := decide_eq_false hl0
  have HLa := Lib.hid (show a.length ≤ 40 by have := HNa.out; omega)
  clear hl0
  by_cases hl1 : 40 < len1
  · have q1 : decide ((40 : Int) < (len1 : Int)) = true := decide_eq_true (by omega)
    have qn1 : decide (40 < len1) = true := decide_eq_true hl1
    go_wp2_with fail
    go_ret
    exact ⟨rfl, HB_1.out⟩
  have q1 : decide ((40 : Int) < (len1 : Int)) = false := decide_eq_false (by omega)
  have qn1 : decide (40 < len1) = false := decide_eq_false hl1
  have HLb := Lib.hid (show b.length ≤ 40 by have := HNb.out; omega)
  clear hl1
  go_wp2_with fail
  refine (Whole_ok _).mono ?_
  rintro e w2x ⟨vw, rfl, hw, h2⟩
  have HVa_2 := Lib.hid (HVa_1.out.below h2)
  have HVb_2 := Lib.hid (HVb_1.out.below h2)
  have HB_2 := Lib.hid (HB_1.out.trans (h2.mono HB_1.out.size))
  have HVW := Lib.hid hw
  clear h2 HVa_1 HVb_1 HB_1 hw
  have HLwholeL := Lib.hid (show wholeL.length ≤ 1 by simp [wholeL])
  go_wp2_with fail
  refine (Union_ok _ _ _ a b HVa_2.out HVb_2.out (by have := HLa.out; omega) (by have := HLb.out; omega)).mono ?_
  rintro e w3x ⟨v3, r1, rfl, h1, h2⟩
  have HVa_3 := Lib.hid (HVa_2.out.below h2)
  have HVb_3 := Lib.hid (HVb_2.out.below h2)
  have HVwholeL_3 := Lib.hid (HVW.out.below h2)
  have HB_3 := Lib.hid (HB_2.out.trans (h2.mono HB_2.out.size))
  have HVr1_3 := Lib.hid h1.1
  have HSr1 := Lib.hid h1.2.1
  have HLr1 := Lib.hid h1.2.2
  clear h1 h2 HVa_2 HVb_2 HVW HB_2
  go_wp2_with fail
  refine (Union_ok _ _ _ b a HVb_3.out HVa_3.out (by have := HLb.out; omega) (by have := HLa.out; omega)).mono ?_
  rintro e w4x ⟨v4, r2, rfl, h1, h2⟩
  have HVa_4 := Lib.hid (HVa_3.out.below h2)
  have HVb_4 := Lib.hid (HVb_3.out.below h2)
  have HVwholeL_4 := Lib.hid (HVwholeL_3.out.below h2)
  have HVr1_4 := Lib.hid (HVr1_3.out.below h2)
  have HB_4 := Lib.hid (HB_3.out.trans (h2.mono HB_3.out.size))
  have HVr2_4 := Lib.hid h1.1
  have HSr2 := Lib.hid h1.2.1
  have HLr2 := Lib.hid h1.2.2
  clear h1 h2 HVa_3 HVb_3 HVwholeL_3 HVr1_3 HB_3
  go_wp2_with fail
  refine (same_yes _ _ _ r1 r2 HVr1_4.out HVr2_4.out (by have := HLr1.out; have := HLa.out; have := HLb.out; omega) (HSr1.out.eq HSr2.out (fun n hn => by exact or_comm))).mono ?_
  rintro e w5x ⟨rfl, h2⟩
  have HVa_5 := Lib.hid (HVa_4.out.below h2)
  have HVb_5 := Lib.hid (HVb_4.out.below h2)
  have HVwholeL_5 := Lib.hid (HVwholeL_4.out.below h2)
  have HVr1_5 := Lib.hid (HVr1_4.out.below h2)
  have HVr2_5 := Lib.hid (HVr2_4.out.below h2)
  have HB_5 := Lib.hid (HB_4.out.trans (h2.mono HB_4.out.size))
  clear h2 HVa_4 HVb_4 HVwholeL_4 HVr1_4 HVr2_4 HB_4
  clear HVr1_5
  clear HVr2_5
  clear HSr1 HSr2 HLr1 HLr2
  go_wp2_with fail
  refine (Meet_ok _ _ _ a b HVa_5.out HVb_5.out (by have := HLa.out; omega) (by have := HLb.out; omega)).mono ?_
  rintro e w6x ⟨v6, r1, rfl, h1, h2⟩
  have HVa_6 := Lib.hid (HVa_5.out.below h2)
  have HVb_6 := Lib.hid (HVb_5.out.below h2)
  have HVwholeL_6 := Lib.hid (HVwholeL_5.out.below h2)
  have HB_6 := Lib.hid (HB_5.out.trans (h2.mono HB_5.out.size))
  have HVr1_6 := Lib.hid h1.1
  have HSr1 := Lib.hid h1.2.1
  have HLr1 := Lib.hid h1.2.2
  clear h1 h2 HVa_5 HVb_5 HVwholeL_5 HB_5
  go_wp2_with fail
  refine (Meet_ok _ _ _ b a HVb_6.out HVa_6.out (by have := HLb.out; omega) (by have := HLa.out; omega)).mono ?_
  rintro e w7x ⟨v7, r2, rfl, h1, h2⟩
  have HVa_7 := Lib.hid (HVa_6.out.below h2)
  have HVb_7 := Lib.hid (HVb_6.out.below h2)
  have HVwholeL_7 := Lib.hid (HVwholeL_6.out.below h2)
  have HVr1_7 := Lib.hid (HVr1_6.out.below h2)
  have HB_7 := Lib.hid (HB_6.out.trans (h2.mono HB_6.out.size))
  have HVr2_7 := Lib.hid h1.1
  have HSr2 := Lib.hid h1.2.1
  have HLr2 := Lib.hid h1.2.2
  clear h1 h2 HVa_6 HVb_6 HVwholeL_6 HVr1_6 HB_6
  go_wp2_with fail
  refine (same_yes _ _ _ r1 r2 HVr1_7.out HVr2_7.out (by have := HLr1.out; have := HLa.out; have := HLb.out; omega) (HSr1.out.eq HSr2.out (fun n hn => by exact and_comm))).mono ?_
  rintro e w8x ⟨rfl, h2⟩
  have HVa_8 := Lib.hid (HVa_7.out.below h2)
  have HVb_8 := Lib.hid (HVb_7.out.below h2)
  have HVwholeL_8 := Lib.hid (HVwholeL_7.out.below h2)
  have HVr1_8 := Lib.hid (HVr1_7.out.below h2)
  have HVr2_8 := Lib.hid (HVr2_7.out.below h2)
  have HB_8 := Lib.hid (HB_7.out.trans (h2.mono HB_7.out.size))
  clear h2 HVa_7 HVb_7 HVwholeL_7 HVr1_7 HVr2_7 HB_7
  clear HVr1_8
  clear HVr2_8
  clear HSr1 HSr2 HLr1 HLr2
  go_wp2_with fail
  refine (Meet_ok _ _ _ a b HVa_8.out HVb_8.out (by have := HLa.out; omega) (by have := HLb.out; omega)).mono ?_
  rintro e w9x ⟨v9, r1, rfl, h1, h2⟩
  have HVa_9 := Lib.hid (HVa_8.out.below h2)
  have HVb_9 := Lib.hid (HVb_8.out.below h2)
  have HVwholeL_9 := Lib.hid (HVwholeL_8.out.below h2)
  have HB_9 := Lib.hid (HB_8.out.trans (h2.mono HB_8.out.size))
  have HVr1_9 := Lib.hid h1.1
  have HSr1 := Lib.hid h1.2.1
  have HLr1 := Lib.hid h1.2.2
  clear h1 h2 HVa_8 HVb_8 HVwholeL_8 HB_8
  go_wp2_with fail
  refine (Minus_ok _ _ _ a b HVa_9.out HVb_9.out (by have := HLa.out; omega) (by have := HLb.out; omega)).mono ?_
  rintro e w10x ⟨v10, r2, rfl, h1, h2⟩
  have HVa_10 := Lib.hid (HVa_9.out.below h2)
  have HVb_10 := Lib.hid (HVb_9.out.below h2)
  have HVwholeL_10 := Lib.hid (HVwholeL_9.out.below h2)
  have HVr1_10 := Lib.hid (HVr1_9.out.below h2)
  have HB_10 := Lib.hid (HB_9.out.trans (h2.mono HB_9.out.size))
  have HVr2_10 := Lib.hid h1.1
  have HSr2 := Lib.hid h1.2.1
  have HLr2 := Lib.hid h1.2.2
  clear h1 h2 HVa_9 HVb_9 HVwholeL_9 HVr1_9 HB_9
  go_wp2_with fail
  refine (Minus_ok _ _ _ a r2 HVa_10.out HVr2_10.out (by have := HLa.out; omega) (by have := HLa.out; have := HLb.out; have := HLr2.out; omega)).mono ?_
  rintro e w11x ⟨v11, r3, rfl, h1, h2⟩
  have HVa_11 := Lib.hid (HVa_10.out.below h2)
  have HVb_11 := Lib.hid (HVb_10.out.below h2)
  have HVwholeL_11 := Lib.hid (HVwholeL_10.out.below h2)
  have HVr1_11 := Lib.hid (HVr1_10.out.below h2)
  have HVr2_11 := Lib.hid (HVr2_10.out.below h2)
  have HB_11 := Lib.hid (HB_10.out.trans (h2.mono HB_10.out.size))
  have HVr3_11 := Lib.hid h1.1
  have HSr3 := Lib.hid h1.2.1
  have HLr3 := Lib.hid h1.2.2
  clear h1 h2 HVa_10 HVb_10 HVwholeL_10 HVr1_10 HVr2_10 HB_10
  go_wp2_with fail
  refine (same_yes _ _ _ r1 r3 HVr1_11.out HVr3_11.out (by have := HLr1.out; have := HLa.out; have := HLb.out; omega) (HSr1.out.eq HSr3.out (fun n hn => by rw [HSr2.out.2.2 n hn]; by_cases h1 : mem a n <;> by_cases h2 : mem b n <;> simp [h1, h2]))).mono ?_
  rintro e w12x ⟨rfl, h2⟩
  have HVa_12 := Lib.hid (HVa_11.out.below h2)
  have HVb_12 := Lib.hid (HVb_11.out.below h2)
  have HVwholeL_12 := Lib.hid (HVwholeL_11.out.below h2)
  have HVr1_12 := Lib.hid (HVr1_11.out.below h2)
  have HVr2_12 := Lib.hid (HVr2_11.out.below h2)
  have HVr3_12 := Lib.hid (HVr3_11.out.below h2)
  have HB_12 := Lib.hid (HB_11.out.trans (h2.mono HB_11.out.size))
  clear h2 HVa_11 HVb_11 HVwholeL_11 HVr1_11 HVr2_11 HVr3_11 HB_11
  clear HVr1_12
  clear HVr2_12
  clear HVr3_12
  clear HSr1 HSr2 HSr3 HLr1 HLr2 HLr3
  go_wp2_with fail
  refine (Minus_ok _ _ _ wholeL a HVwholeL_12.out HVa_12.out (by have := HLwholeL.out; omega) (by have := HLa.out; omega)).mono ?_
  rintro e w13x ⟨v13, r1, rfl, h1, h2⟩
  have HVa_13 := Lib.hid (HVa_12.out.below h2)
  have HVb_13 := Lib.hid (HVb_12.out.below h2)
  have HVwholeL_13 := Lib.hid (HVwholeL_12.out.below h2)
  have HB_13 := Lib.hid (HB_12.out.trans (h2.mono HB_12.out.size))
  have HVr1_13 := Lib.hid h1.1
  have HSr1 := Lib.hid h1.2.1
  have HLr1 := Lib.hid h1.2.2
  clear h1 h2 HVa_12 HVb_12 HVwholeL_12 HB_12
  go_wp2_with fail
  refine (Minus_ok _ _ _ wholeL r1 HVwholeL_13.out HVr1_13.out (by have := HLwholeL.out; omega) (by have := HLa.out; have := HLb.out; have := HLr1.out; have := HLwholeL.out; omega)).mono ?_
  rintro e w14x ⟨v14, r2, rfl, h1, h2⟩
  have HVa_14 := Lib.hid (HVa_13.out.below h2)
  have HVb_14 := Lib.hid (HVb_13.out.below h2)
  have HVwholeL_14 := Lib.hid (HVwholeL_13.out.below h2)
  have HVr1_14 := Lib.hid (HVr1_13.out.below h2)
  have HB_14 := Lib.hid (HB_13.out.trans (h2.mono HB_13.out.size))
  have HVr2_14 := Lib.hid h1.1
  have HSr2 := Lib.hid h1.2.1
  have HLr2 := Lib.hid h1.2.2
  clear h1 h2 HVa_13 HVb_13 HVwholeL_13 HVr1_13 HB_13
  go_wp2_with fail
  refine (Norm_ok _ _ a HVa_14.out (by have := HLa.out; omega)).mono ?_
  rintro e w15x ⟨v15, r3, rfl, h1, h2⟩
  have HVa_15 := Lib.hid (HVa_14.out.below h2)
  have HVb_15 := Lib.hid (HVb_14.out.below h2)
  have HVwholeL_15 := Lib.hid (HVwholeL_14.out.below h2)
  have HVr1_15 := Lib.hid (HVr1_14.out.below h2)
  have HVr2_15 := Lib.hid (HVr2_14.out.below h2)
  have HB_15 := Lib.hid (HB_14.out.trans (h2.mono HB_14.out.size))
  have HVr3_15 := Lib.hid h1.1
  have HSr3 := Lib.hid h1.2.1
  have HLr3 := Lib.hid h1.2.2
  clear h1 h2 HVa_14 HVb_14 HVwholeL_14 HVr1_14 HVr2_14 HB_14
  have HWN := Lib.hid (show ∀ n, I64 n → mem wholeL n from fun n hn => (wholeL_says.2.2 n hn).2 trivial)
  go_wp2_with fail
  refine (same_yes _ _ _ r2 r3 HVr2_15.out HVr3_15.out (by have := HLr2.out; have := HLr1.out; have := HLwholeL.out; have := HLa.out; omega) (HSr2.out.eq HSr3.out (fun n hn => by rw [HSr1.out.2.2 n hn]; have hwn := HWN.out n hn; by_cases h1 : mem a n <;> simp [h1, hwn]))).mono ?_
  rintro e w16x ⟨rfl, h2⟩
  have HVa_16 := Lib.hid (HVa_15.out.below h2)
  have HVb_16 := Lib.hid (HVb_15.out.below h2)
  have HVwholeL_16 := Lib.hid (HVwholeL_15.out.below h2)
  have HVr1_16 := Lib.hid (HVr1_15.out.below h2)
  have HVr2_16 := Lib.hid (HVr2_15.out.below h2)
  have HVr3_16 := Lib.hid (HVr3_15.out.below h2)
  have HB_16 := Lib.hid (HB_15.out.trans (h2.mono HB_15.out.size))
  clear h2 HVa_15 HVb_15 HVwholeL_15 HVr1_15 HVr2_15 HVr3_15 HB_15
  clear HVr1_16
  clear HVr2_16
  clear HVr3_16
  clear HSr1 HSr2 HSr3 HLr1 HLr2 HLr3
  go_wp2_with fail
  refine (Norm_ok _ _ a HVa_16.out (by have := HLa.out; omega)).mono ?_
  rintro e w17x ⟨v17, r1, rfl, h1, h2⟩
  have HVa_17 := Lib.hid (HVa_16.out.below h2)
  have HVb_17 := Lib.hid (HVb_16.out.below h2)
  have HVwholeL_17 := Lib.hid (HVwholeL_16.out.below h2)
  have HB_17 := Lib.hid (HB_16.out.trans (h2.mono HB_16.out.size))
  have HVr1_17 := Lib.hid h1.1
  have HSr1 := Lib.hid h1.2.1
  have HLr1 := Lib.hid h1.2.2
  clear h1 h2 HVa_16 HVb_16 HVwholeL_16 HB_16
  go_wp2_with fail
  refine (Norm_ok _ _ r1 HVr1_17.out (by have := HLa.out; have := HLb.out; have := HLr1.out; omega)).mono ?_
  rintro e w18x ⟨v18, r2, rfl, h1, h2⟩
  have HVa_18 := Lib.hid (HVa_17.out.below h2)
  have HVb_18 := Lib.hid (HVb_17.out.below h2)
  have HVwholeL_18 := Lib.hid (HVwholeL_17.out.below h2)
  have HVr1_18 := Lib.hid (HVr1_17.out.below h2)
  have HB_18 := Lib.hid (HB_17.out.trans (h2.mono HB_17.out.size))
  have HVr2_18 := Lib.hid h1.1
  have HSr2 := Lib.hid h1.2.1
  have HLr2 := Lib.hid h1.2.2
  clear h1 h2 HVa_17 HVb_17 HVwholeL_17 HVr1_17 HB_17
  go_wp2_with fail
  refine (Norm_ok _ _ a HVa_18.out (by have := HLa.out; omega)).mono ?_
  rintro e w19x ⟨v19, r3, rfl, h1, h2⟩
  have HVa_19 := Lib.hid (HVa_18.out.below h2)
  have HVb_19 := Lib.hid (HVb_18.out.below h2)
  have HVwholeL_19 := Lib.hid (HVwholeL_18.out.below h2)
  have HVr1_19 := Lib.hid (HVr1_18.out.below h2)
  have HVr2_19 := Lib.hid (HVr2_18.out.below h2)
  have HB_19 := Lib.hid (HB_18.out.trans (h2.mono HB_18.out.size))
  have HVr3_19 := Lib.hid h1.1
  have HSr3 := Lib.hid h1.2.1
  have HLr3 := Lib.hid h1.2.2
  clear h1 h2 HVa_18 HVb_18 HVwholeL_18 HVr1_18 HVr2_18 HB_18
  go_wp2_with fail
  refine (same_yes _ _ _ r2 r3 HVr2_19.out HVr3_19.out (by have := HLr2.out; have := HLr1.out; have := HLa.out; omega) (HSr2.out.eq HSr3.out (fun n hn => by exact HSr1.out.2.2 n hn))).mono ?_
  rintro e w20x ⟨rfl, h2⟩
  have HVa_20 := Lib.hid (HVa_19.out.below h2)
  have HVb_20 := Lib.hid (HVb_19.out.below h2)
  have HVwholeL_20 := Lib.hid (HVwholeL_19.out.below h2)
  have HVr1_20 := Lib.hid (HVr1_19.out.below h2)
  have HVr2_20 := Lib.hid (HVr2_19.out.below h2)
  have HVr3_20 := Lib.hid (HVr3_19.out.below h2)
  have HB_20 := Lib.hid (HB_19.out.trans (h2.mono HB_19.out.size))
  clear h2 HVa_19 HVb_19 HVwholeL_19 HVr1_19 HVr2_19 HVr3_19 HB_19
  go_wp2_with fail
  go_ret
  exact ⟨rfl, HB_20.out⟩

set_option maxRecDepth 100000 in
theorem lifted (os : Os) (started : os.Started) (H : Type) (enc : TypeId × Value → H) :
    ReturnsInHanded {} Try.checked os 6 .any (Rows.spansLawsSpec.pre6 enc Try.prog Try.f6 Rows.spansLawsRow.domain false) (Rows.spansLawsSpec.post enc Try.prog Try.f6 false true false false) := by
  refine returnsInHanded_of_change (C := Try.checked) own started (by kernel_rfl) Try.func6
    (ChangeSpec.witness6 (enc := enc) (C := Try.checked) false ⟨#[], #[.slice none 0 0, .slice none 0 0], []⟩ 8 (by kernel_rfl) (by kernel_rfl) (by kernel_rfl) (by kernel_rfl)) ?_
  intro W base args ds gs before hval0 hW hcnd _
  have hval : ∀ (j : Nat) t v, Try.f6.params[j]? = some t → args[j]? = some v → Value.okWide Try.prog W .any base t v := hval0
  have hW' := hW
  obtain ⟨p, q, hA0, hV, rfl, hfz, hnd⟩ := hW
  have hA : DataW.TrodAll enc Try.prog W 0 (fun _ => true) true Try.f6.params.toList args.toList ds p := hA0
  rw [Try.params6] at hA hval
  obtain ⟨v0, vs0, d0, ds0, p0, q0, hargs, rfl, rfl, h0, r0⟩ := trodAll_cons hA
  obtain ⟨v1, vs1, d1, ds1, p1, q1, rfl, rfl, rfl, h1, r1⟩ := trodAll_cons r0
  obtain ⟨rfl, rfl, rfl⟩ := trodAll_nil r1
  obtain rfl : args = #[v0, v1] := by cases args; simp_all
  obtain ⟨rfl, rfl⟩ := trodVars_none hV
  obtain ⟨a0, len0, cap0, rfl⟩ := okWide_slice Try.underlying22 (hval 0 22 v0 rfl rfl)
  have k0 := h0
  have lt0 : ∀ x ∈ p0, x.block < W.heap.size := by obtain ⟨m, hm⟩ := k0; exact DataW.trod_lt m _ _ _ hm
  have w0 := open_rs h0
  obtain ⟨a1, len1, cap1, rfl⟩ := okWide_slice Try.underlying22 (hval 1 22 v1 rfl rfl)
  have k1 := h1
  have lt1 : ∀ x ∈ p1, x.block < W.heap.size := by obtain ⟨m, hm⟩ := k1; exact DataW.trod_lt m _ _ _ hm
  have w1 := open_rs h1
  clear hA0 hval0
  refine (walk W a0 len0 cap0 w0 a1 len1 cap1 w1).mono fun e W' ⟨he, bel⟩ => ?_
  subst he
  exact ⟨_, rfl, _, _, _, [], _, [], hW', trodAll_mk1 (shut_bool Try.underlying4 _), (trodAll_cons_mk (Below.trod laidOut (by kernel_rfl) (of_decide_eq_true (by kernel_rfl)) k0 bel lt0) (trodAll_cons_mk (Below.trod laidOut (by kernel_rfl) (of_decide_eq_true (by kernel_rfl)) k1 bel lt1) trodAll_mk0)), rfl, bel.frame _, fun h => by cases h⟩

theorem over : Rows.spansLawsRow.holds Try.pinned (OpenSpec.ofChange Rows.spansLawsSpec) :=
  OpenClaim.holds_of_wide 6 Try.f6 rfl rfl rfl rfl rfl rfl rfl ⟨rfl, rfl, rfl, rfl, rfl⟩ rfl rfl rfl rfl rfl (by kernel_rfl) Try.func6 (by kernel_rfl)
    (of_decide_eq_true (by kernel_rfl)) (by unfold Func.isWrapper; first | (rw [if_pos (by decide +kernel)]; kernel_rfl) | (rw [if_neg (by decide +kernel)]; exact ⟨rfl, rfl⟩))
    (fun os started H enc _ => lifted os started H enc)

theorem proved : Rows.SpansLawsSaid := over
end Go.Proofs.Ytjcanhfbgnopdaa.spansLaws
