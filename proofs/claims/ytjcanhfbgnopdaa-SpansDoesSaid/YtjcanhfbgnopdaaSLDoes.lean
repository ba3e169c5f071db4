/-
  Proved: the statement SpansDoes (what any two sets are together, in both, and the one without the other, is what the document says), for every input; no further condition.
-/
import Derived.Test.YtjcanhfbgnopdaaRows
import Derived.Test.YtjcanhfbgnopdaaSpB
import Derived.ProofKit
import Derived.OpenShut
import Derived.ShutString
import Derived.ChangeOld
namespace Go.Proofs.Ytjcanhfbgnopdaa.spansDoes
open Go.ChangeShapes Go.WideShapes Go.ChangeAt Go.RowKit
open Go.ChangeMaps (open_string shut_string)
set_option linter.unusedVariables false
set_option linter.unusedSimpArgs false
set_option maxRecDepth 100000

theorem own : ownKnob Try.prog.godebug = none := by kernel_rfl
theorem laidOut : laidOutB Try.prog = true := by kernel_rfl

set_option maxHeartbeats 8000000 in
theorem walk (w : World) (a0 : Option Addr) (len0 cap0 : Nat) (w0 : ∃ l, RSl w (.slice a0 len0 cap0) l ∧ l.length = len0 ∧ len0 ≤ maxLen) (a1 : Option Addr) (len1 cap1 : Nat) (w1 : ∃ l, RSl w (.slice a1 len1 cap1) l ∧ l.length = len1 ∧ len1 ≤ maxLen) :
    Calls Try.prog 4 #[.slice a0 len0 cap0, .slice a1 len1 cap1] w fun e w' => e = .returned (.bool true) ∧ Below w.heap.size w w' := by
  obtain ⟨a, ha, hn0, hm0⟩ := w0
  obtain ⟨b, hb, hn1, hm1⟩ := w1
  have HB := Lib.hid (Below.refl w.heap.size w)
  have HVa := Lib.hid ha
  have HNa := Lib.hid hn0
  have HVb := Lib.hid hb
  have HNb := Lib.hid hn1
  clear ha hb hn0 hm0 hn1 hm1
  go_enter Try.func4, Try.ntmps4
  go_wp2_with fail
  refine (awake_ok _).mono ?_
  rintro e w1x ⟨rfl, h2⟩
  have HVa_1 := Lib.hid (HVa.out.below h2)
  have HVb_1 := Lib.hid (HVb.out.below h2)
  have HB_1 := Lib.hid (HB.out.trans (h2.mono HB.out.size))
  clear h2 HVa HVb HB
  by_cases hl0 : 40 < len0
  · have q0 : decide ((40 : Int) < (len0 : Int)) = true := decide_eq_true (by omega)
    have qn0 : decide (40 < len0) = true := decide_eq_true hl0
    go_wp2_with fail
    go_ret
    exact ⟨rfl, HB_1.out⟩
  have q0 : decide ((40 : Int) < (len0 : Int)) = false := decide_eq_false (by omega)
  have qn0 : decide (40 < len0) = false := decide_eq_false hl0
  have HLa := Lib.hid (show a.length ≤ 40 by have := HNa.out; omega)
  clear hl0
  by_cases hl1 : 40 < len1
  · have q1 : decide ((40 : Int) < (len1 : Int)) = true := decide_eq_true (by omega)
    have qn1 : decide (40 < len1) = true := decide_eq_true hl1
    go_wp2_with fail
    go_ret
    exact ⟨rfl, HB_1.out⟩
  have q1 : decide ((40 : Int) < (len1 : Int)) = false := decide_eq_false (by omega)
  have qn1 : decide (40 < len1) = false := decide_eq_false hl1
  have HLb := Lib.hid (show b.length ≤ 40 by have := HNb.out; omega)
  clear hl1
  go_wp2_with fail
  refine (Union_ok _ _ _ a b HVa_1.out HVb_1.out (by have := HLa.out; omega) (by have := HLb.out; omega)).mono ?_
  rintro e w2x ⟨v2, r1, rfl, h1, h2⟩
  have HVa_2 := Lib.hid (HVa_1.out.below h2)
  have HVb_2 := Lib.hid (HVb_1.out.below h2)
  have HB_2 := Lib.hid (HB_1.out.trans (h2.mono HB_1.out.size))
  have HVr1_2 := Lib.hid h1.1
  have HSr1 := Lib.hid h1.2.1
  have HLr1 := Lib.hid h1.2.2
  clear h1 h2 HVa_1 HVb_1 HB_1
  go_wp2_with fail
  refine (rUnion_ok _ _ _ a b HVa_2.out HVb_2.out (by have := HLa.out; omega) (by have := HLb.out; omega)).mono ?_
  rintro e w3x ⟨v3, r2, rfl, h1, h2⟩
  have HVa_3 := Lib.hid (HVa_2.out.below h2)
  have HVb_3 := Lib.hid (HVb_2.out.below h2)
  have HVr1_3 := Lib.hid (HVr1_2.out.below h2)
  have HB_3 := Lib.hid (HB_2.out.trans (h2.mono HB_2.out.size))
  have HVr2_3 := Lib.hid h1.1
  have HSr2 := Lib.hid h1.2.1
  have HLr2 := Lib.hid h1.2.2
  clear h1 h2 HVa_2 HVb_2 HVr1_2 HB_2
  go_wp2_with fail
  refine (same_yes _ _ _ r1 r2 HVr1_3.out HVr2_3.out (by have := HLr1.out; have := HLa.out; have := HLb.out; omega) (HSr1.out.eq HSr2.out (fun _ _ => Iff.rfl))).mono ?_
  rintro e w4x ⟨rfl, h2⟩
  have HVa_4 := Lib.hid (HVa_3.out.below h2)
  have HVb_4 := Lib.hid (HVb_3.out.below h2)
  have HVr1_4 := Lib.hid (HVr1_3.out.below h2)
  have HVr2_4 := Lib.hid (HVr2_3.out.below h2)
  have HB_4 := Lib.hid (HB_3.out.trans (h2.mono HB_3.out.size))
  clear h2 HVa_3 HVb_3 HVr1_3 HVr2_3 HB_3
  clear HVr1_4
  clear HVr2_4
  clear HSr1 HSr2 HLr1 HLr2
  go_wp2_with fail
  refine (Meet_ok _ _ _ a b HVa_4.out HVb_4.out (by have := HLa.out; omega) (by have := HLb.out; omega)).mono ?_
  rintro e w5x ⟨v5, r1, rfl, h1, h2⟩
  have HVa_5 := Lib.hid (HVa_4.out.below h2)
  have HVb_5 := Lib.hid (HVb_4.out.below h2)
  have HB_5 := Lib.hid (HB_4.out.trans (h2.mono HB_4.out.size))
  have HVr1_5 := Lib.hid h1.1
  have HSr1 := Lib.hid h1.2.1
  have HLr1 := Lib.hid h1.2.2
  clear h1 h2 HVa_4 HVb_4 HB_4
  go_wp2_with fail
  refine (rMeet_ok _ _ _ a b HVa_5.out HVb_5.out (by have := HLa.out; omega) (by have := HLb.out; omega)).mono ?_
  rintro e w6x ⟨v6, r2, rfl, h1, h2⟩
  have HVa_6 := Lib.hid (HVa_5.out.below h2)
  have HVb_6 := Lib.hid (HVb_5.out.below h2)
  have HVr1_6 := Lib.hid (HVr1_5.out.below h2)
  have HB_6 := Lib.hid (HB_5.out.trans (h2.mono HB_5.out.size))
  have HVr2_6 := Lib.hid h1.1
  have HSr2 := Lib.hid h1.2.1
  have HLr2 := Lib.hid h1.2.2
  clear h1 h2 HVa_5 HVb_5 HVr1_5 HB_5
  go_wp2_with fail
  refine (same_yes _ _ _ r1 r2 HVr1_6.out HVr2_6.out (by have := HLr1.out; have := HLa.out; have := HLb.out; omega) (HSr1.out.eq HSr2.out (fun _ _ => Iff.rfl))).mono ?_
  rintro e w7x ⟨rfl, h2⟩
  have HVa_7 := Lib.hid (HVa_6.out.below h2)
  have HVb_7 := Lib.hid (HVb_6.out.below h2)
  have HVr1_7 := Lib.hid (HVr1_6.out.below h2)
  have HVr2_7 := Lib.hid (HVr2_6.out.below h2)
  have HB_7 := Lib.hid (HB_6.out.trans (h2.mono HB_6.out.size))
  clear h2 HVa_6 HVb_6 HVr1_6 HVr2_6 HB_6
  clear HVr1_7
  clear HVr2_7
  clear HSr1 HSr2 HLr1 HLr2
  go_wp2_with fail
  refine (Minus_ok _ _ _ a b HVa_7.out HVb_7.out (by have := HLa.out; omega) (by have := HLb.out; omega)).mono ?_
  rintro e w8x ⟨v8, r1, rfl, h1, h2⟩
  have HVa_8 := Lib.hid (HVa_7.out.below h2)
  have HVb_8 := Lib.hid (HVb_7.out.below h2)
  have HB_8 := Lib.hid (HB_7.out.trans (h2.mono HB_7.out.size))
  have HVr1_8 := Lib.hid h1.1
  have HSr1 := Lib.hid h1.2.1
  have HLr1 := Lib.hid h1.2.2
  clear h1 h2 HVa_7 HVb_7 HB_7
  go_wp2_with fail
  refine (rMinus_ok _ _ _ a b HVa_8.out HVb_8.out (by have := HLa.out; omega) (by have := HLb.out; omega)).mono ?_
  rintro e w9x ⟨v9, r2, rfl, h1, h2⟩
  have HVa_9 := Lib.hid (HVa_8.out.below h2)
  have HVb_9 := Lib.hid (HVb_8.out.below h2)
  have HVr1_9 := Lib.hid (HVr1_8.out.below h2)
  have HB_9 := Lib.hid (HB_8.out.trans (h2.mono HB_8.out.size))
  have HVr2_9 := Lib.hid h1.1
  have HSr2 := Lib.hid h1.2.1
  have HLr2 := Lib.hid h1.2.2
  clear h1 h2 HVa_8 HVb_8 HVr1_8 HB_8
  go_wp2_with fail
  refine (same_yes _ _ _ r1 r2 HVr1_9.out HVr2_9.out (by have := HLr1.out; have := HLa.out; have := HLb.out; omega) (HSr1.out.eq HSr2.out (fun _ _ => Iff.rfl))).mono ?_
  rintro e w10x ⟨rfl, h2⟩
  have HVa_10 := Lib.hid (HVa_9.out.below h2)
  have HVb_10 := Lib.hid (HVb_9.out.below h2)
  have HVr1_10 := Lib.hid (HVr1_9.out.below h2)
  have HVr2_10 := Lib.hid (HVr2_9.out.below h2)
  have HB_10 := Lib.hid (HB_9.out.trans (h2.mono HB_9.out.size))
  clear h2 HVa_9 HVb_9 HVr1_9 HVr2_9 HB_9
  clear HVr1_10
  clear HVr2_10
  clear HSr1 HSr2 HLr1 HLr2
  go_wp2_with fail
  go_ret
  exact ⟨rfl, HB_10.out⟩

set_option maxRecDepth 100000 in
theorem lifted (os : Os) (started : os.Started) (H : Type) (enc : TypeId × Value → H) :
    ReturnsInHanded {} Try.checked os 4 .any (Rows.spansDoesSpec.pre6 enc Try.prog Try.f4 Rows.spansDoesRow.domain false) (Rows.spansDoesSpec.post enc Try.prog Try.f4 false true false false) := by
  refine returnsInHanded_of_change (C := Try.checked) own started (by kernel_rfl) Try.func4
    (ChangeSpec.witness6 (enc := enc) (C := Try.checked) false ⟨#[], #[.slice none 0 0, .slice none 0 0], []⟩ 8 (by kernel_rfl) (by kernel_rfl) (by kernel_rfl) (by kernel_rfl)) ?_
  intro W base args ds gs before hval0 hW hcnd _
  have hval : ∀ (j : Nat) t v, Try.f4.params[j]? = some t → args[j]? = some v → Value.okWide Try.prog W .any base t v := hval0
  have hW' := hW
  obtain ⟨p, q, hA0, hV, rfl, hfz, hnd⟩ := hW
  have hA : DataW.TrodAll enc Try.prog W 0 (fun _ => true) true Try.f4.params.toList args.toList ds p := hA0
  rw [Try.params4] at hA hval
  obtain ⟨v0, vs0, d0, ds0, p0, q0, hargs, rfl, rfl, h0, r0⟩ := trodAll_cons hA
  obtain ⟨v1, vs1, d1, ds1, p1, q1, rfl, rfl, rfl, h1, r1⟩ := trodAll_cons r0
  obtain ⟨rfl, rfl, rfl⟩ := trodAll_nil r1
  obtain rfl : args = #[v0, v1] := by cases args; simp_all
  obtain ⟨rfl, rfl⟩ := trodVars_none hV
  obtain ⟨a0, len0, cap0, rfl⟩ := okWide_slice Try.underlying22 (hval 0 22 v0 rfl rfl)
  have k0 := h0
  have lt0 : ∀ x ∈ p0, x.block < W.heap.size := by obtain ⟨m, hm⟩ := k0; exact DataW.trod_lt m _ _ _ hm
  have w0 := open_rs h0
  obtain ⟨a1, len1, cap1, rfl⟩ := okWide_slice Try.underlying22 (hval 1 22 v1 rfl rfl)
  have k1 := h1
  have lt1 : ∀ x ∈ p1, x.block < W.heap.size := by obtain ⟨m, hm⟩ := k1; exact DataW.trod_lt m _ _ _ hm
  have w1 := open_rs h1
  clear hA0 hval0
  refine (walk W a0 len0 cap0 w0 a1 len1 cap1 w1).mono fun e W' ⟨he, bel⟩ => ?_
  subst he
  exact ⟨_, rfl, _, _, _, [], _, [], hW', trodAll_mk1 (shut_bool Try.underlying4 _), (trodAll_cons_mk (Below.trod laidOut (by kernel_rfl) (of_decide_eq_true (by kernel_rfl)) k0 bel lt0) (trodAll_cons_mk (Below.trod laidOut (by kernel_rfl) (of_decide_eq_true (by kernel_rfl)) k1 bel lt1) trodAll_mk0)), rfl, bel.frame _, fun h => by cases h⟩

theorem over : Rows.spansDoesRow.holds Try.pinned (OpenSpec.ofChange Rows.spansDoesSpec) :=
  OpenClaim.holds_of_wide 4 Try.f4 rfl rfl rfl rfl rfl rfl rfl ⟨rfl, rfl, rfl, rfl, rfl⟩ rfl rfl rfl rfl rfl (by kernel_rfl) Try.func4 (by kernel_rfl)
    (of_decide_eq_true (by kernel_rfl)) (by unfold Func.isWrapper; first | (rw [if_pos (by decide +kernel)]; kernel_rfl) | (rw [if_neg (by decide +kernel)]; exact ⟨rfl, rfl⟩))
    (fun os started H enc _ => lifted os started H enc)

theorem proved : Rows.SpansDoesSaid := over
end Go.Proofs.Ytjcanhfbgnopdaa.spansDoes
