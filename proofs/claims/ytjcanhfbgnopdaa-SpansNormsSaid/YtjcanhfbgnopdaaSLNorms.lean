/-
  Proved: the statement SpansNorms (whether any ranges are right, the right set of the same numbers, and whether any number is in it, are what the document says), for every input; no further condition.
-/
import Derived.Test.YtjcanhfbgnopdaaRows
import Derived.Test.YtjcanhfbgnopdaaSpB
import Derived.ProofKit
import Derived.OpenShut
import Derived.ShutString
import Derived.ChangeOld
namespace Go.Proofs.Ytjcanhfbgnopdaa.spansNorms
open Go.ChangeShapes Go.WideShapes Go.ChangeAt Go.RowKit
open Go.ChangeMaps (open_string shut_string)
set_option linter.unusedVariables false
set_option linter.unusedSimpArgs false
set_option maxRecDepth 100000

theorem own : ownKnob Try.prog.godebug = none := by kernel_rfl
theorem laidOut : laidOutB Try.prog = true := by kernel_rfl

set_option maxHeartbeats 8000000 in
theorem walk (w : World) (a0 : Option Addr) (len0 cap0 : Nat) (w0 : ∃ l, RSl w (.slice a0 len0 cap0) l ∧ l.length = len0 ∧ len0 ≤ maxLen) (a1 : Int) (w1 : (Lit.int .i64 a1).wf = true) :
    Calls Try.prog 3 #[.slice a0 len0 cap0, .int .i64 a1] w fun e w' => e = .returned (.bool true) ∧ Below w.heap.size w w' := by
  obtain ⟨s, hs, hn0, hm0⟩ := w0
  have hi1 : I64 a1 := by simp [Lit.wf, IntKind.min, IntKind.max, IntKind.signed, IntKind.bits] at w1; unfold I64; omega
  have HI1 := Lib.hid hi1
  clear hi1 w1
  have HB := Lib.hid (Below.refl w.heap.size w)
  have HVs := Lib.hid hs
  have HNs := Lib.hid hn0
  clear hs hn0 hm0
  go_enter Try.func3, Try.ntmps3
  go_wp2_with fail
  refine (awake_ok _).mono ?_
  rintro e w1x ⟨rfl, h2⟩
  have HVs_1 := Lib.hid (HVs.out.below h2)
  have HB_1 := Lib.hid (HB.out.trans (h2.mono HB.out.size))
  clear h2 HVs HB
  by_cases hl0 : 60 < len0
  · have q0 : decide ((60 : Int) < (len0 : Int)) = true := decide_eq_true (by omega)
    have qn0 : decide (60 < len0) = true := decide_eq_true hl0
    go_wp2_with fail
    go_ret
    exact ⟨rfl, HB_1.out⟩
  have q0 : decide ((60 : Int) < (len0 : Int)) = false := decide_eq_false (by omega)
  have qn0 : decide (60 < len0) = false := decide_eq_false hl0
  have HLs := Lib.hid (show s.length ≤ 60 by have := HNs.out; omega)
  clear hl0
  go_wp2_with fail
  refine (Right_ok _ _ s HVs_1.out (by have := HLs.out; omega)).mono ?_
  rintro e w2x ⟨b1, rfl, hb1, h2⟩
  have HVs_2 := Lib.hid (HVs_1.out.below h2)
  have HB_2 := Lib.hid (HB_1.out.trans (h2.mono HB_1.out.size))
  clear h2 HVs_1 HB_1
  go_wp2_with fail
  refine (rRight_ok _ _ s HVs_2.out (by have := HLs.out; omega)).mono ?_
  rintro e w3x ⟨b2, rfl, hb2, h2⟩
  have HVs_3 := Lib.hid (HVs_2.out.below h2)
  have HB_3 := Lib.hid (HB_2.out.trans (h2.mono HB_2.out.size))
  clear h2 HVs_2 HB_2
  obtain rfl : b1 = b2 := by rw [Bool.eq_iff_iff, hb1, hb2]
  have qb : (b1 == b1) = true := by cases b1 <;> rfl
  clear hb1 hb2
  go_wp2_with fail
  refine (Norm_ok _ _ s HVs_3.out (by have := HLs.out; omega)).mono ?_
  rintro e w4x ⟨v4, r1, rfl, h1, h2⟩
  have HVs_4 := Lib.hid (HVs_3.out.below h2)
  have HB_4 := Lib.hid (HB_3.out.trans (h2.mono HB_3.out.size))
  have HVr1_4 := Lib.hid h1.1
  have HSr1 := Lib.hid h1.2.1
  have HLr1 := Lib.hid h1.2.2
  clear h1 h2 HVs_3 HB_3
  go_wp2_with fail
  refine (rNorm_ok _ _ s HVs_4.out (by have := HLs.out; omega)).mono ?_
  rintro e w5x ⟨v5, r2, rfl, h1, h2⟩
  have HVs_5 := Lib.hid (HVs_4.out.below h2)
  have HVr1_5 := Lib.hid (HVr1_4.out.below h2)
  have HB_5 := Lib.hid (HB_4.out.trans (h2.mono HB_4.out.size))
  have HVr2_5 := Lib.hid h1.1
  have HSr2 := Lib.hid h1.2.1
  have HLr2 := Lib.hid h1.2.2
  clear h1 h2 HVs_4 HVr1_4 HB_4
  go_wp2_with fail
  refine (same_yes _ _ _ r1 r2 HVr1_5.out HVr2_5.out (by have := HLr1.out; have := HLs.out; omega) (HSr1.out.eq HSr2.out (fun _ _ => Iff.rfl))).mono ?_
  rintro e w6x ⟨rfl, h2⟩
  have HVs_6 := Lib.hid (HVs_5.out.below h2)
  have HVr1_6 := Lib.hid (HVr1_5.out.below h2)
  have HVr2_6 := Lib.hid (HVr2_5.out.below h2)
  have HB_6 := Lib.hid (HB_5.out.trans (h2.mono HB_5.out.size))
  clear h2 HVs_5 HVr1_5 HVr2_5 HB_5
  obtain ⟨hb, hhb⟩ : ∃ hb, hasB s a1 = hb := ⟨_, rfl⟩
  have hc1 := Has_ok _ _ s a1 HVs_6.out (by have := HLs.out; omega)
  rw [hhb] at hc1
  have HC1 := Lib.hid hc1
  have HHB := Lib.hid hhb
  have qc : (hb == hb) = true := by cases hb <;> rfl
  clear hc1 hhb
  go_wp2_with fail
  refine (HC1.out).mono ?_
  rintro e w7x ⟨rfl, h2⟩
  have HVs_7 := Lib.hid (HVs_6.out.below h2)
  have HVr1_7 := Lib.hid (HVr1_6.out.below h2)
  have HVr2_7 := Lib.hid (HVr2_6.out.below h2)
  have HB_7 := Lib.hid (HB_6.out.trans (h2.mono HB_6.out.size))
  clear h2 HVs_6 HVr1_6 HVr2_6 HB_6
  have hc2 := rHas_ok _ _ s a1 HVs_7.out (by have := HLs.out; omega)
  rw [HHB.out] at hc2
  have HC2 := Lib.hid hc2
  clear hc2 HHB
  go_wp2_with fail
  refine HC2.out.mono ?_
  rintro e wz ⟨rfl, rfl⟩
  go_wp2_with fail
  go_ret
  exact ⟨rfl, HB_7.out⟩

set_option maxRecDepth 100000 in
theorem lifted (os : Os) (started : os.Started) (H : Type) (enc : TypeId × Value → H) :
    ReturnsInHanded {} Try.checked os 3 .any (Rows.spansNormsSpec.pre6 enc Try.prog Try.f3 Rows.spansNormsRow.domain false) (Rows.spansNormsSpec.post enc Try.prog Try.f3 false true false false) := by
  refine returnsInHanded_of_change (C := Try.checked) own started (by kernel_rfl) Try.func3
    (ChangeSpec.witness6 (enc := enc) (C := Try.checked) false ⟨#[], #[.slice none 0 0, .int .i64 0], []⟩ 8 (by kernel_rfl) (by kernel_rfl) (by kernel_rfl) (by kernel_rfl)) ?_
  intro W base args ds gs before hval0 hW hcnd _
  have hval : ∀ (j : Nat) t v, Try.f3.params[j]? = some t → args[j]? = some v → Value.okWide Try.prog W .any base t v := hval0
  have hW' := hW
  obtain ⟨p, q, hA0, hV, rfl, hfz, hnd⟩ := hW
  have hA : DataW.TrodAll enc Try.prog W 0 (fun _ => true) true Try.f3.params.toList args.toList ds p := hA0
  rw [Try.params3] at hA hval
  obtain ⟨v0, vs0, d0, ds0, p0, q0, hargs, rfl, rfl, h0, r0⟩ := trodAll_cons hA
  obtain ⟨v1, vs1, d1, ds1, p1, q1, rfl, rfl, rfl, h1, r1⟩ := trodAll_cons r0
  obtain ⟨rfl, rfl, rfl⟩ := trodAll_nil r1
  obtain rfl : args = #[v0, v1] := by cases args; simp_all
  obtain ⟨rfl, rfl⟩ := trodVars_none hV
  obtain ⟨a0, len0, cap0, rfl⟩ := okWide_slice Try.underlying22 (hval 0 22 v0 rfl rfl)
  have k0 := h0
  have lt0 : ∀ x ∈ p0, x.block < W.heap.size := by obtain ⟨m, hm⟩ := k0; exact DataW.trod_lt m _ _ _ hm
  have w0 := open_rs h0
  obtain ⟨a1, rfl, rfl, rfl, w1⟩ := open_int Try.underlying3 (hval 1 3 v1 rfl rfl) h1
  clear hA0 hval0
  refine (walk W a0 len0 cap0 w0 a1 w1).mono fun e W' ⟨he, bel⟩ => ?_
  subst he
  exact ⟨_, rfl, _, _, _, [], _, [], hW', trodAll_mk1 (shut_bool Try.underlying4 _), (trodAll_cons_mk (Below.trod laidOut (by kernel_rfl) (of_decide_eq_true (by kernel_rfl)) k0 bel lt0) (trodAll_cons_mk (shut_int Try.underlying3 w1) trodAll_mk0)), rfl, bel.frame _, fun h => by cases h⟩

theorem over : Rows.spansNormsRow.holds Try.pinned (OpenSpec.ofChange Rows.spansNormsSpec) :=
  OpenClaim.holds_of_wide 3 Try.f3 rfl rfl rfl rfl rfl rfl rfl ⟨rfl, rfl, rfl, rfl, rfl⟩ rfl rfl rfl rfl rfl (by kernel_rfl) Try.func3 (by kernel_rfl)
    (of_decide_eq_true (by kernel_rfl)) (by unfold Func.isWrapper; first | (rw [if_pos (by decide +kernel)]; kernel_rfl) | (rw [if_neg (by decide +kernel)]; exact ⟨rfl, rfl⟩))
    (fun os started H enc _ => lifted os started H enc)

theorem proved : Rows.SpansNormsSaid := over
end Go.Proofs.Ytjcanhfbgnopdaa.spansNorms
