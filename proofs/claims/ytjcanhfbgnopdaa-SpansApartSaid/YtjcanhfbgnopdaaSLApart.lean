/-
  Proved: the statement SpansApart (in both of a set and what it has not there is nothing; together they are all), for every input; no further condition.
-/
import Derived.Test.YtjcanhfbgnopdaaRows
import Derived.Test.YtjcanhfbgnopdaaSpB
import Derived.ProofKit
import Derived.OpenShut
import Derived.ShutString
import Derived.ChangeOld
namespace Go.Proofs.Ytjcanhfbgnopdaa.spansApart
open Go.ChangeShapes Go.WideShapes Go.ChangeAt Go.RowKit
open Go.ChangeMaps (open_string shut_string)
set_option linter.unusedVariables false
set_option linter.unusedSimpArgs false
set_option maxRecDepth 100000

theorem own : ownKnob Try.prog.godebug = none := by kernel_rfl
theorem laidOut : laidOutB Try.prog = true := by kernel_rfl

set_option maxHeartbeats 8000000 in
theorem walk (w : World) (a0 : Option Addr) (len0 cap0 : Nat) (w0 : ∃ l, RSl w (.slice a0 len0 cap0) l ∧ l.length = len0 ∧ len0 ≤ maxLen) :
    Calls Try.prog 8 #[.slice a0 len0 cap0] w fun e w' => e = .returned (.bool true) ∧ Below w.heap.size w w' := by
  obtain ⟨s, hs, hn0, hm0⟩ := w0
  have HB := Lib.hid (Below.refl w.heap.size w)
  have HVs := Lib.hid hs
  have HNs := Lib.hid hn0
  clear hs hn0 hm0
  go_enter Try.func8, Try.ntmps8
  go_wp2_with fail
  refine (awake_ok _).mono ?_
  rintro e w1x ⟨rfl, h2⟩
  have HVs_1 := Lib.hid (HVs.out.below h2)
  have HB_1 := Lib.hid (HB.out.trans (h2.mono HB.out.size))
  clear h2 HVs HB
  by_cases hl0 : 40 < len0
  · have q0 : decide ((40 : Int) < (len0 : Int)) = true := decide_eq_true (by omega)
    have qn0 : decide (40 < len0) = true := decide_eq_true hl0
    go_wp2_with fail
    go_ret
    exact ⟨rfl, HB_1.out⟩
  have q0 : decide ((40 : Int) < (len0 : Int)) = false := decide_eq_false (by omega)
  have qn0 : decide (40 < len0) = false := decide_eq_false hl0
  have HLs := Lib.hid (show s.length ≤ 40 by have := HNs.out; omega)
  clear hl0
  go_wp2_with fail
  refine (Whole_ok _).mono ?_
  rintro e w2x ⟨vw, rfl, hw, h2⟩
  have HVs_2 := Lib.hid (HVs_1.out.below h2)
  have HB_2 := Lib.hid (HB_1.out.trans (h2.mono HB_1.out.size))
  have HVW := Lib.hid hw
  clear h2 HVs_1 HB_1 hw
  have HLwholeL := Lib.hid (show wholeL.length ≤ 1 by simp [wholeL])
  go_wp2_with fail
  refine (Minus_ok _ _ _ wholeL s HVW.out HVs_2.out (by have := HLwholeL.out; omega) (by have := HLs.out; omega)).mono ?_
  rintro e w3x ⟨v3, r, rfl, h1, h2⟩
  have HVs_3 := Lib.hid (HVs_2.out.below h2)
  have HVwholeL_3 := Lib.hid (HVW.out.below h2)
  have HB_3 := Lib.hid (HB_2.out.trans (h2.mono HB_2.out.size))
  have HVr_3 := Lib.hid h1.1
  have HSr := Lib.hid h1.2.1
  have HLr := Lib.hid h1.2.2
  clear h1 h2 HVs_2 HVW HB_2
  have HWN := Lib.hid (show ∀ n, I64 n → mem wholeL n from fun n hn => (wholeL_says.2.2 n hn).2 trivial)
  go_wp2_with fail
  refine (Meet_ok _ _ _ s r HVs_3.out HVr_3.out (by have := HLs.out; omega) (by have := HLr.out; have := HLs.out; have := HLwholeL.out; omega)).mono ?_
  rintro e w4x ⟨v4, m1, rfl, h1, h2⟩
  have HVs_4 := Lib.hid (HVs_3.out.below h2)
  have HVwholeL_4 := Lib.hid (HVwholeL_3.out.below h2)
  have HVr_4 := Lib.hid (HVr_3.out.below h2)
  have HB_4 := Lib.hid (HB_3.out.trans (h2.mono HB_3.out.size))
  have HVm1_4 := Lib.hid h1.1
  have HSm1 := Lib.hid h1.2.1
  have HLm1 := Lib.hid h1.2.2
  clear h1 h2 HVs_3 HVwholeL_3 HVr_3 HB_3
  have HIM := Lib.hid (show ∀ n, I64 n → ¬ (mem s n ∧ mem r n) from fun n hn h => ((HSr.out.2.2 n hn).1 h.2).2 h.1)
  obtain rfl : m1 = [] := HSm1.out.1.uniq rgt_nil (fun n => ⟨fun hm => absurd ((HSm1.out.2.2 n (HSm1.out.2.1.mem hm)).1 hm) (HIM.out n (HSm1.out.2.1.mem hm)), fun hm => absurd hm mem_nil⟩)
  obtain ⟨sam1, cam1, hsa⟩ := HVm1_4.out.shape
  subst hsa
  simp only [List.length_nil]
  clear HVm1_4
  clear HSm1 HLm1
  go_wp2_with fail
  refine (Union_ok _ _ _ s r HVs_4.out HVr_4.out (by have := HLs.out; omega) (by have := HLr.out; have := HLs.out; have := HLwholeL.out; omega)).mono ?_
  rintro e w5x ⟨v5, u1, rfl, h1, h2⟩
  have HVs_5 := Lib.hid (HVs_4.out.below h2)
  have HVwholeL_5 := Lib.hid (HVwholeL_4.out.below h2)
  have HVr_5 := Lib.hid (HVr_4.out.below h2)
  have HB_5 := Lib.hid (HB_4.out.trans (h2.mono HB_4.out.size))
  have HVu1_5 := Lib.hid h1.1
  have HSu1 := Lib.hid h1.2.1
  have HLu1 := Lib.hid h1.2.2
  clear h1 h2 HVs_4 HVwholeL_4 HVr_4 HB_4
  go_wp2_with fail
  refine (Whole_ok _).mono ?_
  rintro e w6x ⟨vw2, rfl, hw, h2⟩
  have HVs_6 := Lib.hid (HVs_5.out.below h2)
  have HVwholeL_6 := Lib.hid (HVwholeL_5.out.below h2)
  have HVr_6 := Lib.hid (HVr_5.out.below h2)
  have HVu1_6 := Lib.hid (HVu1_5.out.below h2)
  have HB_6 := Lib.hid (HB_5.out.trans (h2.mono HB_5.out.size))
  have HVW2 := Lib.hid hw
  clear h2 HVs_5 HVwholeL_5 HVr_5 HVu1_5 HB_5 hw
  go_wp2_with fail
  refine (same_yes _ _ _ u1 wholeL HVu1_6.out HVW2.out (by have := HLu1.out; have := HLr.out; have := HLs.out; have := HLwholeL.out; omega) (HSu1.out.eq wholeL_says (fun n hn => by rw [HSr.out.2.2 n hn]; have hwn := HWN.out n hn; by_cases h1 : mem s n <;> simp [h1, hwn]))).mono ?_
  rintro e w7x ⟨rfl, h2⟩
  have HVs_7 := Lib.hid (HVs_6.out.below h2)
  have HVwholeL_7 := Lib.hid (HVwholeL_6.out.below h2)
  have HVr_7 := Lib.hid (HVr_6.out.below h2)
  have HVu1_7 := Lib.hid (HVu1_6.out.below h2)
  have HB_7 := Lib.hid (HB_6.out.trans (h2.mono HB_6.out.size))
  clear h2 HVs_6 HVwholeL_6 HVr_6 HVu1_6 HB_6
  go_wp2_with fail
  refine (Minus_ok _ _ _ s s HVs_7.out HVs_7.out (by have := HLs.out; omega) (by have := HLs.out; omega)).mono ?_
  rintro e w8x ⟨v8, m2, rfl, h1, h2⟩
  have HVs_8 := Lib.hid (HVs_7.out.below h2)
  have HVwholeL_8 := Lib.hid (HVwholeL_7.out.below h2)
  have HVr_8 := Lib.hid (HVr_7.out.below h2)
  have HVu1_8 := Lib.hid (HVu1_7.out.below h2)
  have HB_8 := Lib.hid (HB_7.out.trans (h2.mono HB_7.out.size))
  have HVm2_8 := Lib.hid h1.1
  have HSm2 := Lib.hid h1.2.1
  have HLm2 := Lib.hid h1.2.2
  clear h1 h2 HVs_7 HVwholeL_7 HVr_7 HVu1_7 HB_7
  obtain rfl : m2 = [] := HSm2.out.1.uniq rgt_nil (fun n => ⟨fun hm => absurd ((HSm2.out.2.2 n (HSm2.out.2.1.mem hm)).1 hm) (fun h => h.2 h.1), fun hm => absurd hm mem_nil⟩)
  obtain ⟨sam2, cam2, hsa⟩ := HVm2_8.out.shape
  subst hsa
  simp only [List.length_nil]
  clear HVm2_8
  clear HSm2 HLm2
  go_wp2_with fail
  go_ret
  exact ⟨rfl, HB_8.out⟩

set_option maxRecDepth 100000 in
theorem lifted (os : Os) (started : os.Started) (H : Type) (enc : TypeId × Value → H) :
    ReturnsInHanded {} Try.checked os 8 .any (Rows.spansApartSpec.pre6 enc Try.prog Try.f8 Rows.spansApartRow.domain false) (Rows.spansApartSpec.post enc Try.prog Try.f8 false true false false) := by
  refine returnsInHanded_of_change (C := Try.checked) own started (by kernel_rfl) Try.func8
    (ChangeSpec.witness6 (enc := enc) (C := Try.checked) false ⟨#[], #[.slice none 0 0], []⟩ 8 (by kernel_rfl) (by kernel_rfl) (by kernel_rfl) (by kernel_rfl)) ?_
  intro W base args ds gs before hval0 hW hcnd _
  have hval : ∀ (j : Nat) t v, Try.f8.params[j]? = some t → args[j]? = some v → Value.okWide Try.prog W .any base t v := hval0
  have hW' := hW
  obtain ⟨p, q, hA0, hV, rfl, hfz, hnd⟩ := hW
  have hA : DataW.TrodAll enc Try.prog W 0 (fun _ => true) true Try.f8.params.toList args.toList ds p := hA0
  rw [Try.params8] at hA hval
  obtain ⟨v0, vs0, d0, ds0, p0, q0, hargs, rfl, rfl, h0, r0⟩ := trodAll_cons hA
  obtain ⟨rfl, rfl, rfl⟩ := trodAll_nil r0
  obtain rfl : args = #[v0] := by cases args; simp_all
  obtain ⟨rfl, rfl⟩ := trodVars_none hV
  obtain ⟨a0, len0, cap0, rfl⟩ := okWide_slice Try.underlying22 (hval 0 22 v0 rfl rfl)
  have k0 := h0
  have lt0 : ∀ x ∈ p0, x.block < W.heap.size := by obtain ⟨m, hm⟩ := k0; exact DataW.trod_lt m _ _ _ hm
  have w0 := open_rs h0
  clear hA0 hval0
  refine (walk W a0 len0 cap0 w0).mono fun e W' ⟨he, bel⟩ => ?_
  subst he
  exact ⟨_, rfl, _, _, _, [], _, [], hW', trodAll_mk1 (shut_bool Try.underlying4 _), (trodAll_cons_mk (Below.trod laidOut (by kernel_rfl) (of_decide_eq_true (by kernel_rfl)) k0 bel lt0) trodAll_mk0), rfl, bel.frame _, fun h => by cases h⟩

theorem over : Rows.spansApartRow.holds Try.pinned (OpenSpec.ofChange Rows.spansApartSpec) :=
  OpenClaim.holds_of_wide 8 Try.f8 rfl rfl rfl rfl rfl rfl rfl ⟨rfl, rfl, rfl, rfl, rfl⟩ rfl rfl rfl rfl rfl (by kernel_rfl) Try.func8 (by kernel_rfl)
    (of_decide_eq_true (by kernel_rfl)) (by unfold Func.isWrapper; first | (rw [if_pos (by decide +kernel)]; kernel_rfl) | (rw [if_neg (by decide +kernel)]; exact ⟨rfl, rfl⟩))
    (fun os started H enc _ => lifted os started H enc)

theorem proved : Rows.SpansApartSaid := over
end Go.Proofs.Ytjcanhfbgnopdaa.spansApart
