/-
  Proved: the statement StringsNone (of a writer or a reader that is none nothing is told; beside an error nothing is written), for every input; no further condition.
-/
import Derived.Test.YtbbbgoigacledaaRows
import Derived.Test.YtbbbgoigacledaaStLaw
import Derived.Test.YtbbbgoigacledaaStNil
import Derived.ProofKit
import Derived.OpenShut
import Derived.ShutString
import Derived.ChangeOld
namespace Go.Proofs.Ytbbbgoigacledaa.stringsNone
open Go.ChangeShapes Go.WideShapes Go.ChangeAt Go.RowKit
open Go.ChangeMaps (open_string shut_string)
set_option linter.unusedVariables false
set_option linter.unusedSimpArgs false
set_option maxRecDepth 100000

theorem own : ownKnob Try.prog.godebug = none := by kernel_rfl
theorem laidOut : laidOutB Try.prog = true := by kernel_rfl

set_option maxHeartbeats 4000000 in
theorem walk_gen (w : World) (al : Bool) (s : ByteArray) (fr : ByteArray) (hs : s.size ≤ 9223372036854775807) (hfr : fr.size ≤ 9223372036854775807) (lo hi : Int) (b2 : -9223372036854775808 ≤ lo ∧ lo ≤ 9223372036854775807) (b3 : -9223372036854775808 ≤ hi ∧ hi ≤ 9223372036854775807) :
    Calls Try.prog 7 #[.bool al, .string s, .string fr, .int .i64 lo, .int .i64 hi] w fun e w' => e = .returned (.bool true) ∧ Below w.heap.size w w' := by
  by_cases hsz : 1000 < s.size
  · have q1 : decide ((1000 : Int) < (s.size : Int)) = true := decide_eq_true (by omega)
    clear hsz
    go_enter Try.func7, Try.ntmps7
    go_wp2_with fail
    refine (stawake _).mono ?_
    rintro e w1 ⟨rfl, hb⟩
    have H1 := Lib.hid hb
    clear hb
    go_wp2_with fail
    refine (sgetOctets_nil w1 al lo hi).mono ?_
    rintro e w2 ⟨rfl, hb⟩
    have H2 := Lib.hid (H1.out.trans (hb.mono H1.out.size))
    clear hb H1
    go_wp2_with fail
    refine (sgetBits_nil w2 al lo hi).mono ?_
    rintro e w3 ⟨rfl, hb⟩
    have H3 := Lib.hid (H2.out.trans (hb.mono H2.out.size))
    clear hb H2
    go_wp2_with fail
    refine (sgetText_nil w3 al fr lo hi hfr).mono ?_
    rintro e w4 ⟨rfl, hb⟩
    have H4 := Lib.hid (H3.out.trans (hb.mono H3.out.size))
    clear hb H3
    go_wp2_with fail
    go_ret
    exact ⟨rfl, H4.out⟩
  have q1 : decide ((1000 : Int) < (s.size : Int)) = false := decide_eq_false (by omega)
  have HP := Lib.hid (fun w b h => sputText_ok w b [] al lo hi s fr h (by omega) hfr b2 b3 (by simp))
  have HE := Lib.hid (fun h => tB_bad (fl := cods fr) (al := al) (l := cods s) (B := []) (lo := lo) (hi := hi) h)
  generalize tE (cods fr) al (cods s) lo hi = er at *
  generalize tB (cods fr) al (cods s) [] lo hi = T at *
  by_cases he : er = 0
  · subst he
    clear hsz HE
    go_enter Try.func7, Try.ntmps7
    go_wp2_with fail
    refine (stawake _).mono ?_
    rintro e w1 ⟨rfl, hb⟩
    have H1 := Lib.hid hb
    clear hb
    go_wp2_with fail
    refine (sgetOctets_nil w1 al lo hi).mono ?_
    rintro e w2 ⟨rfl, hb⟩
    have H2 := Lib.hid (H1.out.trans (hb.mono H1.out.size))
    clear hb H1
    go_wp2_with fail
    refine (sgetBits_nil w2 al lo hi).mono ?_
    rintro e w3 ⟨rfl, hb⟩
    have H3 := Lib.hid (H2.out.trans (hb.mono H2.out.size))
    clear hb H2
    go_wp2_with fail
    refine (sgetText_nil w3 al fr lo hi hfr).mono ?_
    rintro e w4 ⟨rfl, hb⟩
    have H4 := Lib.hid (H3.out.trans (hb.mono H3.out.size))
    clear hb H3
    go_wp2_with (refine wpList_box_writer rfl rfl rfl 47 rfl rfl (by kernel_rfl) ?_; intro w5 hw5 hb5 hs5)
    have HW5 := Lib.hid hw5
    have H5 := Lib.hid (H4.out.trans (hb5.mono H4.out.size))
    have hwb := H4.out.size
    clear hw5 hb5 hs5 H4
    refine (HP.out w5 _ HW5.out).mono ?_
    rintro e w6 ⟨rfl, h1, h2⟩
    have HW6 := Lib.hid h1
    have H6 := Lib.hid (H5.out.trans (h2.below hwb H5.out.size))
    clear h1 h2 HW5 H5 HP
    go_wp2_with fail
    refine (sputOctets_nil w6 al none 0 0 lo hi).mono ?_
    rintro e w9 ⟨rfl, hb⟩
    have HW9 := Lib.hid (HW6.out.below hb)
    have H9 := Lib.hid (H6.out.trans (hb.mono H6.out.size))
    clear hb HW6 H6
    go_wp2_with fail
    refine (sputBits_nil w9 al s lo hi).mono ?_
    rintro e w10 ⟨rfl, hb⟩
    have HW10 := Lib.hid (HW9.out.below hb)
    have H10 := Lib.hid (H9.out.trans (hb.mono H9.out.size))
    clear hb HW9 H9
    go_wp2_with fail
    refine (sputText_nil w10 al s fr lo hi hfr).mono ?_
    rintro e w11 ⟨rfl, hb⟩
    have HW11 := Lib.hid (HW10.out.below hb)
    have H11 := Lib.hid (H10.out.trans (hb.mono H10.out.size))
    clear hb HW10 H10
    go_wp2_with fail
    go_ret
    exact ⟨rfl, H11.out⟩
  · obtain ⟨n1, n2⟩ := ne_facts he
    have HT := Lib.hid (HE.out he)
    clear hsz HE he
    go_enter Try.func7, Try.ntmps7
    go_wp2_with fail
    refine (stawake _).mono ?_
    rintro e w1 ⟨rfl, hb⟩
    have H1 := Lib.hid hb
    clear hb
    go_wp2_with fail
    refine (sgetOctets_nil w1 al lo hi).mono ?_
    rintro e w2 ⟨rfl, hb⟩
    have H2 := Lib.hid (H1.out.trans (hb.mono H1.out.size))
    clear hb H1
    go_wp2_with fail
    refine (sgetBits_nil w2 al lo hi).mono ?_
    rintro e w3 ⟨rfl, hb⟩
    have H3 := Lib.hid (H2.out.trans (hb.mono H2.out.size))
    clear hb H2
    go_wp2_with fail
    refine (sgetText_nil w3 al fr lo hi hfr).mono ?_
    rintro e w4 ⟨rfl, hb⟩
    have H4 := Lib.hid (H3.out.trans (hb.mono H3.out.size))
    clear hb H3
    go_wp2_with (refine wpList_box_writer rfl rfl rfl 47 rfl rfl (by kernel_rfl) ?_; intro w5 hw5 hb5 hs5)
    have HW5 := Lib.hid hw5
    have H5 := Lib.hid (H4.out.trans (hb5.mono H4.out.size))
    have hwb := H4.out.size
    clear hw5 hb5 hs5 H4
    refine (HP.out w5 _ HW5.out).mono ?_
    rintro e w6 ⟨rfl, h1, h2⟩
    have HW6 := Lib.hid h1
    have H6 := Lib.hid (H5.out.trans (h2.below hwb H5.out.size))
    clear h1 h2 HW5 H5 HP
    go_wp2_with fail
    refine (sputOctets_nil w6 al none 0 0 lo hi).mono ?_
    rintro e w9 ⟨rfl, hb⟩
    have HW9 := Lib.hid (HW6.out.below hb)
    have H9 := Lib.hid (H6.out.trans (hb.mono H6.out.size))
    clear hb HW6 H6
    go_wp2_with fail
    refine (sputBits_nil w9 al s lo hi).mono ?_
    rintro e w10 ⟨rfl, hb⟩
    have HW10 := Lib.hid (HW9.out.below hb)
    have H10 := Lib.hid (H9.out.trans (hb.mono H9.out.size))
    clear hb HW9 H9
    go_wp2_with fail
    refine (sputText_nil w10 al s fr lo hi hfr).mono ?_
    rintro e w11 ⟨rfl, hb⟩
    have HW11 := Lib.hid (HW10.out.below hb)
    have H11 := Lib.hid (H10.out.trans (hb.mono H10.out.size))
    clear hb HW10 H10
    have HLn := len_ok w11 _ _ HW11.out
    rw [HT.out] at HLn
    go_wp2_with fail
    refine HLn.mono ?_
    rintro e w12 ⟨rfl, rfl⟩
    go_wp2_with fail
    go_ret
    exact ⟨rfl, H11.out⟩
theorem walk (w : World) (al : Bool) (s : ByteArray) (w1 : s.size ≤ maxLen) (fr : ByteArray) (w2 : fr.size ≤ maxLen) (lo : Int) (w3 : (Lit.int .i64 lo).wf = true) (hi : Int) (w4 : (Lit.int .i64 hi).wf = true) :
    Calls Try.prog 7 #[.bool al, .string s, .string fr, .int .i64 lo, .int .i64 hi] w fun e w' => e = .returned (.bool true) ∧ Below w.heap.size w w' :=
  walk_gen w al s fr (by unfold maxLen at w1; omega) (by unfold maxLen at w2; omega) lo hi (i64_bounds w3) (i64_bounds w4)

set_option maxRecDepth 100000 in
theorem lifted (os : Os) (started : os.Started) (H : Type) (enc : TypeId × Value → H) :
    ReturnsInHanded {} Try.checked os 7 .any (Rows.stringsNoneSpec.pre6 enc Try.prog Try.f7 Rows.stringsNoneRow.domain false) (Rows.stringsNoneSpec.post enc Try.prog Try.f7 false true false false) := by
  refine returnsInHanded_of_change (C := Try.checked) own started (by kernel_rfl) Try.func7
    (ChangeSpec.witness6 (enc := enc) (C := Try.checked) false ⟨#[], #[.bool false, .string ByteArray.empty, .string ByteArray.empty, .int .i64 0, .int .i64 0], []⟩ 8 (by kernel_rfl) (by kernel_rfl) (by kernel_rfl) (by kernel_rfl)) ?_
  intro W base args ds gs before hval0 hW hcnd _
  have hval : ∀ (j : Nat) t v, Try.f7.params[j]? = some t → args[j]? = some v → Value.okWide Try.prog W .any base t v := hval0
  have hW' := hW
  obtain ⟨p, q, hA0, hV, rfl, hfz, hnd⟩ := hW
  have hA : DataW.TrodAll enc Try.prog W 0 (fun _ => true) true Try.f7.params.toList args.toList ds p := hA0
  rw [Try.params7] at hA hval
  obtain ⟨v0, vs0, d0, ds0, p0, q0, hargs, rfl, rfl, h0, r0⟩ := trodAll_cons hA
  obtain ⟨v1, vs1, d1, ds1, p1, q1, rfl, rfl, rfl, h1, r1⟩ := trodAll_cons r0
  obtain ⟨v2, vs2, d2, ds2, p2, q2, rfl, rfl, rfl, h2, r2⟩ := trodAll_cons r1
  obtain ⟨v3, vs3, d3, ds3, p3, q3, rfl, rfl, rfl, h3, r3⟩ := trodAll_cons r2
  obtain ⟨v4, vs4, d4, ds4, p4, q4, rfl, rfl, rfl, h4, r4⟩ := trodAll_cons r3
  obtain ⟨rfl, rfl, rfl⟩ := trodAll_nil r4
  obtain rfl : args = #[v0, v1, v2, v3, v4] := by cases args; simp_all
  obtain ⟨rfl, rfl⟩ := trodVars_none hV
  obtain ⟨a0, rfl, rfl, rfl⟩ := open_bool Try.underlying4 (hval 0 4 v0 rfl rfl) h0
  obtain ⟨a1, rfl, rfl, rfl, w1⟩ := open_string Try.underlying9 (hval 1 9 v1 rfl rfl) h1
  obtain ⟨a2, rfl, rfl, rfl, w2⟩ := open_string Try.underlying9 (hval 2 9 v2 rfl rfl) h2
  obtain ⟨a3, rfl, rfl, rfl, w3⟩ := open_int Try.underlying3 (hval 3 3 v3 rfl rfl) h3
  obtain ⟨a4, rfl, rfl, rfl, w4⟩ := open_int Try.underlying3 (hval 4 3 v4 rfl rfl) h4
  clear hA0 hval0
  refine (walk W a0 a1 w1 a2 w2 a3 w3 a4 w4).mono fun e W' ⟨he, bel⟩ => ?_
  subst he
  exact ⟨_, rfl, _, _, _, [], _, [], hW', trodAll_mk1 (shut_bool Try.underlying4 _), (trodAll_cons_mk (shut_bool Try.underlying4 a0) (trodAll_cons_mk (shut_string Try.underlying9 w1) (trodAll_cons_mk (shut_string Try.underlying9 w2) (trodAll_cons_mk (shut_int Try.underlying3 w3) (trodAll_cons_mk (shut_int Try.underlying3 w4) trodAll_mk0))))), rfl, bel.frame _, fun h => by cases h⟩

theorem over : Rows.stringsNoneRow.holds Try.pinned (OpenSpec.ofChange Rows.stringsNoneSpec) :=
  OpenClaim.holds_of_wide 7 Try.f7 rfl rfl rfl rfl rfl rfl rfl ⟨rfl, rfl, rfl, rfl, rfl⟩ rfl rfl rfl rfl rfl (by kernel_rfl) Try.func7 (by kernel_rfl)
    (of_decide_eq_true (by kernel_rfl)) (by unfold Func.isWrapper; first | (rw [if_pos (by decide +kernel)]; kernel_rfl) | (rw [if_neg (by decide +kernel)]; exact ⟨rfl, rfl⟩))
    (fun os started H enc _ => lifted os started H enc)

theorem proved : Rows.StringsNoneSaid := over
end Go.Proofs.Ytbbbgoigacledaa.stringsNone
