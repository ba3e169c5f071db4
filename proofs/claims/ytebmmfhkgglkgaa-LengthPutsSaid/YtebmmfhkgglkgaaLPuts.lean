/-
  Proved: the statement LengthPuts (what any length of any bounds is written as, and what is told of it, or why not, is what the document says; any number that is small as a rule, too), for every input; no further condition.
-/
import Derived.Test.YtebmmfhkgglkgaaRows
import Derived.Test.YtebmmfhkgglkgaaLLaw
import Derived.Test.YtebmmfhkgglkgaaLRef
import Derived.ProofKit
import Derived.OpenShut
import Derived.ShutString
import Derived.ChangeOld
namespace Go.Proofs.Ytebmmfhkgglkgaa.lengthPuts
open Go.ChangeShapes Go.WideShapes Go.ChangeAt Go.RowKit
open Go.ChangeMaps (open_string shut_string)
set_option linter.unusedVariables false
set_option linter.unusedSimpArgs false
set_option maxRecDepth 100000

theorem own : ownKnob Try.prog.godebug = none := by kernel_rfl
theorem laidOut : laidOutB Try.prog = true := by kernel_rfl

set_option maxHeartbeats 4000000 in
theorem walk (w : World) (k : Int) (w0 : (Lit.int .i64 k).wf = true) (al : Bool) (n : Int) (w1 : (Lit.int .i64 n).wf = true) (lo : Int) (w2 : (Lit.int .i64 lo).wf = true) (hi : Int) (w3 : (Lit.int .i64 hi).wf = true) :
    Calls Try.prog 3 #[.int .i64 k, .bool al, .int .i64 n, .int .i64 lo, .int .i64 hi] w fun e w' => e = .returned (.bool true) ∧ Below w.heap.size w w' := by
  have b1 := i64_bounds w1
  have b2 := i64_bounds w2
  have b3 := i64_bounds w3
  clear w0 w1 w2 w3
  go_enter Try.func3, Try.ntmps3
  go_wp2_with fail
  refine (lawake _).mono ?_
  rintro e w1 ⟨rfl, hb⟩
  have HB := Lib.hid hb
  clear hb
  go_wp2_with fail
  refine (lahead_ok k w1).mono ?_
  rintro e w2 ⟨b, m1, hm1, hmk1, rfl, hbw, hw, hb⟩
  have H1 := Lib.hid (HB.out.trans (hb.mono HB.out.size))
  have H2 := Lib.hid hw
  have hbw' : w.heap.size ≤ b := by have := HB.out.size; omega
  have HM := Lib.hid hmk1
  clear hb hw hbw HB hmk1
  go_wp2_with fail
  refine (lahead_ok k w2).mono ?_
  rintro e w3 ⟨x, m2, hm2, hmk2, rfl, hxw, hx, hb⟩
  have hmm2 : m2 = m1 := by have := HM.out; omega
  subst hmm2
  have H3 := Lib.hid (H1.out.trans (hb.mono H1.out.size))
  have H4 := Lib.hid (H2.out.below hb)
  have H5 := Lib.hid hx
  have hbx : b ≠ x := by have := H2.out.lt; omega
  have hxw' : w.heap.size ≤ x := by have := H1.out.size; omega
  have hlen : (List.replicate m2 true).length ≤ 100 := by rw [List.length_replicate]; omega
  clear hb hx hxw H1 H2 hmk2 HM
  generalize List.replicate m2 true = B at *
  have hlt := lBits_le al B n lo hi b1 b2 b3
  have hst := sBits_le al B n b1.2
  have HP := Lib.hid (lput_any w3 b B al n lo hi H4.out b1 b2 b3 (by omega))
  have HR := Lib.hid (fun w => rlput_any w B al n lo hi (by omega) b1 b2 b3)
  have HQ := Lib.hid (fun w h => sput_any w x B al n h b1 (by omega))
  have HS := Lib.hid (fun w => rsput_any w B al n (by omega) b1)
  have hW : (lBits al B n lo hi).length ≤ 10000000 := by omega
  have hX : (sBits al B n).length ≤ 10000000 := by omega
  clear b1 b2 b3 hlt hst hlen
  generalize lBits al B n lo hi = W at *
  generalize lErr n lo hi = er at *
  generalize lCnt n lo hi = a at *
  generalize lMore n lo hi = more at *
  generalize sBits al B n = X at *
  generalize sErr n = es at *
  go_wp2_with fail
  refine HP.out.mono ?_
  rintro e w4 ⟨rfl, h1, h2⟩
  have H6 := Lib.hid h1
  have H7 := Lib.hid (H5.out.keep_wr H4.out h2 hbx.symm)
  have H8 := Lib.hid (H3.out.trans (h2.below hbw' H3.out.size))
  clear h1 h2 HP H3 H4 H5
  go_wp2_with fail
  refine (HR.out w4).mono ?_
  rintro e w5 ⟨rfl, h1⟩
  have H9 := Lib.hid (H6.out.below h1)
  have H10 := Lib.hid (H7.out.below h1)
  have H11 := Lib.hid (H8.out.trans (h1.mono H8.out.size))
  clear h1 H6 H7 H8 HR
  go_wp2_with fail
  refine (HQ.out w5 H10.out).mono ?_
  rintro e w6 ⟨rfl, h1, h2⟩
  have H12 := Lib.hid (H9.out.keep_wr H10.out h2 hbx)
  have H13 := Lib.hid h1
  have H14 := Lib.hid (H11.out.trans (h2.below hxw' H11.out.size))
  clear h1 h2 HQ H9 H10 H11
  go_wp2_with fail
  refine (HS.out w6).mono ?_
  rintro e w7 ⟨rfl, h1⟩
  have H15 := Lib.hid (H12.out.below h1)
  have H16 := Lib.hid (H13.out.below h1)
  have H17 := Lib.hid (H14.out.trans (h1.mono H14.out.size))
  clear h1 H12 H13 H14 HS
  have hs1 : ((W.length : Int) == ((bchars W).size : Int)) = true := by rw [bchars_size]; simp
  have hs2 : ((X.length : Int) == ((bchars X).size : Int)) = true := by rw [bchars_size]; simp
  go_wp2_with fail
  refine (wbytes_any w7 b W H15.out (by omega)).mono ?_
  rintro e w8 ⟨rfl, hr, hb⟩
  have HS1 := Lib.hid (sl_of_row hr (wb_lt W) rfl)
  have H18 := Lib.hid (H15.out.below hb)
  have H19 := Lib.hid (H16.out.below hb)
  have H20 := Lib.hid (H17.out.trans (hb.mono H17.out.size))
  clear hr hb H15 H16 H17
  go_wp2_with fail
  refine (rbytes_any w8 W (by omega)).mono ?_
  rintro e w9 ⟨v, rfl, hs, hb⟩
  have HS2 := Lib.hid hs
  have HS3 := Lib.hid (HS1.out.below hb)
  have H21 := Lib.hid (H18.out.below hb)
  have H22 := Lib.hid (H19.out.below hb)
  have H23 := Lib.hid (H20.out.trans (hb.mono H20.out.size))
  clear hs hb HS1 H18 H19 H20
  go_wp2_with fail
  refine (lsame_yes w9 _ _ _ HS3.out HS2.out).mono ?_
  rintro e w10 ⟨rfl, rfl⟩
  clear HS2 HS3
  go_wp2_with fail
  refine (len_ok w9 b W H21.out).mono ?_
  rintro e w10 ⟨rfl, rfl⟩
  go_wp2_with fail
  refine (wbytes_any w9 x X H22.out (by omega)).mono ?_
  rintro e w10 ⟨rfl, hr, hb⟩
  have HS1 := Lib.hid (sl_of_row hr (wb_lt X) rfl)
  have H24 := Lib.hid (H22.out.below hb)
  have H25 := Lib.hid (H23.out.trans (hb.mono H23.out.size))
  clear hr hb H21 H22 H23
  go_wp2_with fail
  refine (rbytes_any w10 X (by omega)).mono ?_
  rintro e w11 ⟨v2, rfl, hs, hb⟩
  have HS2 := Lib.hid hs
  have HS3 := Lib.hid (HS1.out.below hb)
  have H26 := Lib.hid (H24.out.below hb)
  have H27 := Lib.hid (H25.out.trans (hb.mono H25.out.size))
  clear hs hb HS1 H24 H25
  go_wp2_with fail
  refine (lsame_yes w11 _ _ _ HS3.out HS2.out).mono ?_
  rintro e w12 ⟨rfl, rfl⟩
  clear HS2 HS3
  go_wp2_with fail
  refine (len_ok w11 x X H26.out).mono ?_
  rintro e w12 ⟨rfl, rfl⟩
  go_wp2_with fail
  go_ret
  exact ⟨rfl, H27.out⟩

set_option maxRecDepth 100000 in
theorem lifted (os : Os) (started : os.Started) (H : Type) (enc : TypeId × Value → H) :
    ReturnsInHanded {} Try.checked os 3 .any (Rows.lengthPutsSpec.pre6 enc Try.prog Try.f3 Rows.lengthPutsRow.domain false) (Rows.lengthPutsSpec.post enc Try.prog Try.f3 false true false false) := by
  refine returnsInHanded_of_change (C := Try.checked) own started (by kernel_rfl) Try.func3
    (ChangeSpec.witness6 (enc := enc) (C := Try.checked) false ⟨#[], #[.int .i64 0, .bool false, .int .i64 0, .int .i64 0, .int .i64 0], []⟩ 8 (by kernel_rfl) (by kernel_rfl) (by kernel_rfl) (by kernel_rfl)) ?_
  intro W base args ds gs before hval0 hW hcnd _
  have hval : ∀ (j : Nat) t v, Try.f3.params[j]? = some t → args[j]? = some v → Value.okWide Try.prog W .any base t v := hval0
  have hW' := hW
  obtain ⟨p, q, hA0, hV, rfl, hfz, hnd⟩ := hW
  have hA : DataW.TrodAll enc Try.prog W 0 (fun _ => true) true Try.f3.params.toList args.toList ds p := hA0
  rw [Try.params3] at hA hval
  obtain ⟨v0, vs0, d0, ds0, p0, q0, hargs, rfl, rfl, h0, r0⟩ := trodAll_cons hA
  obtain ⟨v1, vs1, d1, ds1, p1, q1, rfl, rfl, rfl, h1, r1⟩ := trodAll_cons r0
  obtain ⟨v2, vs2, d2, ds2, p2, q2, rfl, rfl, rfl, h2, r2⟩ := trodAll_cons r1
  obtain ⟨v3, vs3, d3, ds3, p3, q3, rfl, rfl, rfl, h3, r3⟩ := trodAll_cons r2
  obtain ⟨v4, vs4, d4, ds4, p4, q4, rfl, rfl, rfl, h4, r4⟩ := trodAll_cons r3
  obtain ⟨rfl, rfl, rfl⟩ := trodAll_nil r4
  obtain rfl : args = #[v0, v1, v2, v3, v4] := by cases args; simp_all
  obtain ⟨rfl, rfl⟩ := trodVars_none hV
  obtain ⟨a0, rfl, rfl, rfl, w0⟩ := open_int Try.underlying3 (hval 0 3 v0 rfl rfl) h0
  obtain ⟨a1, rfl, rfl, rfl⟩ := open_bool Try.underlying4 (hval 1 4 v1 rfl rfl) h1
  obtain ⟨a2, rfl, rfl, rfl, w2⟩ := open_int Try.underlying3 (hval 2 3 v2 rfl rfl) h2
  obtain ⟨a3, rfl, rfl, rfl, w3⟩ := open_int Try.underlying3 (hval 3 3 v3 rfl rfl) h3
  obtain ⟨a4, rfl, rfl, rfl, w4⟩ := open_int Try.underlying3 (hval 4 3 v4 rfl rfl) h4
  clear hA0 hval0
  refine (walk W a0 w0 a1 a2 w2 a3 w3 a4 w4).mono fun e W' ⟨he, bel⟩ => ?_
  subst he
  exact ⟨_, rfl, _, _, _, [], _, [], hW', trodAll_mk1 (shut_bool Try.underlying4 _), (trodAll_cons_mk (shut_int Try.underlying3 w0) (trodAll_cons_mk (shut_bool Try.underlying4 a1) (trodAll_cons_mk (shut_int Try.underlying3 w2) (trodAll_cons_mk (shut_int Try.underlying3 w3) (trodAll_cons_mk (shut_int Try.underlying3 w4) trodAll_mk0))))), rfl, bel.frame _, fun h => by cases h⟩

theorem over : Rows.lengthPutsRow.holds Try.pinned (OpenSpec.ofChange Rows.lengthPutsSpec) :=
  OpenClaim.holds_of_wide 3 Try.f3 rfl rfl rfl rfl rfl rfl rfl ⟨rfl, rfl, rfl, rfl, rfl⟩ rfl rfl rfl rfl rfl (by kernel_rfl) Try.func3 (by kernel_rfl)
    (of_decide_eq_true (by kernel_rfl)) (by unfold Func.isWrapper; first | (rw [if_pos (by decide +kernel)]; kernel_rfl) | (rw [if_neg (by decide +kernel)]; exact ⟨rfl, rfl⟩))
    (fun os started H enc _ => lifted os started H enc)

theorem proved : Rows.LengthPutsSaid := over
end Go.Proofs.Ytebmmfhkgglkgaa.lengthPuts
