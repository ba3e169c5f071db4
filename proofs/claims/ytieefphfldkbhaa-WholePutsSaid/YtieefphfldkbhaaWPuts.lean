/-
  Proved: the statement WholePuts (what any number between any bounds is written as, behind any bits, or why not, is what the document says), for every input; no further condition.
-/
import Derived.Test.YtieefphfldkbhaaRows
import Derived.Test.YtieefphfldkbhaaWLaw
import Derived.Test.YtieefphfldkbhaaWRef
import Derived.ProofKit
import Derived.OpenShut
import Derived.ShutString
import Derived.ChangeOld
namespace Go.Proofs.Ytieefphfldkbhaa.wholePuts
open Go.ChangeShapes Go.WideShapes Go.ChangeAt Go.RowKit
open Go.ChangeMaps (open_string shut_string)
set_option linter.unusedVariables false
set_option linter.unusedSimpArgs false

theorem own : ownKnob Try.prog.godebug = none := by kernel_rfl
theorem laidOut : laidOutB Try.prog = true := by kernel_rfl

set_option maxHeartbeats 2000000 in
theorem walk (w : World) (k : Int) (w0 : (Lit.int .i64 k).wf = true) (al : Bool) (n : Int) (w1 : (Lit.int .i64 n).wf = true) (lo : Int) (w2 : (Lit.int .i64 lo).wf = true) (hi : Int) (w3 : (Lit.int .i64 hi).wf = true) :
    Calls Try.prog 3 #[.int .i64 k, .bool al, .int .i64 n, .int .i64 lo, .int .i64 hi] w fun e w' => e = .returned (.bool true) ∧ Below w.heap.size w w' := by
  have b1 := i64_bounds w1
  have b2 := i64_bounds w2
  have b3 := i64_bounds w3
  clear w0 w1 w2 w3
  go_enter Try.func3, Try.ntmps3
  go_wp2_with fail
  refine (wawake _).mono ?_
  rintro e w1 ⟨rfl, hb⟩
  have HB := Lib.hid hb
  clear hb
  go_wp2_with fail
  refine (ahead_ok k w1).mono ?_
  rintro e w2 ⟨b, m, hm, hmk, rfl, hbw, hw, hb⟩
  have H1 := Lib.hid (HB.out.trans (hb.mono HB.out.size))
  have H2 := Lib.hid hw
  have hbw' : w.heap.size ≤ b := by have := HB.out.size; omega
  have hlen : (List.replicate m true).length ≤ 1000000 := by rw [List.length_replicate]; omega
  have hlt := wBits_le al (List.replicate m true) n lo hi b1 b2 b3
  clear hb hw hbw HB hmk
  generalize List.replicate m true = B at *
  have HP := Lib.hid (wput_any w2 b B al n lo hi H2.out b1 b2 b3 (by omega))
  have HR := Lib.hid (fun w => rwput_any w B al n lo hi hlen b1 b2 b3)
  have hW : (wBits al B n lo hi).length ≤ 10000000 := by omega
  clear b1 b2 b3 hlt hlen
  generalize wBits al B n lo hi = W at *
  generalize wErr n lo hi = er at *
  go_wp2_with fail
  refine HP.out.mono ?_
  rintro e w3 ⟨rfl, h1, h2⟩
  have H3 := Lib.hid h1
  have H4 := Lib.hid (H1.out.trans (h2.below hbw' H1.out.size))
  clear h1 h2 H1 H2 HP
  go_wp2_with fail
  refine (HR.out w3).mono ?_
  rintro e w4 ⟨rfl, h1⟩
  have H5 := Lib.hid (H3.out.below h1)
  have H6 := Lib.hid (H4.out.trans (h1.mono H4.out.size))
  clear h1 H3 H4 HR
  have hs1 : ((W.length : Int) == ((bchars W).size : Int)) = true := by rw [bchars_size]; simp
  go_wp2_with fail
  refine (len_ok w4 b W H5.out).mono ?_
  rintro e w5 ⟨rfl, rfl⟩
  go_wp2_with fail
  refine (wbytes_any w4 b W H5.out (by omega)).mono ?_
  rintro e w5 ⟨rfl, hr, hb⟩
  have HS := Lib.hid (sl_of_row hr (wb_lt W) rfl)
  have H7 := Lib.hid (H6.out.trans (hb.mono H6.out.size))
  clear hr hb H5 H6
  go_wp2_with fail
  refine (rbytes_any w5 W (by omega)).mono ?_
  rintro e w6 ⟨v, rfl, hs, hb⟩
  have HS2 := Lib.hid hs
  have HS3 := Lib.hid (HS.out.below hb)
  have H8 := Lib.hid (H7.out.trans (hb.mono H7.out.size))
  clear hs hb HS H7
  go_wp2_with fail
  refine (wsame_yes w6 _ _ _ HS3.out HS2.out).mono ?_
  rintro e w7 ⟨rfl, rfl⟩
  go_wp2_with fail
  go_ret
  exact ⟨rfl, H8.out⟩

set_option maxRecDepth 100000 in
theorem lifted (os : Os) (started : os.Started) (H : Type) (enc : TypeId × Value → H) :
    ReturnsInHanded {} Try.checked os 3 .any (Rows.wholePutsSpec.pre6 enc Try.prog Try.f3 Rows.wholePutsRow.domain false) (Rows.wholePutsSpec.post enc Try.prog Try.f3 false true false false) := by
  refine returnsInHanded_of_change (C := Try.checked) own started (by kernel_rfl) Try.func3
    (ChangeSpec.witness6 (enc := enc) (C := Try.checked) false ⟨#[], #[.int .i64 0, .bool false, .int .i64 0, .int .i64 0, .int .i64 0], []⟩ 8 (by kernel_rfl) (by kernel_rfl) (by kernel_rfl) (by kernel_rfl)) ?_
  intro W base args ds gs before hval0 hW hcnd _
  have hval : ∀ (j : Nat) t v, Try.f3.params[j]? = some t → args[j]? = some v → Value.okWide Try.prog W .any base t v := hval0
  have hW' := hW
  obtain ⟨p, q, hA0, hV, rfl, hfz, hnd⟩ := hW
  have hA : DataW.TrodAll enc Try.prog W 0 (fun _ => true) true Try.f3.params.toList args.toList ds p := hA0
  rw [Try.params3] at hA hval
  obtain ⟨v0, vs0, d0, ds0, p0, q0, hargs, rfl, rfl, h0, r0⟩ := trodAll_cons hA
  obtain ⟨v1, vs1, d1, ds1, p1, q1, rfl, rfl, rfl, h1, r1⟩ := trodAll_cons r0
  obtain ⟨v2, vs2, d2, ds2, p2, q2, rfl, rfl, rfl, h2, r2⟩ := trodAll_cons r1
  obtain ⟨v3, vs3, d3, ds3, p3, q3, rfl, rfl, rfl, h3, r3⟩ := trodAll_cons r2
  obtain ⟨v4, vs4, d4, ds4, p4, q4, rfl, rfl, rfl, h4, r4⟩ := trodAll_cons r3
  obtain ⟨rfl, rfl, rfl⟩ := trodAll_nil r4
  obtain rfl : args = #[v0, v1, v2, v3, v4] := by cases args; simp_all
  obtain ⟨rfl, rfl⟩ := trodVars_none hV
  obtain ⟨a0, rfl, rfl, rfl, w0⟩ := open_int Try.underlying3 (hval 0 3 v0 rfl rfl) h0
  obtain ⟨a1, rfl, rfl, rfl⟩ := open_bool Try.underlying4 (hval 1 4 v1 rfl rfl) h1
  obtain ⟨a2, rfl, rfl, rfl, w2⟩ := open_int Try.underlying3 (hval 2 3 v2 rfl rfl) h2
  obtain ⟨a3, rfl, rfl, rfl, w3⟩ := open_int Try.underlying3 (hval 3 3 v3 rfl rfl) h3
  obtain ⟨a4, rfl, rfl, rfl, w4⟩ := open_int Try.underlying3 (hval 4 3 v4 rfl rfl) h4
  clear hA0 hval0
  refine (walk W a0 w0 a1 a2 w2 a3 w3 a4 w4).mono fun e W' ⟨he, bel⟩ => ?_
  subst he
  exact ⟨_, rfl, _, _, _, [], _, [], hW', trodAll_mk1 (shut_bool Try.underlying4 _), (trodAll_cons_mk (shut_int Try.underlying3 w0) (trodAll_cons_mk (shut_bool Try.underlying4 a1) (trodAll_cons_mk (shut_int Try.underlying3 w2) (trodAll_cons_mk (shut_int Try.underlying3 w3) (trodAll_cons_mk (shut_int Try.underlying3 w4) trodAll_mk0))))), rfl, bel.frame _, fun h => by cases h⟩

theorem over : Rows.wholePutsRow.holds Try.pinned (OpenSpec.ofChange Rows.wholePutsSpec) :=
  OpenClaim.holds_of_wide 3 Try.f3 rfl rfl rfl rfl rfl rfl rfl ⟨rfl, rfl, rfl, rfl, rfl⟩ rfl rfl rfl rfl rfl (by kernel_rfl) Try.func3 (by kernel_rfl)
    (of_decide_eq_true (by kernel_rfl)) (by unfold Func.isWrapper; first | (rw [if_pos (by decide +kernel)]; kernel_rfl) | (rw [if_neg (by decide +kernel)]; exact ⟨rfl, rfl⟩))
    (fun os started H enc _ => lifted os started H enc)

theorem proved : Rows.WholePutsSaid := over
end Go.Proofs.Ytieefphfldkbhaa.wholePuts
