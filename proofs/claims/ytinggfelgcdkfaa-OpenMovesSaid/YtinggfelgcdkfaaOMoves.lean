/-
  Proved: the statement OpenMoves (numbers from a bound on that are as much above it are written alike), for every input; no further condition.
-/
import Derived.Test.YtinggfelgcdkfaaRows
import Derived.Test.YtinggfelgcdkfaaOpLaw
import Derived.ProofKit
import Derived.OpenShut
import Derived.ShutString
import Derived.ChangeOld
namespace Go.Proofs.Ytinggfelgcdkfaa.openMoves
open Go.ChangeShapes Go.WideShapes Go.ChangeAt Go.RowKit
open Go.ChangeMaps (open_string shut_string)
set_option linter.unusedVariables false
set_option linter.unusedSimpArgs false
set_option maxRecDepth 100000

theorem own : ownKnob Try.prog.godebug = none := by kernel_rfl
theorem laidOut : laidOutB Try.prog = true := by kernel_rfl

set_option maxHeartbeats 1000000 in
theorem walk_out (w : World) (al : Bool) (n lo y : Int) (h : n < lo ∨ 4611686018427387904 < n) :
    Calls Try.prog 9 #[.bool al, .int .i64 n, .int .i64 lo, .int .i64 y] w fun e w' => e = .returned (.bool true) ∧ Below w.heap.size w w' := by
  have hq : decide (n < lo) = true ∨ (decide (n < lo) = false ∧ decide (4611686018427387904 < n) = true) := by
    by_cases h1 : n < lo
    · exact .inl (decide_eq_true h1)
    · exact .inr ⟨decide_eq_false h1, decide_eq_true (by omega)⟩
  clear h
  rcases hq with q1 | ⟨q1, q2⟩
  all_goals
    go_enter Try.func9, Try.ntmps9
    go_wp2_with fail
    refine (opawake _).mono ?_
    rintro e wa ⟨rfl, hb⟩
    have HB := Lib.hid hb
    clear hb
    go_wp2_with fail
    go_ret
    exact ⟨rfl, HB.out⟩
set_option maxHeartbeats 4000000 in
theorem walk_within (w : World) (al : Bool) (n lo y : Int) (b2 : -9223372036854775808 ≤ lo) (h1 : lo ≤ n) (h3 : n ≤ 4611686018427387904) :
    Calls Try.prog 9 #[.bool al, .int .i64 n, .int .i64 lo, .int .i64 y] w fun e w' => e = .returned (.bool true) ∧ Below w.heap.size w w' := by
  have q1 : decide (n < lo) = false := decide_eq_false (by omega)
  have q4 : decide (4611686018427387904 < n) = false := decide_eq_false (by omega)
  obtain ⟨c, hc⟩ : ∃ c : Nat, (c : Int) = y % 65536 := ⟨(y % 65536).toNat, by omega⟩
  have hand := op_and65535 y
  rw [← hc] at hand
  have hc2 : c < 65536 := by omega
  clear hc
  have t1 : wrap64 (n + c) = n + c := by unfold wrap64; omega
  have t2 : wrap64 (lo + c) = lo + c := by unfold wrap64; omega
  have HP := Lib.hid (fun w b h => oput_semi w b [] al n lo h b2 h1 (by omega) (by decide))
  have HQ := Lib.hid (fun w b h => oput_semi w b [] al (n + c) (lo + c) h (by omega) (by omega) (by omega) (by decide))
  have e1 : (n + c - (lo + c)).toNat = (n - lo).toNat := by omega
  rw [e1] at HQ
  have hle := itemB_le al [] (low (n - lo).toNat (cnt (n - lo).toNat))
  rw [low_length] at hle
  have hc8 := cnt_le (n - lo).toNat (by omega)
  have hW : (itemB al [] (low (n - lo).toNat (cnt (n - lo).toNat))).length ≤ 1000 := by simp at hle; omega
  clear hle hc8 e1 b2 h1 h3
  generalize itemB al [] (low (n - lo).toNat (cnt (n - lo).toNat)) = W at *
  go_enter Try.func9, Try.ntmps9
  go_wp2_with fail
  refine (opawake _).mono ?_
  rintro e w1 ⟨rfl, hb⟩
  have HB := Lib.hid hb
  clear hb
  go_wp2_with (refine wpList_box_writer rfl rfl rfl 26 rfl rfl (by kernel_rfl) ?_; intro w2 hw1 hb1 hs1; have HW1 := Lib.hid hw1; have HB1 := Lib.hid hb1; have HS1 := Lib.hid hs1; clear hw1 hb1 hs1)
  obtain ⟨w3, hwe, hw2, hb2, hs2⟩ := second w2
  rw [← hwe]
  have hlt1 := HW1.out.lt
  have hsb := HB.out.size
  have H4 := Lib.hid (HW1.out.below hb2)
  have HX4 := Lib.hid hw2
  have HB4 := Lib.hid ((HB.out.trans (HB1.out.mono hsb)).trans (hb2.mono (by omega)))
  have hxw : w.heap.size ≤ w2.heap.size := by omega
  have hbx : w1.heap.size ≠ w2.heap.size := by omega
  clear hw2 hb2 hwe HB HB1 HW1 HS1
  generalize w2.heap.size = x at *
  generalize w1.heap.size = b at *
  refine (HP.out w3 b H4.out).mono ?_
  rintro e w4 ⟨rfl, h1, h2⟩
  have H6 := Lib.hid h1
  have H7 := Lib.hid (HX4.out.keep_wr H4.out h2 hbx.symm)
  have H8 := Lib.hid (HB4.out.trans (h2.below hsb HB4.out.size))
  clear h1 h2 HP H4 HX4 HB4
  go_wp2_with fail
  refine (HQ.out w4 x H7.out).mono ?_
  rintro e w5 ⟨rfl, h1, h2⟩
  have H9 := Lib.hid (H6.out.keep_wr H7.out h2 hbx)
  have H10 := Lib.hid h1
  have H11 := Lib.hid (H8.out.trans (h2.below hxw H8.out.size))
  clear h1 h2 HQ H6 H7 H8
  go_wp2_with fail
  refine (wbytes_any w5 b W H9.out (by omega)).mono ?_
  rintro e w6 ⟨rfl, hr, hb⟩
  have HS1 := Lib.hid (sl_of_row hr (wb_lt W) rfl)
  have H12 := Lib.hid (H11.out.trans (hb.mono H11.out.size))
  have H14 := Lib.hid (H10.out.below hb)
  clear hr hb H9 H10 H11
  go_wp2_with fail
  refine (wbytes_any w6 x W H14.out (by omega)).mono ?_
  rintro e w7 ⟨rfl, hr, hb⟩
  have HS2 := Lib.hid (sl_of_row hr (wb_lt W) rfl)
  have HS3 := Lib.hid (HS1.out.below hb)
  have H15 := Lib.hid (H12.out.trans (hb.mono H12.out.size))
  clear hr hb HS1 H12 H14
  go_wp2_with fail
  refine (opsame_yes w7 _ _ _ HS3.out HS2.out).mono ?_
  rintro e w8 ⟨rfl, rfl⟩
  go_wp2_with fail
  go_ret
  exact ⟨rfl, H15.out⟩
theorem walk (w : World) (al : Bool) (n : Int) (w1 : (Lit.int .i64 n).wf = true) (lo : Int) (w2 : (Lit.int .i64 lo).wf = true) (y : Int) (w3 : (Lit.int .i64 y).wf = true) :
    Calls Try.prog 9 #[.bool al, .int .i64 n, .int .i64 lo, .int .i64 y] w fun e w' => e = .returned (.bool true) ∧ Below w.heap.size w w' := by
  have b1 := i64_bounds w1
  have b2 := i64_bounds w2
  by_cases h : n < lo ∨ 4611686018427387904 < n
  · exact walk_out w al n lo y h
  · exact walk_within w al n lo y b2.1 (by omega) (by omega)

set_option maxRecDepth 100000 in
theorem lifted (os : Os) (started : os.Started) (H : Type) (enc : TypeId × Value → H) :
    ReturnsInHanded {} Try.checked os 9 .any (Rows.openMovesSpec.pre6 enc Try.prog Try.f9 Rows.openMovesRow.domain false) (Rows.openMovesSpec.post enc Try.prog Try.f9 false true false false) := by
  refine returnsInHanded_of_change (C := Try.checked) own started (by kernel_rfl) Try.func9
    (ChangeSpec.witness6 (enc := enc) (C := Try.checked) false ⟨#[], #[.bool false, .int .i64 0, .int .i64 0, .int .i64 0], []⟩ 8 (by kernel_rfl) (by kernel_rfl) (by kernel_rfl) (by kernel_rfl)) ?_
  intro W base args ds gs before hval0 hW hcnd _
  have hval : ∀ (j : Nat) t v, Try.f9.params[j]? = some t → args[j]? = some v → Value.okWide Try.prog W .any base t v := hval0
  have hW' := hW
  obtain ⟨p, q, hA0, hV, rfl, hfz, hnd⟩ := hW
  have hA : DataW.TrodAll enc Try.prog W 0 (fun _ => true) true Try.f9.params.toList args.toList ds p := hA0
  rw [Try.params9] at hA hval
  obtain ⟨v0, vs0, d0, ds0, p0, q0, hargs, rfl, rfl, h0, r0⟩ := trodAll_cons hA
  obtain ⟨v1, vs1, d1, ds1, p1, q1, rfl, rfl, rfl, h1, r1⟩ := trodAll_cons r0
  obtain ⟨v2, vs2, d2, ds2, p2, q2, rfl, rfl, rfl, h2, r2⟩ := trodAll_cons r1
  obtain ⟨v3, vs3, d3, ds3, p3, q3, rfl, rfl, rfl, h3, r3⟩ := trodAll_cons r2
  obtain ⟨rfl, rfl, rfl⟩ := trodAll_nil r3
  obtain rfl : args = #[v0, v1, v2, v3] := by cases args; simp_all
  obtain ⟨rfl, rfl⟩ := trodVars_none hV
  obtain ⟨a0, rfl, rfl, rfl⟩ := open_bool Try.underlying4 (hval 0 4 v0 rfl rfl) h0
  obtain ⟨a1, rfl, rfl, rfl, w1⟩ := open_int Try.underlying3 (hval 1 3 v1 rfl rfl) h1
  obtain ⟨a2, rfl, rfl, rfl, w2⟩ := open_int Try.underlying3 (hval 2 3 v2 rfl rfl) h2
  obtain ⟨a3, rfl, rfl, rfl, w3⟩ := open_int Try.underlying3 (hval 3 3 v3 rfl rfl) h3
  clear hA0 hval0
  refine (walk W a0 a1 w1 a2 w2 a3 w3).mono fun e W' ⟨he, bel⟩ => ?_
  subst he
  exact ⟨_, rfl, _, _, _, [], _, [], hW', trodAll_mk1 (shut_bool Try.underlying4 _), (trodAll_cons_mk (shut_bool Try.underlying4 a0) (trodAll_cons_mk (shut_int Try.underlying3 w1) (trodAll_cons_mk (shut_int Try.underlying3 w2) (trodAll_cons_mk (shut_int Try.underlying3 w3) trodAll_mk0)))), rfl, bel.frame _, fun h => by cases h⟩

theorem over : Rows.openMovesRow.holds Try.pinned (OpenSpec.ofChange Rows.openMovesSpec) :=
  OpenClaim.holds_of_wide 9 Try.f9 rfl rfl rfl rfl rfl rfl rfl ⟨rfl, rfl, rfl, rfl, rfl⟩ rfl rfl rfl rfl rfl (by kernel_rfl) Try.func9 (by kernel_rfl)
    (of_decide_eq_true (by kernel_rfl)) (by unfold Func.isWrapper; first | (rw [if_pos (by decide +kernel)]; kernel_rfl) | (rw [if_neg (by decide +kernel)]; exact ⟨rfl, rfl⟩))
    (fun os started H enc _ => lifted os started H enc)

theorem proved : Rows.OpenMovesSaid := over
end Go.Proofs.Ytinggfelgcdkfaa.openMoves
