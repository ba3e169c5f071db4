/-
  Proved: the statement StreamNone (of a Writer or a Reader that is none nothing is told; what was told is not changed by what is written behind it), for every input; no further condition.
-/
import Derived.Test.YtekoilcjghclcaaRows
import Derived.Test.YtekoilcjghclcaaSame
import Derived.ProofKit
import Derived.OpenShut
import Derived.ShutString
import Derived.ChangeOld
namespace Go.Proofs.Ytekoilcjghclcaa.streamNone
open Go.ChangeShapes Go.WideShapes Go.ChangeAt Go.RowKit
open Go.ChangeMaps (open_string shut_string)
set_option linter.unusedVariables false
set_option linter.unusedSimpArgs false

theorem own : ownKnob Try.prog.godebug = none := by kernel_rfl
theorem laidOut : laidOutB Try.prog = true := by kernel_rfl

theorem get_nil (w : World) (z : Int) : Calls Try.prog 22 #[.pointer none, .int .i64 z] w fun e w' => e = .returned (.tuple #[.int .u64 0, .int .i64 1]) ∧ w = w' := by
  go_enter Try.func22, Try.ntmps22
  go_wp2_with fail
  go_ret2
  exact ⟨rfl, rfl⟩
theorem roctets_nil (w : World) (z : Int) : Calls Try.prog 26 #[.pointer none, .int .i64 z] w fun e w' => e = .returned (.tuple #[.slice none 0 0, .int .i64 1]) ∧ w = w' := by
  go_enter Try.func26, Try.ntmps26
  go_wp2_with fail
  go_ret2
  exact ⟨rfl, rfl⟩
theorem ralign_nil (w : World) : Calls Try.prog 24 #[.pointer none] w fun e w' => e = .returned (.int .i64 1) ∧ w = w' := by
  go_enter Try.func24, Try.ntmps24
  go_wp2_with fail
  go_ret
  exact ⟨rfl, rfl⟩
theorem pos_nil (w : World) : Calls Try.prog 28 #[.pointer none] w fun e w' => e = .returned (.int .i64 0) ∧ w = w' := by
  go_enter Try.func28, Try.ntmps28
  go_wp2_with fail
  go_ret
  exact ⟨rfl, rfl⟩
theorem end_nil (w : World) : Calls Try.prog 29 #[.pointer none] w fun e w' => e = .returned (.int .i64 1) ∧ w = w' := by
  go_enter Try.func29, Try.ntmps29
  go_wp2_with fail
  go_ret
  exact ⟨rfl, rfl⟩

set_option maxHeartbeats 2000000 in
set_option maxRecDepth 100000 in
theorem walk (w : World) (a0 : Int) (w0 : (Lit.int .u64 a0).wf = true) (a1 : Int) (w1 : (Lit.int .i64 a1).wf = true) (a2 : Option Addr) (len2 cap2 : Nat) (z2 : List Int) (w2 : IsRow .u8 w a2 len2 cap2 z2) :
    Calls Try.prog 7 #[.int .u64 a0, .int .i64 a1, .slice a2 len2 cap2] w fun e w' => e = .returned (.bool true) ∧ Below w.heap.size w w' := by
  clear w0 w1 w2
  go_enter Try.func7, Try.ntmps7
  have hzv := zero_writer
  go_wp2_with (first | (go_at_call 9; refine (awake_any _).mono ?_; rintro e wa ⟨rfl, hba⟩; have hsa := hba.size) | (go_at_call 13; refine (align_nil _).mono ?_; rintro e w' ⟨rfl, rfl⟩) | (go_at_call 22; refine (get_nil _ _).mono ?_; rintro e w' ⟨rfl, rfl⟩) | (go_at_call 26; refine (roctets_nil _ _).mono ?_; rintro e w' ⟨rfl, rfl⟩))
  have hw1 := wr_new wa
  have hb1 : Below w.heap.size w (wa.alloc (.cells newCells 28)) := hba.alloc hsa _
  clear hba hzv
  revert hw1 hb1
  generalize wa.alloc (.cells newCells 28) = W1
  generalize wa.heap.size = x at *
  intro hw1 hb1
  refine (put_ok W1 x [] 3 2 hw1 (by omega) (by decide) (by simp)).mono ?_
  rintro e W2 ⟨rfl, hw2, ho2⟩
  have hb2 : Below w.heap.size w W2 := hb1.trans (ho2.below hsa hb1.size)
  rw [show [] ++ nb 3 2 = [true, true] by decide] at hw2
  clear hw1 hb1 ho2
  go_wp2_with fail
  refine (wbytes_any W2 x _ hw2 (by simp)).mono ?_
  rintro e W3 ⟨rfl, hr3, hb3'⟩
  have hw3 := hw2.below hb3'
  have hb3 : Below w.heap.size w W3 := hb2.trans (hb3'.mono hb2.size)
  have hs3 : w.heap.size ≤ W2.heap.size := hb2.size
  rw [show wb [true, true] = [192] by decide] at hr3 ⊢
  have hx3 : x < W2.heap.size := hw2.lt
  generalize W2.heap.size = g at *
  clear hw2 hb2 hb3'
  go_wp2_with fail
  refine (put_ok W3 x _ 1 1 hw3 (by omega) (by decide) (by simp)).mono ?_
  rintro e W4 ⟨rfl, hw4, ho4⟩
  have hb4 : Below w.heap.size w W4 := hb3.trans (ho4.below hsa hb3.size)
  have hr4 : W4.heap[g]? = _ := (ho4.block g (Array.getElem?_eq_some_iff.1 hr3).1 (by omega)).trans hr3
  rw [show [true, true] ++ nb 1 1 = [true, true, true] by decide] at hw4
  have hc4 : W4.cell? ⟨g, 0, none⟩ = some (.int .u8 192) := cell_of_list hr4 rfl
  have hf4 : W4.frozen? ⟨g, 0, none⟩ = false := frozen_of_row _ g _ _ _ hr4
  have hw5 := hw4.setCell (o := 0) (v := .int .u8 0) hr4
  have hb5 : Below w.heap.size w (W4.setCell ⟨g, 0, none⟩ (.int .u8 0)) := hb4.setCell hs3 _
  have HW5 := Lib.hid hw5
  have HB5 := Lib.hid hb5
  clear hr3 hr4 hw3 hb3 ho4 hb4 hw4 hw5 hb5
  go_wp2_with fail
  clear hc4 hf4
  revert HW5 HB5
  generalize W4.setCell ⟨g, 0, none⟩ (.int .u8 0) = W5
  intro HW5 HB5
  refine (put_nil _ _ _).mono ?_
  rintro e w' ⟨rfl, rfl⟩
  go_wp2_with fail
  refine (woctets_nil _ _).mono ?_
  rintro e w' ⟨rfl, rfl⟩
  go_wp2_with fail
  refine (len_nil _).mono ?_
  rintro e w' ⟨rfl, rfl⟩
  go_wp2_with fail
  refine (wbytes_nil _).mono ?_
  rintro e W6 ⟨rfl, hr6, hb6'⟩
  have hb6 : Below w.heap.size w W6 := HB5.out.trans (hb6'.mono HB5.out.size)
  have hw6 := HW5.out.below hb6'
  have hA : SlAt W6 (.slice (some ⟨W5.heap.size, 0, none⟩) 1 1) [0] := sl_of_row hr6 (wb_lt []) rfl
  have hA' : ∀ o, SlAt (W6.alloc o) (.slice (some ⟨W5.heap.size, 0, none⟩) 1 1) [0] := fun o => hA.below ((Below.refl _ _).alloc (Nat.le_refl _) _)
  have hC : SlAt (W6.alloc (.cells (u8s [0]).toArray 5)) (.slice (some ⟨W6.heap.size, 0, none⟩) 1 1) [0] := sl_of_row (heap_alloc_new _ _) (wb_lt []) rfl
  have hb7 : ∀ o, Below w.heap.size w (W6.alloc o) := fun o => hb6.alloc hb6.size o
  have hw7 : ∀ o, WrAt (W6.alloc o) x [true, true, true] := fun o => hw6.below ((Below.refl _ _).alloc (Nat.le_refl _) _)
  have HA := Lib.hid hA'
  have HC := Lib.hid hC
  have HB7 := Lib.hid hb7
  have HW7 := Lib.hid hw7
  clear hA hA' hC hb7 hw7 hr6 hb6' hb6 hw6 HW5 HB5
  go_wp2_with fail
  refine (same_yes _ _ _ [0] (HA.out _) HC.out).mono ?_
  rintro e w' ⟨rfl, rfl⟩
  have HB8 := Lib.hid (HB7.out (.cells (u8s [0]).toArray 5))
  have HW8 := Lib.hid (HW7.out (.cells (u8s [0]).toArray 5))
  clear HA HC HB7 HW7
  go_wp2_with fail
  refine (ralign_nil _).mono ?_
  rintro e w' ⟨rfl, rfl⟩
  go_wp2_with fail
  refine (pos_nil _).mono ?_
  rintro e w' ⟨rfl, rfl⟩
  go_wp2_with fail
  refine (end_nil _).mono ?_
  rintro e w' ⟨rfl, rfl⟩
  go_wp2_with fail
  revert HW8 HB8
  generalize W6.alloc (.cells (u8s [0]).toArray 5) = W8
  intro HB8 HW8
  refine (wbytes_any W8 x _ HW8.out (by simp)).mono ?_
  rintro e W9 ⟨rfl, hr9, hb9'⟩
  have hb9 : Below w.heap.size w W9 := HB8.out.trans (hb9'.mono HB8.out.size)
  rw [show wb [true, true, true] = [224] by decide] at hr9 ⊢
  have hA : SlAt W9 (.slice (some ⟨W8.heap.size, 0, none⟩) 1 1) [224] := sl_of_row hr9 (wb_lt [true, true, true]) rfl
  have hA' : ∀ o, SlAt (W9.alloc o) (.slice (some ⟨W8.heap.size, 0, none⟩) 1 1) [224] := fun o => hA.below ((Below.refl _ _).alloc (Nat.le_refl _) _)
  have hC : SlAt (W9.alloc (.cells (u8s [224]).toArray 5)) (.slice (some ⟨W9.heap.size, 0, none⟩) 1 1) [224] := sl_of_row (heap_alloc_new _ _) (wb_lt [true, true, true]) rfl
  have hb10 : ∀ o, Below w.heap.size w (W9.alloc o) := fun o => hb9.alloc hb9.size o
  have HA := Lib.hid hA'
  have HC := Lib.hid hC
  have HB10 := Lib.hid hb10
  clear hA hA' hC hb10 hr9 hb9' hb9 HW8 HB8
  go_wp2_with fail
  refine (same_yes _ _ _ [224] (HA.out _) HC.out).mono ?_
  rintro e w' ⟨rfl, rfl⟩
  have HB11 := Lib.hid (HB10.out (.cells (u8s [224]).toArray 5))
  clear HA HC HB10
  go_wp2_with fail
  go_ret
  exact ⟨rfl, HB11.out⟩

set_option maxRecDepth 100000 in
theorem lifted (os : Os) (started : os.Started) (H : Type) (enc : TypeId × Value → H) :
    ReturnsInHanded {} Try.checked os 7 .any (Rows.streamNoneSpec.pre6 enc Try.prog Try.f7 Rows.streamNoneRow.domain false) (Rows.streamNoneSpec.post enc Try.prog Try.f7 false true false false) := by
  refine returnsInHanded_of_change (C := Try.checked) own started (by kernel_rfl) Try.func7
    (ChangeSpec.witness6 (enc := enc) (C := Try.checked) false ⟨#[], #[.int .u64 0, .int .i64 0, .slice none 0 0], []⟩ 8 (by kernel_rfl) (by kernel_rfl) (by kernel_rfl) (by kernel_rfl)) ?_
  intro W base args ds gs before hval0 hW hcnd _
  have hval : ∀ (j : Nat) t v, Try.f7.params[j]? = some t → args[j]? = some v → Value.okWide Try.prog W .any base t v := hval0
  have hW' := hW
  obtain ⟨p, q, hA0, hV, rfl, hfz, hnd⟩ := hW
  have hA : DataW.TrodAll enc Try.prog W 0 (fun _ => true) true Try.f7.params.toList args.toList ds p := hA0
  rw [Try.params7] at hA hval
  obtain ⟨v0, vs0, d0, ds0, p0, q0, hargs, rfl, rfl, h0, r0⟩ := trodAll_cons hA
  obtain ⟨v1, vs1, d1, ds1, p1, q1, rfl, rfl, rfl, h1, r1⟩ := trodAll_cons r0
  obtain ⟨v2, vs2, d2, ds2, p2, q2, rfl, rfl, rfl, h2, r2⟩ := trodAll_cons r1
  obtain ⟨rfl, rfl, rfl⟩ := trodAll_nil r2
  obtain rfl : args = #[v0, v1, v2] := by cases args; simp_all
  obtain ⟨rfl, rfl⟩ := trodVars_none hV
  obtain ⟨a0, rfl, rfl, rfl, w0⟩ := open_int Try.underlying29 (hval 0 29 v0 rfl rfl) h0
  obtain ⟨a1, rfl, rfl, rfl, w1⟩ := open_int Try.underlying3 (hval 1 3 v1 rfl rfl) h1
  obtain ⟨a2, len2, cap2, rfl⟩ := okWide_slice Try.underlying30 (hval 2 30 v2 rfl rfl)
  have k2 := h2
  have lt2 : ∀ x ∈ p2, x.block < W.heap.size := by obtain ⟨m, hm⟩ := k2; exact DataW.trod_lt m _ _ _ hm
  obtain ⟨z2, w2⟩ : ∃ zs, IsRow .u8 W a2 len2 cap2 zs := by
    obtain ⟨fuel, hf⟩ := h2
    rcases open_ints Try.underlying30 Try.underlying5 (by kernel_rfl) hf with ⟨hcs, _⟩ | ⟨x, l, c, zs, hcs, _, hl, hm, hz, _, hcell, hwz⟩
    · simp [Value.cells] at hcs
      obtain ⟨rfl, rfl, rfl⟩ := hcs
      exact ⟨[], .inl ⟨rfl, rfl, rfl, rfl⟩⟩
    · simp [Value.cells] at hcs
      obtain ⟨rfl, rfl, rfl⟩ := hcs
      exact ⟨zs, .inr ⟨_, rfl, hl, hm, by simpa using hz, hcell, hwz⟩⟩
  clear hA0 hval0
  refine (walk W a0 w0 a1 w1 a2 len2 cap2 z2 w2).mono fun e W' ⟨he, bel⟩ => ?_
  subst he
  exact ⟨_, rfl, _, _, _, [], _, [], hW', trodAll_mk1 (shut_bool Try.underlying4 _), (trodAll_cons_mk (shut_int Try.underlying29 w0) (trodAll_cons_mk (shut_int Try.underlying3 w1) (trodAll_cons_mk (Below.trod laidOut (by kernel_rfl) (of_decide_eq_true (by kernel_rfl)) k2 bel lt2) trodAll_mk0))), rfl, bel.frame _, fun h => by cases h⟩

theorem over : Rows.streamNoneRow.holds Try.pinned (OpenSpec.ofChange Rows.streamNoneSpec) :=
  OpenClaim.holds_of_wide 7 Try.f7 rfl rfl rfl rfl rfl rfl rfl ⟨rfl, rfl, rfl, rfl, rfl⟩ rfl rfl rfl rfl rfl (by kernel_rfl) Try.func7 (by kernel_rfl)
    (of_decide_eq_true (by kernel_rfl)) (by unfold Func.isWrapper; first | (rw [if_pos (by decide +kernel)]; kernel_rfl) | (rw [if_neg (by decide +kernel)]; exact ⟨rfl, rfl⟩))
    (fun os started H enc _ => lifted os started H enc)

theorem proved : Rows.StreamNoneSaid := over
end Go.Proofs.Ytekoilcjghclcaa.streamNone
