/-
  Proved: the statement ShapeSame (whether two types are the same), as a tied card: for every input; the listed variables of the library and of the package (tables, two errors) are as the program's text lays them; it speaks of the pruned copy of the project (its packages that the laws load).
-/
import Derived.Test.YtgibjhljcdhppaaGreatDoorRows
import Derived.Test.YtgibjhljcdhppaaGreatDoorCards
import Derived.Test.YtgibjhljcdhppaaGreatDoorTie
import Derived.Test.YtgibjhljcdhppaaGreatDoorJS
import Derived.Test.YtgibjhljcdhppaaGreatDoorJO
import Derived.Test.YtgibjhljcdhppaaGreatDoorJT
import Derived.BigQuiet
import Derived.ProofKit
import Derived.OpenShut
import Derived.ShutString
import Derived.ChangeOld
import Derived.LaidMore
import Derived.SevenTiedAt
namespace Go.Proofs.YtgibjhljcdhppaaGreatDoor.shapeSame
open Go.ChangeShapes Go.WideShapes Go.ChangeAt Go.RowKit Go.BigFrame
open Go.ChangeMaps (open_string shut_string)
set_option linter.unusedVariables false
set_option linter.unusedSimpArgs false
set_option maxRecDepth 100000

set_option maxHeartbeats 16000000 in
theorem walk (w : World) (hgs : Gs w) (t : TT) (ht : TIn w.heap.size w t) (u : TT) (hu : TIn w.heap.size w u) :
    Calls Tryz.prog 6 #[.agg t.cells.toArray, .agg u.cells.toArray] w fun e w' => e = .returned (.bool true) ∧ Below w.heap.size w w' := by
  have HONE := Lib.hid (one_tcells ht)
  have HONEU := Lib.hid (one_tcells hu)
  have HX0 := Lib.hid ((Bx.new w t.cells.toArray 33).alloc (.cells u.cells.toArray 33))
  have HY0 := Lib.hid (show Bx ((w.alloc (.cells t.cells.toArray 33)).alloc (.cells u.cells.toArray 33)) (w.heap.size + 1) u.cells.toArray 33 by have h := Bx.new (w.alloc (.cells t.cells.toArray 33)) u.cells.toArray 33; rw [World.size_alloc] at h; exact h)
  have HB0 := Lib.hid (((Below.refl w.heap.size w).alloc (Nat.le_refl _) (.cells t.cells.toArray 33)).alloc (by simp) (.cells u.cells.toArray 33))
  have HT := Lib.hid ht
  have HU := Lib.hid hu
  have HA := Lib.hid (awake_ok _ (hgs.below HB0.out))
  clear hgs ht hu
  go_enter Tryz.func6, Tryz.ntmps6
  go_wp2_with fail
  refine HA.out.mono ?_
  rintro e w1 ⟨rfl, hb⟩
  have HB1 := Lib.hid (HB0.out.trans (hb.mono HB0.out.size))
  have HX1 := Lib.hid (HX0.out.below hb HX0.out.lt)
  have HY1 := Lib.hid (HY0.out.below hb HY0.out.lt)
  clear hb
  have HF := Lib.hid (Few_ok t w.heap.size 400 w1 (HT.out.below HB1.out (Nat.le_refl _)) HB1.out.size (by omega) (by omega))
  obtain ⟨fb, hfb⟩ : ∃ fb, decide (0 ≤ t.few 400) = fb := ⟨_, rfl⟩
  rw [hfb] at HF
  clear hfb HA HX0 HY0 HB0
  go_wp2_with (refine wpList_load_mid rfl 33 (.tmp 2) rfl w.heap.size 0 rfl t.cells _ HX1.out.range Tryz.underlying33 rfl (by rw [info_T, HONE.out.1]) ?_)
  refine HF.out.mono ?_
  rintro e w2 ⟨rfl, hb⟩
  have HB2 := Lib.hid (HB1.out.trans (hb.mono HB1.out.size))
  have HX2 := Lib.hid (HX1.out.below hb HX1.out.lt)
  have HY2 := Lib.hid (HY1.out.below hb HY1.out.lt)
  clear hb
  clear HF HX1 HY1 HB1
  cases fb with
  | false =>
    go_wp2_with fail
    go_ret
    exact ⟨rfl, HB2.out⟩
  | true =>
    have HF := Lib.hid (Few_ok u w.heap.size 400 w2 (HU.out.below HB2.out (Nat.le_refl _)) HB2.out.size (by omega) (by omega))
    obtain ⟨fu, hfu⟩ : ∃ fb, decide (0 ≤ u.few 400) = fb := ⟨_, rfl⟩
    rw [hfu] at HF
    clear hfu
    go_wp2_with (refine wpList_load_midG (by rfl) 33 (.tmp 3) rfl (w.heap.size + 1) 0 rfl u.cells _ HY2.out.range Tryz.underlying33 rfl (by rw [info_T, HONEU.out.1]) ?_)
    refine HF.out.mono ?_
    rintro e w3 ⟨rfl, hb⟩
    have HB3 := Lib.hid (HB2.out.trans (hb.mono HB2.out.size))
    have HX3 := Lib.hid (HX2.out.below hb HX2.out.lt)
    have HY3 := Lib.hid (HY2.out.below hb HY2.out.lt)
    clear hb
    clear HF HX2 HY2 HB2
    cases fu with
    | false =>
      go_wp2_with fail
      go_ret
      exact ⟨rfl, HB3.out⟩
    | true =>
      have hsz := HB3.out.size
      have HTI := Lib.hid (fun (W : World) (hb : Below w3.heap.size w3 W) => HT.out.below (HB3.out.trans (hb.mono hsz)) (Nat.le_refl _))
      have HUI := Lib.hid (fun (W : World) (hb : Below w3.heap.size w3 W) => HU.out.below (HB3.out.trans (hb.mono hsz)) (Nat.le_refl _))
      have HTU := Lib.hid (fun (d : Nat) (os : Array Obj) => Calls.regrown_of (Same_ok t u w.heap.size (Go.Sort.grow (redrawn w3 d) os) (HTI.out _ (below_regrown w3 d os)) (HUI.out _ (below_regrown w3 d os)) (Nat.le_trans hsz (below_regrown w3 d os).size)))
      have HRTU := Lib.hid (fun (d : Nat) (os : Array Obj) => Calls.regrown_of (rSame_ok t u w.heap.size (Go.Sort.grow (redrawn w3 d) os) (HTI.out _ (below_regrown w3 d os)) (HUI.out _ (below_regrown w3 d os)) (Nat.le_trans hsz (below_regrown w3 d os).size)))
      have HUT := Lib.hid (fun (d : Nat) (os : Array Obj) => Calls.regrown_of (Same_ok u t w.heap.size (Go.Sort.grow (redrawn w3 d) os) (HUI.out _ (below_regrown w3 d os)) (HTI.out _ (below_regrown w3 d os)) (Nat.le_trans hsz (below_regrown w3 d os).size)))
      have HTT := Lib.hid (fun (d : Nat) (os : Array Obj) => Calls.regrown_of (Same_ok t t w.heap.size (Go.Sort.grow (redrawn w3 d) os) (HTI.out _ (below_regrown w3 d os)) (HTI.out _ (below_regrown w3 d os)) (Nat.le_trans hsz (below_regrown w3 d os).size)))
      rw [TT.same_comm u t] at HUT
      rw [TT.same_refl t HT.out] at HTT
      obtain ⟨r, hr⟩ : ∃ r, t.same u = r := ⟨_, rfl⟩
      rw [hr] at HTU HRTU HUT
      have HRT := Lib.hid (range_regrown HX3.out.range)
      have HRU := Lib.hid (range_regrown HY3.out.range)
      clear hr HTI HUI HX3 HY3 HT HU
      go_wp2_with fail
      refine wp_region_quiet_below (by kernel_rfl) (by kernel_rfl) ?_
      go_big_quiet_step (fail)
      go_big_quiet_step (fail)
      (go_big_quiet_want; refine quiet_load_mid 33 (.tmp 2) rfl w.heap.size 0 rfl t.cells _ HRT.out Tryz.underlying33 rfl (by rw [info_T, HONE.out.1]) ?_; simp only [put_mk, List.set_cons_succ, List.set_cons_zero]; go_big_quiet_on)
      (go_big_quiet_want; refine quiet_load_mid 33 (.tmp 3) rfl (w.heap.size + 1) 0 rfl u.cells _ HRU.out Tryz.underlying33 rfl (by rw [info_T, HONEU.out.1]) ?_; simp only [put_mk, List.set_cons_succ, List.set_cons_zero]; go_big_quiet_on)
      go_big_quiet_step (exact HTU.out _ _)
      (go_big_quiet_want; refine quiet_load_mid 33 (.tmp 2) rfl w.heap.size 0 rfl t.cells _ HRT.out Tryz.underlying33 rfl (by rw [info_T, HONE.out.1]) ?_; simp only [put_mk, List.set_cons_succ, List.set_cons_zero]; go_big_quiet_on)
      (go_big_quiet_want; refine quiet_load_mid 33 (.tmp 3) rfl (w.heap.size + 1) 0 rfl u.cells _ HRU.out Tryz.underlying33 rfl (by rw [info_T, HONEU.out.1]) ?_; simp only [put_mk, List.set_cons_succ, List.set_cons_zero]; go_big_quiet_on)
      go_big_quiet_step (exact HRTU.out _ _)
      go_big_quiet_step (fail)
      go_big_quiet_step (fail)
      go_big_quiet_step (fail)
      (go_big_quiet_want; refine quiet_load_mid 33 (.tmp 3) rfl (w.heap.size + 1) 0 rfl u.cells _ HRU.out Tryz.underlying33 rfl (by rw [info_T, HONEU.out.1]) ?_; simp only [put_mk, List.set_cons_succ, List.set_cons_zero]; go_big_quiet_on)
      (go_big_quiet_want; refine quiet_load_mid 33 (.tmp 2) rfl w.heap.size 0 rfl t.cells _ HRT.out Tryz.underlying33 rfl (by rw [info_T, HONE.out.1]) ?_; simp only [put_mk, List.set_cons_succ, List.set_cons_zero]; go_big_quiet_on)
      go_big_quiet_step (exact HUT.out _ _)
      (go_big_quiet_want; refine quiet_load_mid 33 (.tmp 2) rfl w.heap.size 0 rfl t.cells _ HRT.out Tryz.underlying33 rfl (by rw [info_T, HONE.out.1]) ?_; simp only [put_mk, List.set_cons_succ, List.set_cons_zero]; go_big_quiet_on)
      (go_big_quiet_want; refine quiet_load_mid 33 (.tmp 3) rfl (w.heap.size + 1) 0 rfl u.cells _ HRU.out Tryz.underlying33 rfl (by rw [info_T, HONEU.out.1]) ?_; simp only [put_mk, List.set_cons_succ, List.set_cons_zero]; go_big_quiet_on)
      go_big_quiet_step (exact HTU.out _ _)
      go_big_quiet_step (fail)
      go_big_quiet_step (fail)
      go_big_quiet_step (fail)
      (go_big_quiet_want; refine quiet_load_mid 33 (.tmp 2) rfl w.heap.size 0 rfl t.cells _ HRT.out Tryz.underlying33 rfl (by rw [info_T, HONE.out.1]) ?_; simp only [put_mk, List.set_cons_succ, List.set_cons_zero]; go_big_quiet_on)
      (go_big_quiet_want; refine quiet_load_mid 33 (.tmp 2) rfl w.heap.size 0 rfl t.cells _ HRT.out Tryz.underlying33 rfl (by rw [info_T, HONE.out.1]) ?_; simp only [put_mk, List.set_cons_succ, List.set_cons_zero]; go_big_quiet_on)
      go_big_quiet_step (exact HTT.out _ _)
      go_big_quiet_step (fail)
      go_big_quiet_step (fail)
      refine wpQuiet_nil ?_
      intro _ hw'
      obtain ⟨⟨dq, osq⟩, hw''⟩ := hw'
      subst hw''
      have hb2 := below_regrown w3 dq osq
      generalize Go.Sort.grow (redrawn w3 dq) osq = W2 at *
      have HB4 := Lib.hid (HB3.out.trans (hb2.mono hsz))
      go_wp2_with fail
      go_ret
      refine ⟨?_, HB4.out⟩
      first | rfl | simp

set_option maxRecDepth 100000 in
theorem lifted (os : Os) (started : os.Started) (H : Type) (enc : TypeId × Value → H) :
    ReturnsInHanded {} Tryz.checked os 6 .any (fun w args => (Rows.shapeSameSpec.pre enc Tryz.prog Tryz.f6 [] false w args ∧ laidMetH Tryz.prog Rows.shapeSameRow.laid w) ∧ sizedMet enc Tryz.prog Tryz.f6 (OpenSpec.ofChange Rows.shapeSameSpec) false w args) (Rows.shapeSameSpec.post enc Tryz.prog Tryz.f6 false true false false) := by
  refine handed_sized (C := Tryz.checked) (X := fun w _ => laidMetH Tryz.prog Rows.shapeSameRow.laid w) (fun _ _ _ hh h => h.of_heap hh) own started (by kernel_rfl) Tryz.func6
    (ChangeSpec.witness_shaped (enc := enc) (C := Tryz.checked) (os := os) (X := fun w _ => laidMetH Tryz.prog Rows.shapeSameRow.laid w) false (World.laidAll Tryz.prog os laidL) #[.agg #[.int .i64 0, .string ByteArray.empty, .int .i64 0, .int .i64 0, .int .i64 0, .bool false, .bool false, .slice none 0 0, .bool false, .string ByteArray.empty, .slice none 0 0, .slice none 0 0, .slice none 0 0, .slice none 0 0, .slice none 0 0], .agg #[.int .i64 0, .string ByteArray.empty, .int .i64 0, .int .i64 0, .int .i64 0, .bool false, .bool false, .slice none 0 0, .bool false, .string ByteArray.empty, .slice none 0 0, .slice none 0 0, .slice none 0 0, .slice none 0 0, .slice none 0 0]] 8 (World.laidAll_os _ _ _)
      (World.shaped_of_ZipB (by kernel_rfl) (by kernel_rfl)) (by kernel_rfl) (by kernel_rfl) (by kernel_rfl) (laid_world os _)) ?_
  intro W base args ds gs before hval0 hW hsz0 hL hsh
  have hval : ∀ (j : Nat) t v, Tryz.f6.params[j]? = some t → args[j]? = some v → Value.okWide Tryz.prog W .any base t v := hval0
  have hgs : Gs W := gs_of hL hsh
  have hW' := hW
  obtain ⟨p, q, hA0, hV, rfl, hfz, hnd⟩ := hW
  have hA : DataW.TrodAll enc Tryz.prog W 0 (fun _ => true) true Tryz.f6.params.toList args.toList ds p := hA0
  rw [Tryz.params6] at hA hval
  obtain ⟨v0, vs0, d0, ds0, p0, q0, hargs, rfl, rfl, h0, r0⟩ := trodAll_cons hA
  obtain ⟨v1, vs1, d1, ds1, p1, q1, rfl, rfl, rfl, h1, r1⟩ := trodAll_cons r0
  obtain ⟨rfl, rfl, rfl⟩ := trodAll_nil r1
  obtain rfl : args = #[v0, v1] := by cases args; simp_all
  obtain ⟨rfl, rfl⟩ := trodVars_none hV
  obtain ⟨cs0, rfl, _⟩ := okWide_struct Tryz.underlying33 (hval 0 33 v0 rfl rfl)
  have k0 := h0
  have lt0 : ∀ x ∈ p0, x.block < W.heap.size := by obtain ⟨m, hm⟩ := k0; exact DataW.trod_lt m _ _ _ hm
  have li0 : Light 33 d0 := light_each hsz0 0 _ _ rfl rfl
  obtain ⟨fuel0, hf0⟩ := h0
  obtain ⟨x0, hc0, hx0⟩ := open_type (W := W) fuel0 (cs := cs0.toList) hf0 li0
  obtain rfl : cs0 = x0.cells.toArray := by rw [← hc0]
  obtain ⟨cs1, rfl, _⟩ := okWide_struct Tryz.underlying33 (hval 1 33 v1 rfl rfl)
  have k1 := h1
  have lt1 : ∀ x ∈ p1, x.block < W.heap.size := by obtain ⟨m, hm⟩ := k1; exact DataW.trod_lt m _ _ _ hm
  have li1 : Light 33 d1 := light_each hsz0 1 _ _ rfl rfl
  obtain ⟨fuel1, hf1⟩ := h1
  obtain ⟨x1, hc1, hx1⟩ := open_type (W := W) fuel1 (cs := cs1.toList) hf1 li1
  obtain rfl : cs1 = x1.cells.toArray := by rw [← hc1]
  clear hA0 hval0
  refine (walk W hgs x0 hx0 x1 hx1).mono fun e W' ⟨he, bel⟩ => ?_
  subst he
  exact ⟨_, rfl, _, _, _, [], _, [], hW', trodAll_mk1 (shut_bool Tryz.underlying4 _), (trodAll_cons_mk (Below.trod laidOut (by kernel_rfl) (of_decide_eq_true (by kernel_rfl)) k0 bel lt0) (trodAll_cons_mk (Below.trod laidOut (by kernel_rfl) (of_decide_eq_true (by kernel_rfl)) k1 bel lt1) trodAll_mk0)), rfl, bel.frame _, fun h => by cases h⟩

theorem over : Rows.shapeSameRow.holds Tryz.pinned (OpenSpec.ofChange Rows.shapeSameSpec) :=
  OpenClaim.holds_of_wide 6 Tryz.f6 rfl rfl rfl rfl rfl rfl rfl ⟨rfl, rfl, rfl, rfl, rfl⟩ rfl rfl rfl rfl rfl (by kernel_rfl) Tryz.func6 (by kernel_rfl)
    (of_decide_eq_true (by kernel_rfl)) (by unfold Func.isWrapper; first | (rw [if_pos (by decide +kernel)]; kernel_rfl) | (rw [if_neg (by decide +kernel)]; exact ⟨rfl, rfl⟩))
    (fun os started H enc _ => lifted os started H enc)

theorem proved : Rows.ShapeSameCardSaid :=
  Claim7.holds_tied_plain_at .later [] [.data, .data, .data, .data, .sentinel, .sentinel, .data, .pinned] true (true, "a7b64ff5a9ab2b5df8d7e99cc6e65fce216891dfd9a29e65d278c9dbd4cb77be") true
    over (fun _ h => by cases h) (by kernel_rfl) (fun _ h => by cases h) shapeSame_row_tie rfl ⟨rfl, rfl⟩ (by kernel_rfl) rfl
    (fun f fn hf hfn => by
      obtain rfl : f = 6 := Option.some.inj ((show Tryz.prog.funcNamed Rows.shapeSameRow.func = some 6 by kernel_rfl).symm.trans hf) |>.symm
      obtain rfl : fn = Tryz.f6 := (Option.some.inj (Tryz.func6.symm.trans hfn)).symm
      exact ⟨by kernel_rfl, fun j t ht => by
        rw [Tryz.params6] at ht
        have hm : t ∈ [33, 33] := by simpa using Array.mem_of_getElem? ht
        have hall : ([33, 33].all fun u => !Tryz.prog.wantsStandIn u) = true := by kernel_rfl
        exact (show Tryz.prog.wantsStandIn t = false by simpa using List.all_eq_true.1 hall t hm)⟩)
    (by kernel_rfl)
end Go.Proofs.YtgibjhljcdhppaaGreatDoor.shapeSame
