/-
  Proved: the statement ShapeCons (any constraint's text), as a tied card: for every input; the listed variables of the library and of the package (tables, two errors) are as the program's text lays them; it speaks of the pruned copy of the project (its packages that the laws load).
-/
import Derived.Test.YtfkkfikaededjaaGreatDoorRows
import Derived.Test.YtfkkfikaededjaaGreatDoorCards
import Derived.Test.YtfkkfikaededjaaGreatDoorTie
import Derived.Test.YtfkkfikaededjaaGreatDoorJP
import Derived.ProofKit
import Derived.OpenShut
import Derived.ShutString
import Derived.ChangeOld
import Derived.LaidMore
import Derived.SevenTiedAt
namespace Go.Proofs.YtfkkfikaededjaaGreatDoor.shapeCons
open Go.ChangeShapes Go.WideShapes Go.ChangeAt Go.RowKit
open Go.ChangeMaps (open_string shut_string)
set_option linter.unusedVariables false
set_option linter.unusedSimpArgs false
set_option maxRecDepth 100000

set_option maxHeartbeats 8000000 in
theorem walk (w : World) (hgs : Gs w) (c : CT) (hc : CIn w.heap.size w c) :
    Calls Tryz.prog 3 #[.agg c.cells.toArray] w fun e w' => e = .returned (.bool true) ∧ Below w.heap.size w w' := by
  have HIN := Lib.hid hc
  have HGS := Lib.hid hgs
  obtain ⟨op, lo, hi, low, high, a, n, cap, ch, rfl⟩ := hc.open
  have HB0 := Lib.hid ((Below.refl w.heap.size w).alloc (Nat.le_refl _) (.cells #[.int .i64 op, .int .i64 lo, .int .i64 hi, .bool low, .bool high, .slice a n cap] 24))
  have HX0 := Lib.hid (Bx.new w #[.int .i64 op, .int .i64 lo, .int .i64 hi, .bool low, .bool high, .slice a n cap] 24)
  have HA := Lib.hid (awake_ok _ (hgs.below HB0.out))
  simp only [CT.cells]
  clear hc hgs
  go_enter Tryz.func3, Tryz.ntmps3
  go_wp2_with fail
  refine HA.out.mono ?_
  rintro e w1 ⟨rfl, hb⟩
  have HB1 := Lib.hid (HB0.out.trans (hb.mono HB0.out.size))
  have HX1 := Lib.hid (HX0.out.below hb HX0.out.lt)
  have HF := Lib.hid (FewCon_ok (CT.mk op lo hi low high a n cap ch) w1.heap.size 300 w1 (HIN.out.grow HB1.out) (Nat.le_refl _) (by omega) (by omega))
  simp only [CT.cells] at HF
  obtain ⟨fb, hfb⟩ : ∃ fb, decide (0 ≤ (CT.mk op lo hi low high a n cap ch).few 300) = fb := ⟨_, rfl⟩
  rw [hfb] at HF
  have HFB := Lib.hid hfb
  have e0 : w1.cell? ⟨w.heap.size, 0, none⟩ = some (.int .i64 op) := HX1.out.cell 0 rfl
  have e1 : w1.cell? ⟨w.heap.size, 1, none⟩ = some (.int .i64 lo) := HX1.out.cell 1 rfl
  have e2 : w1.cell? ⟨w.heap.size, 2, none⟩ = some (.int .i64 hi) := HX1.out.cell 2 rfl
  have e3 : w1.cell? ⟨w.heap.size, 3, none⟩ = some (.bool low) := HX1.out.cell 3 rfl
  have e4 : w1.cell? ⟨w.heap.size, 4, none⟩ = some (.bool high) := HX1.out.cell 4 rfl
  have e5 : w1.cell? ⟨w.heap.size, 5, none⟩ = some (.slice a n cap) := HX1.out.cell 5 rfl
  clear hb HA HX0 HB0 hfb
  go_wp2_with fail
  refine HF.out.mono ?_
  rintro e w2 ⟨rfl, hb⟩
  have HB2 := Lib.hid (HB1.out.trans (hb.mono HB1.out.size))
  have HX2 := Lib.hid (HX1.out.below hb HX1.out.lt)
  clear hb HF HX1 HB1 e0 e1 e2 e3 e4 e5
  cases fb with
  | false =>
    go_wp2_with fail
    go_ret
    exact ⟨rfl, HB2.out⟩
  | true =>
    have hlen : ((CT.mk op lo hi low high a n cap ch).txt.length : Int) ≤ 60 * (300 - (CT.mk op lo hi low high a n cap ch).few 300) - 10 := CT.txt_len _ HIN.out 300 (of_decide_eq_true HFB.out)
    have hpos : 0 ≤ (CT.mk op lo hi low high a n cap ch).few 300 := of_decide_eq_true HFB.out
    have hin := HIN.out.grow HB2.out
    have hgs := HGS.out.below HB2.out
    have g1 := fun (d : Nat) (os : Array Obj) => Calls.regrown_of (con_ok (CT.mk op lo hi low high a n cap ch) w2.heap.size (Go.Sort.grow (redrawn w2 d) os) (hin.below (below_regrown w2 d os) (Nat.le_refl _)) (below_regrown w2 d os).size)
    have g2 := fun (d : Nat) (os : Array Obj) => Calls.regrown_of (rCon_ok (CT.mk op lo hi low high a n cap ch) w2.heap.size (Go.Sort.grow (redrawn w2 d) os) (hin.below (below_regrown w2 d os) (Nat.le_refl _)) (below_regrown w2 d os).size)
    have g3 := fun (d : Nat) (os : Array Obj) => Calls.regrown_of (conText_ok (CT.mk op lo hi low high a n cap ch) (Go.Sort.grow (redrawn w2 d) os) (hgs.below (below_regrown w2 d os)) (hin.grow (below_regrown w2 d os)) (by omega) (fun h1 h2 => CT.txt_ne _ (CT.ok_wf _ 40 h1 h2)))
    have g4 := fun (d : Nat) (os : Array Obj) => Calls.regrown_of (rConText_ok (CT.mk op lo hi low high a n cap ch) w2.heap.size (Go.Sort.grow (redrawn w2 d) os) (hin.below (below_regrown w2 d os) (Nat.le_refl _)) (below_regrown w2 d os).size (by omega))
    simp only [CT.v, CT.cells] at g1 g2 g3 g4
    obtain ⟨k, hk⟩ : ∃ k, (CT.mk op lo hi low high a n cap ch).ok 40 = k := ⟨_, rfl⟩
    obtain ⟨X, hX⟩ : ∃ X, bs (CT.mk op lo hi low high a n cap ch).text = X := ⟨_, rfl⟩
    rw [hk] at g1 g2
    rw [hX] at g3 g4
    have G1 := Lib.hid g1
    have G2 := Lib.hid g2
    have G3 := Lib.hid g3
    have G4 := Lib.hid g4
    have d0 := fun d os => cell_regrown (show w2.cell? ⟨w.heap.size, 0, none⟩ = some (.int .i64 op) from HX2.out.cell 0 rfl) d os
    have d1 := fun d os => cell_regrown (show w2.cell? ⟨w.heap.size, 1, none⟩ = some (.int .i64 lo) from HX2.out.cell 1 rfl) d os
    have d2 := fun d os => cell_regrown (show w2.cell? ⟨w.heap.size, 2, none⟩ = some (.int .i64 hi) from HX2.out.cell 2 rfl) d os
    have d3 := fun d os => cell_regrown (show w2.cell? ⟨w.heap.size, 3, none⟩ = some (.bool low) from HX2.out.cell 3 rfl) d os
    have d4 := fun d os => cell_regrown (show w2.cell? ⟨w.heap.size, 4, none⟩ = some (.bool high) from HX2.out.cell 4 rfl) d os
    have d5 := fun d os => cell_regrown (show w2.cell? ⟨w.heap.size, 5, none⟩ = some (.slice a n cap) from HX2.out.cell 5 rfl) d os
    clear hlen hpos hin hgs g1 g2 g3 g4 hk hX HFB
    go_wp2_with fail
    refine wp_region_quiet_below (by kernel_rfl) (by kernel_rfl) ?_
    quiet_step (fail)
    quiet_step (fail)
    quiet_step (fail)
    quiet_step (exact G1.out _ _)
    quiet_step (fail)
    quiet_step (exact G2.out _ _)
    quiet_step (fail)
    quiet_step (fail)
    quiet_step (fail)
    quiet_step (fail)
    quiet_step (exact G3.out _ _)
    quiet_step (fail)
    quiet_step (exact G4.out _ _)
    quiet_step (fail)
    quiet_step (fail)
    quiet_step (fail)
    refine wpQuiet_nil ?_
    intro _ hw'
    obtain ⟨⟨dq, osq⟩, hw''⟩ := hw'
    subst hw''
    have hb2 := below_regrown w2 dq osq
    clear d0 d1 d2 d3 d4 d5 G1 G2 G3 G4
    generalize Go.Sort.grow (redrawn w2 dq) osq = W2 at *
    have HB3 := Lib.hid (HB2.out.trans (hb2.mono HB2.out.size))
    clear hb2
    go_wp2_with fail
    go_ret
    exact ⟨rfl, HB3.out⟩

set_option maxRecDepth 100000 in
theorem lifted (os : Os) (started : os.Started) (H : Type) (enc : TypeId × Value → H) :
    ReturnsInHanded {} Tryz.checked os 3 .any (fun w args => (Rows.shapeConsSpec.pre enc Tryz.prog Tryz.f3 [] false w args ∧ laidMetH Tryz.prog Rows.shapeConsRow.laid w) ∧ sizedMet enc Tryz.prog Tryz.f3 (OpenSpec.ofChange Rows.shapeConsSpec) false w args) (Rows.shapeConsSpec.post enc Tryz.prog Tryz.f3 false true false false) := by
  refine handed_sized (C := Tryz.checked) (X := fun w _ => laidMetH Tryz.prog Rows.shapeConsRow.laid w) (fun _ _ _ hh h => h.of_heap hh) own started (by kernel_rfl) Tryz.func3
    (ChangeSpec.witness_shaped (enc := enc) (C := Tryz.checked) (os := os) (X := fun w _ => laidMetH Tryz.prog Rows.shapeConsRow.laid w) false (World.laidAll Tryz.prog os laidL) #[.agg #[.int .i64 0, .int .i64 0, .int .i64 0, .bool false, .bool false, .slice none 0 0]] 8 (World.laidAll_os _ _ _)
      (World.shaped_of_ZipB (by kernel_rfl) (by kernel_rfl)) (by kernel_rfl) (by kernel_rfl) (by kernel_rfl) (laid_world os _)) ?_
  intro W base args ds gs before hval0 hW hsz0 hL hsh
  have hval : ∀ (j : Nat) t v, Tryz.f3.params[j]? = some t → args[j]? = some v → Value.okWide Tryz.prog W .any base t v := hval0
  have hgs : Gs W := gs_of hL hsh
  have hW' := hW
  obtain ⟨p, q, hA0, hV, rfl, hfz, hnd⟩ := hW
  have hA : DataW.TrodAll enc Tryz.prog W 0 (fun _ => true) true Tryz.f3.params.toList args.toList ds p := hA0
  rw [Tryz.params3] at hA hval
  obtain ⟨v0, vs0, d0, ds0, p0, q0, hargs, rfl, rfl, h0, r0⟩ := trodAll_cons hA
  obtain ⟨rfl, rfl, rfl⟩ := trodAll_nil r0
  obtain rfl : args = #[v0] := by cases args; simp_all
  obtain ⟨rfl, rfl⟩ := trodVars_none hV
  obtain ⟨cs0, rfl, _⟩ := okWide_struct Tryz.underlying24 (hval 0 24 v0 rfl rfl)
  have k0 := h0
  have lt0 : ∀ x ∈ p0, x.block < W.heap.size := by obtain ⟨m, hm⟩ := k0; exact DataW.trod_lt m _ _ _ hm
  have li0 : Light 24 d0 := light_each hsz0 0 _ _ rfl rfl
  obtain ⟨fuel0, hf0⟩ := h0
  obtain ⟨x0, hc0, hx0⟩ := open_con (W := W) fuel0 (cs := cs0.toList) hf0 li0
  obtain rfl : cs0 = x0.cells.toArray := by rw [← hc0]
  clear hA0 hval0
  refine (walk W hgs x0 hx0).mono fun e W' ⟨he, bel⟩ => ?_
  subst he
  exact ⟨_, rfl, _, _, _, [], _, [], hW', trodAll_mk1 (shut_bool Tryz.underlying4 _), (trodAll_cons_mk (Below.trod laidOut (by kernel_rfl) (of_decide_eq_true (by kernel_rfl)) k0 bel lt0) trodAll_mk0), rfl, bel.frame _, fun h => by cases h⟩

theorem over : Rows.shapeConsRow.holds Tryz.pinned (OpenSpec.ofChange Rows.shapeConsSpec) :=
  OpenClaim.holds_of_wide 3 Tryz.f3 rfl rfl rfl rfl rfl rfl rfl ⟨rfl, rfl, rfl, rfl, rfl⟩ rfl rfl rfl rfl rfl (by kernel_rfl) Tryz.func3 (by kernel_rfl)
    (of_decide_eq_true (by kernel_rfl)) (by unfold Func.isWrapper; first | (rw [if_pos (by decide +kernel)]; kernel_rfl) | (rw [if_neg (by decide +kernel)]; exact ⟨rfl, rfl⟩))
    (fun os started H enc _ => lifted os started H enc)

theorem proved : Rows.ShapeConsCardSaid :=
  Claim7.holds_tied_plain_at .later [] [.data, .data, .data, .data, .sentinel, .sentinel, .data, .pinned] true (true, "a7b64ff5a9ab2b5df8d7e99cc6e65fce216891dfd9a29e65d278c9dbd4cb77be") true
    over (fun _ h => by cases h) (by kernel_rfl) (fun _ h => by cases h) shapeCons_row_tie rfl ⟨rfl, rfl⟩ (by kernel_rfl) rfl
    (fun f fn hf hfn => by
      obtain rfl : f = 3 := Option.some.inj ((show Tryz.prog.funcNamed Rows.shapeConsRow.func = some 3 by kernel_rfl).symm.trans hf) |>.symm
      obtain rfl : fn = Tryz.f3 := (Option.some.inj (Tryz.func3.symm.trans hfn)).symm
      exact ⟨by kernel_rfl, fun j t ht => by
        rw [Tryz.params3] at ht
        have hm : t ∈ [24] := by simpa using Array.mem_of_getElem? ht
        have hall : ([24].all fun u => !Tryz.prog.wantsStandIn u) = true := by kernel_rfl
        exact (show Tryz.prog.wantsStandIn t = false by simpa using List.all_eq_true.1 hall t hm)⟩)
    (by kernel_rfl)
end Go.Proofs.YtfkkfikaededjaaGreatDoor.shapeCons
