/-
  Proved: the statement ShapeDeep (a step deeper each time), as a tied card: for every input; the listed variables of the library and of the package (tables, two errors) are as the program's text lays them; it speaks of the pruned copy of the project (its packages that the laws load).
-/
import Derived.Test.YtfkkfikaededjaaGreatDoorRows
import Derived.Test.YtfkkfikaededjaaGreatDoorCards
import Derived.Test.YtfkkfikaededjaaGreatDoorTie
import Derived.Test.YtfkkfikaededjaaGreatDoorJM
import Derived.ProofKit
import Derived.OpenShut
import Derived.ShutString
import Derived.ChangeOld
import Derived.LaidMore
import Derived.SevenTiedAt
namespace Go.Proofs.YtfkkfikaededjaaGreatDoor.shapeDeep
open Go.ChangeShapes Go.WideShapes Go.ChangeAt Go.RowKit
open Go.ChangeMaps (open_string shut_string)
set_option linter.unusedVariables false
set_option linter.unusedSimpArgs false
set_option maxRecDepth 100000

def RelDp (w : World) (t : TT) (m d0 : Nat) (dv iv : Value) (wr : World) : Prop :=
  ∃ (i : Nat) (T : TT), i ≤ m ∧ iv = .int .i64 (i : Nat) ∧ dv = .int .i64 (d0 + i : Nat) ∧ T.dep = d0 + i ∧ T.ok = true ∧ Up w.heap.size t wr T ∧ Bx wr w.heap.size T.cells.toArray 33 ∧ Below w.heap.size w wr
theorem up_round {w wr w2 w' : World} {t T : TT} (hu : Up w.heap.size t wr T) (hs : w.heap.size < wr.heap.size) (hw2 : ∀ j, j ≠ w.heap.size → w2.heap[j]? = (wr.alloc (.cells T.cells.toArray 33)).heap[j]?) (hb : Below w2.heap.size w2 w') :
    Up w.heap.size t w2 (upT wr.heap.size T) ∧ Up w.heap.size t w' (upT wr.heap.size T) := by
  have h2 : Up w.heap.size t w2 (upT wr.heap.size T) := .step _ _ (hu.mono (fun g cs hg hx => (hw2 g (by omega)).trans (hx.alloc _))) hs ((hw2 _ (by omega)).trans (Bx.new wr _ _))
  exact ⟨h2, h2.mono (fun g cs _ hx => hx.below hb hx.lt)⟩
set_option maxHeartbeats 8000000 in
theorem walk (w : World) (hgs : Gs w) (t : TT) (ht : TIn w.heap.size w t) (n : Int) (wn : (Lit.int .i64 n).wf = true) :
    Calls Tryz.prog 8 #[.agg t.cells.toArray, .int .i64 n] w fun e w' => e = .returned (.bool true) ∧ Below w.heap.size w w' := by
  have HONE := Lib.hid (one_tcells ht)
  have HX0 := Lib.hid (Bx.new w t.cells.toArray 33)
  have HB0 := Lib.hid ((Below.refl w.heap.size w).alloc (Nat.le_refl _) (.cells t.cells.toArray 33))
  have HGS := Lib.hid hgs
  have HT := Lib.hid ht
  have HA := Lib.hid (awake_ok _ (hgs.below HB0.out))
  obtain ⟨m, hm⟩ : ∃ m : Nat, (m : Int) = n % 64 := ⟨(n % 64).toNat, by omega⟩
  have hm63 : m ≤ 63 := by omega
  have hk := i64_and63 n
  rw [← hm] at hk
  clear hgs ht hm
  go_enter Tryz.func8, Tryz.ntmps8
  go_wp2_with fail
  refine HA.out.mono ?_
  rintro e w1 ⟨rfl, hb⟩
  have HB1 := Lib.hid (HB0.out.trans (hb.mono HB0.out.size))
  have HX1 := Lib.hid (HX0.out.below hb HX0.out.lt)
  have HT1 := Lib.hid (HT.out.grow HB1.out)
  clear hb HA HX0 HB0
  have HF := Lib.hid (Few_ok t w1.heap.size 200 w1 HT1.out (Nat.le_refl _) (by omega) (by omega))
  obtain ⟨fb, hfb⟩ : ∃ fb, decide (0 ≤ t.few 200) = fb := ⟨_, rfl⟩
  rw [hfb] at HF
  clear hfb
  go_wp2_with (refine wpList_load_mid rfl 33 (.tmp 2) rfl w.heap.size 0 rfl t.cells _ HX1.out.range Tryz.underlying33 rfl (by rw [info_T, HONE.out.1]) ?_)
  refine HF.out.mono ?_
  rintro e w2 ⟨rfl, hb⟩
  have HB2 := Lib.hid (HB1.out.trans (hb.mono HB1.out.size))
  have HX2 := Lib.hid (HX1.out.below hb HX1.out.lt)
  have HT2 := Lib.hid (HT1.out.grow hb)
  clear hb HF HX1 HB1 HT1
  cases fb with
  | false =>
    go_wp2_with fail
    go_ret
    exact ⟨rfl, HB2.out⟩
  | true =>
    have HTY := Lib.hid (Type_ok t w2.heap.size w2 (HGS.out.below HB2.out) HT2.out (Nat.le_refl _))
    obtain ⟨k, hk2⟩ : ∃ k, t.okT = k := ⟨_, rfl⟩
    rw [hk2] at HTY
    have HK2 := Lib.hid hk2
    clear hk2
    go_wp2_with (refine wpList_load_midG (by rfl) 33 (.tmp 2) rfl w.heap.size 0 rfl t.cells _ HX2.out.range Tryz.underlying33 rfl (by rw [info_T, HONE.out.1]) ?_)
    refine HTY.out.mono ?_
    rintro e w3 ⟨rfl, hb⟩
    have HB3 := Lib.hid (HB2.out.trans (hb.mono HB2.out.size))
    have HX3 := Lib.hid (HX2.out.below hb HX2.out.lt)
    have HT3 := Lib.hid (HT2.out.grow hb)
    clear hb HTY HX2 HB2 HT2
    cases k with
    | false =>
      go_wp2_with fail
      go_ret
      exact ⟨rfl, HB3.out⟩
    | true =>
      have HOK : Hid (t.dep ≤ 40 ∧ t.ok = true) := Lib.hid (by
        have h := HK2.out
        unfold TT.okT at h
        simp only [Bool.and_eq_true, decide_eq_true_eq] at h
        exact h)
      have HD := Lib.hid (Depth_ok t w3.heap.size w3 HT3.out (Nat.le_refl _))
      obtain ⟨d0, hd0⟩ : ∃ d0, t.dep = d0 := ⟨_, rfl⟩
      rw [hd0] at HOK
      rw [hd0, show min d0 41 = d0 by have := HOK.out.1; omega] at HD
      have hd40 := HOK.out.1
      have HD0 := Lib.hid hd0
      clear hd0 HK2
      go_wp2_with (refine wpList_load_mid rfl 33 (.tmp 2) rfl w.heap.size 0 rfl t.cells _ HX3.out.range Tryz.underlying33 rfl (by rw [info_T, HONE.out.1]) ?_)
      refine HD.out.mono ?_
      rintro e w4 ⟨rfl, hb⟩
      have HB4 := Lib.hid (HB3.out.trans (hb.mono HB3.out.size))
      have HX4 := Lib.hid (HX3.out.below hb HX3.out.lt)
      clear hb HD HX3 HB3 HT3
      go_wp2_with fail
      go_loopw [6, 7] (fun dv iv wr => RelDp w t m d0 dv iv wr) (fun _ iv _ => m - (Lib.intOf iv).toNat)
      case atStart => exact ⟨0, t, Nat.zero_le _, rfl, rfl, HD0.out, HOK.out.2, .base, HX4.out, HB4.out⟩
      case round =>
        obtain ⟨i, T, hi, rfl, rfl, hdep, hok, hup, hbx, hbel⟩ := hrel
        by_cases hlt : i < m
        · have q1 : decide ((i : Int) < (m : Int)) = true := decide_eq_true (by omega)
          have q1n : decide (i < m) = true := decide_eq_true hlt
          have HIN := Lib.hid (hup.in (HT.out.grow hbel))
          have HTone := Lib.hid (one_tcells HIN.out)
          have HXr := Lib.hid hbx
          have HXn := Lib.hid (hbx.alloc (.cells T.cells.toArray 33))
          have HBn := Lib.hid (hbel.alloc hbel.size (.cells T.cells.toArray 33))
          have HUP := Lib.hid hup
          have HDP := Lib.hid (show (upT wr.heap.size T).dep = d0 + (i + 1) by rw [upT_dep, hdep]; omega)
          have HOKT := Lib.hid (upT_ok wr.heap.size T hok)
          have hsz := hbx.lt
          have HONE2 := Lib.hid (show (upT wr.heap.size T).cells.length = 15 ∧ ∀ v ∈ (upT wr.heap.size T).cells, v.oneCell' = true from ⟨rfl, by
            intro v hv
            simp only [upT, c0T, noS, noP, TT.cells, CT.cells, SL.v, PL.v, List.cons_append, List.nil_append, List.mem_cons, List.not_mem_nil, or_false] at hv
            rcases hv with rfl | rfl | rfl | rfl | rfl | rfl | rfl | rfl | rfl | rfl | rfl | rfl | rfl | rfl | rfl <;> rfl⟩)
          have q2 : IntKind.i64.wrap (((d0 : Int) + (i : Int)) + 1) = ((d0 + (i + 1) : Nat) : Int) := (wrap_ok (x := ((d0 : Int) + (i : Int)) + 1) (by unfold I64; omega)).trans (by omega)
          have q3 : IntKind.i64.wrap ((i : Int) + 1) = ((i + 1 : Nat) : Int) := wrap_succ hlt (by omega)
          have hfold := fold_cells HIN.out
          have hl15 := HTone.out.1
          obtain ⟨d1, hd1⟩ : ∃ d1, d0 + (i + 1) = d1 := ⟨_, rfl⟩
          rw [hd1] at q2 HDP
          have hd1b : d1 ≤ 104 := by omega
          have HDD := Lib.hid hd1
          clear hdep hok hup hbx hbel hd1
          go_wp2_with (first | (refine wpList_load_mid rfl 33 (.tmp 2) rfl w.heap.size 0 rfl T.cells _ HXr.out.range Tryz.underlying33 rfl (by rw [info_T, HTone.out.1]) ?_) | (refine wpList_store_bx rfl 33 (.tmp 2) (.tmp 28) rfl 15 w.heap.size _ (upT wr.heap.size T).cells HXn.out HONE2.out.1 (by simp [HTone.out.1]) info_T HONE2.out.2 rfl rfl ?_; intro w2 hs2 hx2 hb2 ho2; have HX2 := Lib.hid hx2; have HO2 := Lib.hid ho2; have HS2 := Lib.hid hs2; have HB2 := Lib.hid hb2; clear hx2 ho2 hs2 hb2 hfold hl15) | (refine wpList_load_mid rfl 33 (.tmp 2) rfl w.heap.size 0 rfl (upT wr.heap.size T).cells _ HX2.out.range Tryz.underlying33 rfl (by rw [info_T, HONE2.out.1]) ?_))
          have hbel2 : Below w.heap.size w w2 := HBn.out.trans HB2.out
          have hup2 := (up_round HUP.out hsz HO2.out (Below.refl _ w2)).1
          have HIN2 := Lib.hid (hup2.in (HT.out.grow hbel2))
          have HTY2 := Lib.hid (Type_ok (upT wr.heap.size T) w2.heap.size w2 (HGS.out.below hbel2) HIN2.out (Nat.le_refl _))
          have HBE2 := Lib.hid hbel2
          obtain ⟨b, hbb⟩ : ∃ b, decide (d1 ≤ 40) = b := ⟨_, rfl⟩
          rw [show (upT wr.heap.size T).okT = b by unfold TT.okT; rw [HDP.out, HOKT.out, Bool.and_true]; exact hbb] at HTY2
          have q4 : decide ((d1 : Int) ≤ 40) = b := by rw [← hbb]; exact decide_eq_decide.2 (by omega)
          have q5 : (b != b) = false := by simp
          obtain ⟨z, hz⟩ : ∃ z, min d1 41 = z := ⟨_, rfl⟩
          have q6 : min (d1 : Int) 41 = (z : Int) := by omega
          have q7 : ((z : Int) != (z : Int)) = false := by simp
          have HZ := Lib.hid hz
          clear hbel2 hup2 hbb hz
          refine HTY2.out.mono ?_
          rintro e w5 ⟨rfl, hb⟩
          have HB5 := Lib.hid (HBE2.out.trans (hb.mono HBE2.out.size))
          have HX5 := Lib.hid (HX2.out.below hb HX2.out.lt)
          have HIN5 := Lib.hid (HIN2.out.grow hb)
          have HUP5 := Lib.hid (up_round HUP.out hsz HO2.out hb).2
          have HD5 := Lib.hid (Depth_ok (upT wr.heap.size T) w5.heap.size w5 HIN5.out (Nat.le_refl _))
          rw [HDP.out, HZ.out] at HD5
          clear hb HTY2 HX2 HBE2 HIN2
          go_wp2_with (refine wpList_load_midG (by rfl) 33 (.tmp 2) rfl w.heap.size 0 rfl (upT wr.heap.size T).cells _ HX5.out.range Tryz.underlying33 rfl (by rw [info_T, HONE2.out.1]) ?_)
          refine HD5.out.mono ?_
          rintro e w6 ⟨rfl, hb⟩
          have HB6 := Lib.hid (HB5.out.trans (hb.mono HB5.out.size))
          have HX6 := Lib.hid (HX5.out.below hb HX5.out.lt)
          have HUP6 := Lib.hid (HUP5.out.mono (fun g cs _ hx => hx.below hb hx.lt))
          clear hb HD5 HX5 HB5 HIN5 HUP5
          go_wp2_with fail
          go_roundw
          case rel => exact ⟨i + 1, upT wr.heap.size T, hlt, rfl, by rw [HDD.out], HDP.out.trans HDD.out.symm, HOKT.out, HUP6.out, HX6.out, HB6.out⟩
          case measure => simp only [Lib.intOf]; omega
        · have q1 : decide ((i : Int) < (m : Int)) = false := decide_eq_false (by omega)
          have q1n : decide (i < m) = false := decide_eq_false hlt
          have HBe := Lib.hid hbel
          clear hdep hok hup hbx hbel
          go_wp2_with fail
          go_ret
          exact ⟨rfl, HBe.out⟩

set_option maxRecDepth 100000 in
theorem lifted (os : Os) (started : os.Started) (H : Type) (enc : TypeId × Value → H) :
    ReturnsInHanded {} Tryz.checked os 8 .any (fun w args => (Rows.shapeDeepSpec.pre enc Tryz.prog Tryz.f8 [] false w args ∧ laidMetH Tryz.prog Rows.shapeDeepRow.laid w) ∧ sizedMet enc Tryz.prog Tryz.f8 (OpenSpec.ofChange Rows.shapeDeepSpec) false w args) (Rows.shapeDeepSpec.post enc Tryz.prog Tryz.f8 false true false false) := by
  refine handed_sized (C := Tryz.checked) (X := fun w _ => laidMetH Tryz.prog Rows.shapeDeepRow.laid w) (fun _ _ _ hh h => h.of_heap hh) own started (by kernel_rfl) Tryz.func8
    (ChangeSpec.witness_shaped (enc := enc) (C := Tryz.checked) (os := os) (X := fun w _ => laidMetH Tryz.prog Rows.shapeDeepRow.laid w) false (World.laidAll Tryz.prog os laidL) #[.agg #[.int .i64 0, .string ByteArray.empty, .int .i64 0, .int .i64 0, .int .i64 0, .bool false, .bool false, .slice none 0 0, .bool false, .string ByteArray.empty, .slice none 0 0, .slice none 0 0, .slice none 0 0, .slice none 0 0, .slice none 0 0], .int .i64 0] 8 (World.laidAll_os _ _ _)
      (World.shaped_of_ZipB (by kernel_rfl) (by kernel_rfl)) (by kernel_rfl) (by kernel_rfl) (by kernel_rfl) (laid_world os _)) ?_
  intro W base args ds gs before hval0 hW hsz0 hL hsh
  have hval : ∀ (j : Nat) t v, Tryz.f8.params[j]? = some t → args[j]? = some v → Value.okWide Tryz.prog W .any base t v := hval0
  have hgs : Gs W := gs_of hL hsh
  have hW' := hW
  obtain ⟨p, q, hA0, hV, rfl, hfz, hnd⟩ := hW
  have hA : DataW.TrodAll enc Tryz.prog W 0 (fun _ => true) true Tryz.f8.params.toList args.toList ds p := hA0
  rw [Tryz.params8] at hA hval
  obtain ⟨v0, vs0, d0, ds0, p0, q0, hargs, rfl, rfl, h0, r0⟩ := trodAll_cons hA
  obtain ⟨v1, vs1, d1, ds1, p1, q1, rfl, rfl, rfl, h1, r1⟩ := trodAll_cons r0
  obtain ⟨rfl, rfl, rfl⟩ := trodAll_nil r1
  obtain rfl : args = #[v0, v1] := by cases args; simp_all
  obtain ⟨rfl, rfl⟩ := trodVars_none hV
  obtain ⟨cs0, rfl, _⟩ := okWide_struct Tryz.underlying33 (hval 0 33 v0 rfl rfl)
  have k0 := h0
  have lt0 : ∀ x ∈ p0, x.block < W.heap.size := by obtain ⟨m, hm⟩ := k0; exact DataW.trod_lt m _ _ _ hm
  have li0 : Light 33 d0 := light_each hsz0 0 _ _ rfl rfl
  obtain ⟨fuel0, hf0⟩ := h0
  obtain ⟨x0, hc0, hx0⟩ := open_type (W := W) fuel0 (cs := cs0.toList) hf0 li0
  obtain rfl : cs0 = x0.cells.toArray := by rw [← hc0]
  obtain ⟨a1, rfl, rfl, rfl, w1⟩ := open_int Tryz.underlying3 (hval 1 3 v1 rfl rfl) h1
  clear hA0 hval0
  refine (walk W hgs x0 hx0 a1 w1).mono fun e W' ⟨he, bel⟩ => ?_
  subst he
  exact ⟨_, rfl, _, _, _, [], _, [], hW', trodAll_mk1 (shut_bool Tryz.underlying4 _), (trodAll_cons_mk (Below.trod laidOut (by kernel_rfl) (of_decide_eq_true (by kernel_rfl)) k0 bel lt0) (trodAll_cons_mk (shut_int Tryz.underlying3 w1) trodAll_mk0)), rfl, bel.frame _, fun h => by cases h⟩

theorem over : Rows.shapeDeepRow.holds Tryz.pinned (OpenSpec.ofChange Rows.shapeDeepSpec) :=
  OpenClaim.holds_of_wide 8 Tryz.f8 rfl rfl rfl rfl rfl rfl rfl ⟨rfl, rfl, rfl, rfl, rfl⟩ rfl rfl rfl rfl rfl (by kernel_rfl) Tryz.func8 (by kernel_rfl)
    (of_decide_eq_true (by kernel_rfl)) (by unfold Func.isWrapper; first | (rw [if_pos (by decide +kernel)]; kernel_rfl) | (rw [if_neg (by decide +kernel)]; exact ⟨rfl, rfl⟩))
    (fun os started H enc _ => lifted os started H enc)

theorem proved : Rows.ShapeDeepCardSaid :=
  Claim7.holds_tied_plain_at .later [] [.data, .data, .data, .data, .sentinel, .sentinel, .data, .pinned] true (true, "a7b64ff5a9ab2b5df8d7e99cc6e65fce216891dfd9a29e65d278c9dbd4cb77be") true
    over (fun _ h => by cases h) (by kernel_rfl) (fun _ h => by cases h) shapeDeep_row_tie rfl ⟨rfl, rfl⟩ (by kernel_rfl) rfl
    (fun f fn hf hfn => by
      obtain rfl : f = 8 := Option.some.inj ((show Tryz.prog.funcNamed Rows.shapeDeepRow.func = some 8 by kernel_rfl).symm.trans hf) |>.symm
      obtain rfl : fn = Tryz.f8 := (Option.some.inj (Tryz.func8.symm.trans hfn)).symm
      exact ⟨by kernel_rfl, fun j t ht => by
        rw [Tryz.params8] at ht
        have hm : t ∈ [33, 3] := by simpa using Array.mem_of_getElem? ht
        have hall : ([33, 3].all fun u => !Tryz.prog.wantsStandIn u) = true := by kernel_rfl
        exact (show Tryz.prog.wantsStandIn t = false by simpa using List.all_eq_true.1 hall t hm)⟩)
    (by kernel_rfl)
end Go.Proofs.YtfkkfikaededjaaGreatDoor.shapeDeep
