/-
  Proved: the statement ShapeModules (any module's text) in its second form, as a tied card: for every input whose bulk (values and letters, each time they are reached) is at most 1048576; the listed variables of the library and of the package (tables, two errors) are as the program's text lays them; it speaks of the pruned copy of the project (its packages that the laws load).
-/
import Derived.Test.YtgmnojnalkhepaaGreatDoorRows
import Derived.Test.YtgmnojnalkhepaaGreatDoorCards
import Derived.Test.YtgmnojnalkhepaaGreatDoorTie
import Derived.Test.YtgmnojnalkhepaaGreatDoorJU
import Derived.Test.YtgmnojnalkhepaaGreatDoorKL
import Derived.Test.YtgmnojnalkhepaaGreatDoorKG
import Derived.Test.YtgmnojnalkhepaaGreatDoorKM
import Derived.Test.YtgmnojnalkhepaaGreatDoorKH
import Derived.Test.YtgmnojnalkhepaaGreatDoorJL
import Derived.Test.YtgmnojnalkhepaaGreatDoorJW
import Derived.Test.YtgmnojnalkhepaaGreatDoorJF
import Derived.Test.YtgmnojnalkhepaaGreatDoorJT
import Derived.ProofKit
import Derived.OpenShut
import Derived.ShutString
import Derived.ChangeOld
import Derived.LaidMore
import Derived.SevenTiedAt
import Derived.BigQuiet
import Derived.Deep.DeepHandedRow
namespace Go.Proofs.YtgmnojnalkhepaaGreatDoor.shapeModules
open Go.ChangeShapes Go.WideShapes Go.ChangeAt Go.RowKit Go.BigFrame
open Go.ChangeMaps (open_string shut_string)
set_option linter.unusedVariables false
set_option linter.unusedSimpArgs false
set_option maxRecDepth 100000

set_option maxHeartbeats 16000000 in
theorem walk (w : World) (hgs : Gs w) (m : MT) (ht : MIn w.heap.size w m) (hkw : m.wt ≤ 1048576) (s : ByteArray) (hs : s.size ≤ maxLen) (hks : s.size ≤ 1048576) :
    Calls Tryz.prog 3 #[.agg m.cells.toArray, .string s] w fun e w' => e = .returned (.bool true) ∧ Below w.heap.size w w' := by
  have HX0 := Lib.hid (Bx.new w m.cells.toArray 25)
  have HB0 := Lib.hid ((Below.refl w.heap.size w).alloc (Nat.le_refl _) (.cells m.cells.toArray 25))
  have HGS := Lib.hid hgs
  have HT := Lib.hid ht
  have HKW := Lib.hid hkw
  have HA := Lib.hid (awake_ok _ (hgs.below HB0.out))
  have HFM := Lib.hid (fun (W : World) (hb : Below w.heap.size w W) => fewM_ok m W ((ht.below hb (Nat.le_refl _)).below (Below.refl _ W) hb.size))
  clear hgs ht hkw hs hks
  obtain ⟨cs, hcs⟩ : ∃ cs, m.cells = cs := ⟨_, rfl⟩
  have HLEN := Lib.hid (show cs.length = 4 by rw [← hcs]; rfl)
  have HCS := Lib.hid hcs
  rw [hcs] at HX0 HB0 HA HFM ⊢
  clear hcs
  go_enter Tryz.func3, Tryz.ntmps3
  go_wp2_with fail
  refine HA.out.mono ?_
  rintro e w1 ⟨rfl, hb⟩
  have HB1 := Lib.hid (HB0.out.trans (hb.mono HB0.out.size))
  have HX1 := Lib.hid (HX0.out.below hb HX0.out.lt)
  clear hb HA HX0 HB0
  go_wp2_with (refine wpList_load_mid rfl 25 (.tmp 2) rfl w.heap.size 0 rfl cs _ HX1.out.range Tryz.underlying25 rfl (by rw [info_M, HLEN.out]) ?_)
  refine (HFM.out _ HB1.out).mono ?_
  rintro e w3 ⟨⟨fb, rfl⟩, hb⟩
  have HB3 := Lib.hid (HB1.out.trans (hb.mono HB1.out.size))
  have HX3 := Lib.hid (HX1.out.below hb HX1.out.lt)
  clear hb HFM HX1 HB1
  cases fb with
  | false =>
    go_wp2_with fail
    go_ret
    exact ⟨rfl, HB3.out⟩
  | true =>
    have hsz := HB3.out.size
    have HTI := Lib.hid (fun (W : World) (hb : Below w3.heap.size w3 W) => HT.out.below (HB3.out.trans (hb.mono hsz)) (Nat.le_refl _))
    have HTG := Lib.hid (fun (W : World) (hb : Below w3.heap.size w3 W) => (HTI.out W hb).below (Below.refl _ W) (Nat.le_trans hsz hb.size))
    have HGG := Lib.hid (fun (W : World) (hb : Below w3.heap.size w3 W) => HGS.out.below (HB3.out.trans (hb.mono hsz)))
    have HQ := Lib.hid (fun (hk : m.ok = true) => MT.ok_text m HT.out (by have := HKW.out; omega) hk)
    have HC1 := Lib.hid (fun (d : Nat) (os : Array Obj) => Calls.regrown_of (Module_ok m w.heap.size (Go.Sort.grow (redrawn w3 d) os) (HGG.out _ (below_regrown w3 d os)) (HTI.out _ (below_regrown w3 d os)) (Nat.le_trans hsz (below_regrown w3 d os).size)))
    have HC2 := Lib.hid (fun (d : Nat) (os : Array Obj) => Calls.regrown_of (rModule_ok m w.heap.size (Go.Sort.grow (redrawn w3 d) os) (HTI.out _ (below_regrown w3 d os)) (Nat.le_trans hsz (below_regrown w3 d os).size)))
    have HC3 := Lib.hid (fun (d : Nat) (os : Array Obj) => Calls.regrown_of (moduleText_ok m (Go.Sort.grow (redrawn w3 d) os) (HGG.out _ (below_regrown w3 d os)) (HTG.out _ (below_regrown w3 d os)) (fun hk => by have := (HQ.out hk).2; omega) (fun hk => (HQ.out hk).1)))
    have HC4 := Lib.hid (fun (d : Nat) (os : Array Obj) => Calls.regrown_of (rModuleText_ok m w.heap.size (Go.Sort.grow (redrawn w3 d) os) (HTI.out _ (below_regrown w3 d os)) (Nat.le_trans hsz (below_regrown w3 d os).size) (by have := HKW.out; omega)))
    have HC5 := Lib.hid (fun (d : Nat) (os : Array Obj) => Calls.regrown_of (keyword_below s (Go.Sort.grow (redrawn w3 d) os)))
    have HC6 := Lib.hid (fun (d : Nat) (os : Array Obj) => Calls.regrown_of (rkeyword_ok s (Go.Sort.grow (redrawn w3 d) os)))
    obtain ⟨k, hk⟩ : ∃ k, m.ok = k := ⟨_, rfl⟩
    obtain ⟨z, hz⟩ : ∃ z, kwd s = z := ⟨_, rfl⟩
    obtain ⟨X, hX⟩ : ∃ X, bs m.text = X := ⟨_, rfl⟩
    rw [hk] at HC1 HC2
    rw [hz] at HC5 HC6
    rw [hX] at HC3 HC4
    rw [HCS.out] at HC1 HC2 HC3 HC4
    have qk : (k == k) = true := by cases k <;> rfl
    have qz : (z == z) = true := by cases z <;> rfl
    have qx : (X.toList == X.toList) = true := by simp
    have HRT := Lib.hid (range_regrown HX3.out.range)
    clear hk hz hX HTI HTG HGG HQ HX3 HT HGS HKW
    go_wp2_with fail
    refine wp_region_quiet_below (by kernel_rfl) (by kernel_rfl) ?_
    go_big_quiet_step (fail)
    go_big_quiet_step (fail)
    (go_big_quiet_want; refine quiet_load_mid 25 (.tmp 2) rfl w.heap.size 0 rfl cs _ HRT.out Tryz.underlying25 rfl (by rw [info_M, HLEN.out]) ?_; simp only [put_mk, List.set_cons_succ, List.set_cons_zero]; go_big_quiet_on)
    go_big_quiet_step (exact HC1.out _ _)
    (go_big_quiet_want; refine quiet_load_mid 25 (.tmp 2) rfl w.heap.size 0 rfl cs _ HRT.out Tryz.underlying25 rfl (by rw [info_M, HLEN.out]) ?_; simp only [put_mk, List.set_cons_succ, List.set_cons_zero]; go_big_quiet_on)
    go_big_quiet_step (exact HC2.out _ _)
    go_big_quiet_step (fail)
    go_big_quiet_step (fail)
    go_big_quiet_step (fail)
    (go_big_quiet_want; refine quiet_load_mid 25 (.tmp 2) rfl w.heap.size 0 rfl cs _ HRT.out Tryz.underlying25 rfl (by rw [info_M, HLEN.out]) ?_; simp only [put_mk, List.set_cons_succ, List.set_cons_zero]; go_big_quiet_on)
    go_big_quiet_step (exact HC3.out _ _)
    (go_big_quiet_want; refine quiet_load_mid 25 (.tmp 2) rfl w.heap.size 0 rfl cs _ HRT.out Tryz.underlying25 rfl (by rw [info_M, HLEN.out]) ?_; simp only [put_mk, List.set_cons_succ, List.set_cons_zero]; go_big_quiet_on)
    go_big_quiet_step (exact HC4.out _ _)
    go_big_quiet_step (fail)
    go_big_quiet_step (fail)
    go_big_quiet_step (fail)
    go_big_quiet_step (fail)
    go_big_quiet_step (exact HC5.out _ _)
    go_big_quiet_step (fail)
    go_big_quiet_step (exact HC6.out _ _)
    go_big_quiet_step (fail)
    go_big_quiet_step (fail)
    go_big_quiet_step (fail)
    refine wpQuiet_nil ?_
    intro _ hw'
    obtain ⟨⟨dq, osq⟩, hw''⟩ := hw'
    subst hw''
    have hb2 := below_regrown w3 dq osq
    generalize Go.Sort.grow (redrawn w3 dq) osq = W2 at *
    have HB4 := Lib.hid (HB3.out.trans (hb2.mono hsz))
    go_wp2_with fail
    go_ret
    refine ⟨?_, HB4.out⟩
    first | rfl | simp

set_option maxRecDepth 100000 in
theorem lifted (os : Os) (started : os.Started) (H : Type) (enc : TypeId × Value → H) (F : Stop.Interp) :
    ReturnsInHanded {} Tryz.checked os 3 .any ((Rows.OpenSpec.upto Rows.shapeModulesSpec).preRow enc Tryz.prog Tryz.f3 Rows.shapeModulesUptoRow.domain false Rows.shapeModulesUptoRow.laid) (((Rows.OpenSpec.upto Rows.shapeModulesSpec).at F).post enc Tryz.prog Tryz.f3 false true false false) := by
  refine returnsInHanded_of_row (C := Tryz.checked) (s := Rows.OpenSpec.upto Rows.shapeModulesSpec) own started (by kernel_rfl) Tryz.func3
    (witness_rowZ (enc := enc) (C := Tryz.checked) false (World.laidAll Tryz.prog os laidL) #[.agg #[.string ByteArray.empty, .bool false, .slice none 0 0, .slice none 0 0], .string ByteArray.empty] (World.laidAll_os _ _ _)
      (World.shaped_of_ZipB (by kernel_rfl) (by kernel_rfl)) (by kernel_rfl)
      (OpenSpec.preRow_of_cond 8 (x := ([.agg [.lit (.string []), .lit (.bool false), .nil, .nil], .lit (.string [])], [], [])) (by kernel_rfl) (by kernel_rfl) (fun k hk => by cases hk; kernel_rfl) (by kernel_rfl) (laid_world os _))) ?_
  intro W base args ds gs before hval0 hW _ hcond hz hL hsh _
  have hsz0 : ∀ n ∈ _, n ≤ reachBytes := fun n hn => of_decide_eq_true (List.all_eq_true.1 hz n hn)
  have hk := hcond _ rfl
  have hval : ∀ (j : Nat) t v, Tryz.f3.params[j]? = some t → args[j]? = some v → Value.okWide Tryz.prog W .any base t v := hval0
  have hgs : Gs W := gs_of hL hsh
  have hW' := hW
  obtain ⟨p, q, hA0, hV, rfl, hfz, hnd⟩ := hW
  have hA : DataW.TrodAll enc Tryz.prog W 0 (fun _ => true) true Tryz.f3.params.toList args.toList ds p := hA0
  rw [Tryz.params3] at hA hval
  obtain ⟨v0, vs0, d0, ds0, p0, q0, hargs, rfl, rfl, h0, r0⟩ := trodAll_cons hA
  obtain ⟨v1, vs1, d1, ds1, p1, q1, rfl, rfl, rfl, h1, r1⟩ := trodAll_cons r0
  obtain ⟨rfl, rfl, rfl⟩ := trodAll_nil r1
  obtain rfl : args = #[v0, v1] := by cases args; simp_all
  obtain ⟨rfl, rfl⟩ := trodVars_none hV
  have hb := of_decide_eq_true hk
  simp only [List.append_nil, List.cons_append, List.nil_append, Rows.uptoBulkAll] at hb
  obtain ⟨cs0, rfl, _⟩ := okWide_struct Tryz.underlying25 (hval 0 25 v0 rfl rfl)
  have k0 := h0
  have lt0 : ∀ x ∈ p0, x.block < W.heap.size := by obtain ⟨m, hm⟩ := k0; exact DataW.trod_lt m _ _ _ hm
  have li0 : Light 25 d0 := light_each hsz0 0 _ _ rfl rfl
  obtain ⟨fuel0, hf0⟩ := h0
  obtain ⟨x0, hc0, hx0, hu0⟩ := uopen_module (W := W) fuel0 (cs := cs0.toList) hf0 li0
  obtain rfl : cs0 = x0.cells.toArray := by rw [← hc0]
  have kk0 : x0.wt ≤ 1048576 := by simp only at hu0; omega
  obtain ⟨a1, rfl, e1, rfl, w1⟩ := open_string Tryz.underlying9 (hval 1 9 v1 rfl rfl) h1
  have kk1 : a1.size ≤ 1048576 := by
    have h : Rows.uptoBulk d1 = a1.data.toList.length + 1 := by rw [e1]; simp only [Rows.uptoBulk]
    have h2 : a1.data.toList.length = a1.size := by exact Array.length_toList
    omega
  subst e1
  clear hA0 hval0 hb hk hcond hz
  refine (walk W hgs x0 hx0 kk0 a1 w1 kk1).mono fun e W' ⟨he, bel⟩ => ?_
  subst he
  exact ⟨_, rfl, _, _, _, [], _, [], hW', trodAll_mk1 (shut_bool Tryz.underlying4 _), (trodAll_cons_mk (Below.trod laidOut (by kernel_rfl) (of_decide_eq_true (by kernel_rfl)) k0 bel lt0) (trodAll_cons_mk (shut_string Tryz.underlying9 w1) trodAll_mk0)), rfl, bel.frame _, fun h => by cases h⟩

theorem over : Rows.shapeModulesUptoRow.holds Tryz.pinned (Rows.OpenSpec.upto Rows.shapeModulesSpec) :=
  OpenClaim.holds_of_cond 3 Tryz.f3 rfl rfl rfl rfl rfl rfl rfl ⟨rfl, rfl, rfl, rfl, rfl⟩ rfl rfl rfl rfl rfl (by kernel_rfl) Tryz.func3 (by kernel_rfl)
    (of_decide_eq_true (by kernel_rfl)) (by unfold Func.isWrapper; first | (rw [if_pos (by decide +kernel)]; kernel_rfl) | (rw [if_neg (by decide +kernel)]; exact ⟨rfl, rfl⟩))
    (fun os started H enc _ F => by rw [OpenClaim.pre_eq_preRow]; exact lifted os started H enc F)

theorem proved : Rows.ShapeModulesUptoCardSaid :=
  Claim7.holds_tied_plain_at .later [] _ _ _ _
    over (fun _ h => by cases h) (by kernel_rfl) (fun _ h => by cases h) shapeModulesUpto_row_tie rfl ⟨rfl, rfl⟩ (by kernel_rfl) rfl
    (fun f fn hf hfn => by
      obtain rfl : f = 3 := Option.some.inj ((show Tryz.prog.funcNamed Rows.shapeModulesUptoRow.func = some 3 by kernel_rfl).symm.trans hf) |>.symm
      obtain rfl : fn = Tryz.f3 := (Option.some.inj (Tryz.func3.symm.trans hfn)).symm
      exact ⟨by kernel_rfl, fun j t ht => by
        rw [Tryz.params3] at ht
        have hm : t ∈ [25, 9] := by simpa using Array.mem_of_getElem? ht
        have hall : ([25, 9].all fun u => !Tryz.prog.wantsStandIn u) = true := by kernel_rfl
        exact (show Tryz.prog.wantsStandIn t = false by simpa using List.all_eq_true.1 hall t hm)⟩)
    (by kernel_rfl)
end Go.Proofs.YtgmnojnalkhepaaGreatDoor.shapeModules
