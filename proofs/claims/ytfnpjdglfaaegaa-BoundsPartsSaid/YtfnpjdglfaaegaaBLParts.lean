/-
  Proved: the statement BoundsParts (what two constraints let in together, both, and the one without the other, is what each lets in, together, in both, without), for every input; no further condition.
-/
import Derived.Test.YtfnpjdglfaaegaaRows
import Derived.Test.YtfnpjdglfaaegaaBdX
import Derived.ProofKit
import Derived.OpenShut
import Derived.ShutString
import Derived.ChangeOld
namespace Go.Proofs.Ytfnpjdglfaaegaa.boundsParts
open Go.ChangeShapes Go.WideShapes Go.ChangeAt Go.RowKit
open Go.ChangeMaps (open_string shut_string)
set_option linter.unusedVariables false
set_option linter.unusedSimpArgs false
set_option maxRecDepth 100000

theorem own : ownKnob Try.prog.godebug = none := by kernel_rfl
theorem laidOut : laidOutB Try.prog = true := by kernel_rfl

set_option maxHeartbeats 16000000 in
theorem walk (w : World) (x0 : CT) (hx0 : CIn w.heap.size w x0) (x1 : CT) (hx1 : CIn w.heap.size w x1) (a2 : Option Addr) (len2 cap2 : Nat) (w2 : ∃ l, RSl w (.slice a2 len2 cap2) l ∧ l.length = len2 ∧ len2 ≤ maxLen) :
    Calls Try.prog 6 #[.agg x0.cells.toArray, .agg x1.cells.toArray, .slice a2 len2 cap2] w fun e w' => e = .returned (.bool true) ∧ Below w.heap.size w w' := by
  obtain ⟨P, hP, hn1, hm1⟩ := w2
  obtain ⟨c, hc⟩ : ∃ c, x0 = c := ⟨_, rfl⟩
  obtain ⟨d, hd⟩ : ∃ d, x1 = d := ⟨_, rfl⟩
  have HCI := Lib.hid (show CIn w.heap.size w c from by rw [← hc]; exact hx0)
  have HDI := Lib.hid (show CIn w.heap.size w d from by rw [← hd]; exact hx1)
  obtain ⟨op, lo, hi, lw, hg, ca, cn, cc, cch, hop⟩ := hx0.open
  obtain ⟨opy, loy, hiy, lwy, hgy, cay, cny, ccy, cchy, hopy⟩ := hx1.open
  have HOP := Lib.hid (hc.symm.trans hop)
  have HOPy := Lib.hid (hd.symm.trans hopy)
  have hx := (Bx.new w #[.int .i64 op, .int .i64 lo, .int .i64 hi, .bool lw, .bool hg, .slice ca cn cc] 24).alloc (.cells #[.int .i64 opy, .int .i64 loy, .int .i64 hiy, .bool lwy, .bool hgy, .slice cay cny ccy] 24)
  have hy := Bx.new (w.alloc (.cells #[.int .i64 op, .int .i64 lo, .int .i64 hi, .bool lw, .bool hg, .slice ca cn cc] 24)) #[.int .i64 opy, .int .i64 loy, .int .i64 hiy, .bool lwy, .bool hgy, .slice cay cny ccy] 24
  have hsz : (w.alloc (.cells #[.int .i64 op, .int .i64 lo, .int .i64 hi, .bool lw, .bool hg, .slice ca cn cc] 24)).heap.size = w.heap.size + 1 := by simp
  rw [hsz] at hy
  have HX := Lib.hid hx
  have HXy := Lib.hid hy
  have HB := Lib.hid (((Below.refl w.heap.size w).alloc (Nat.le_refl _) (.cells #[.int .i64 op, .int .i64 lo, .int .i64 hi, .bool lw, .bool hg, .slice ca cn cc] 24)).alloc (by simp) (.cells #[.int .i64 opy, .int .i64 loy, .int .i64 hiy, .bool lwy, .bool hgy, .slice cay cny ccy] 24))
  have HV := Lib.hid (hP.below HB.out)
  have HN := Lib.hid hn1
  rw [hop, hopy]
  simp only [CT.cells]
  clear hP hn1 hm1 hx0 hx1 hop hopy hc hd hx hy hsz
  go_enter Try.func6, Try.ntmps6
  go_wp2_with fail
  generalize (w.alloc (.cells #[.int .i64 op, .int .i64 lo, .int .i64 hi, .bool lw, .bool hg, .slice ca cn cc] 24)).alloc (.cells #[.int .i64 opy, .int .i64 loy, .int .i64 hiy, .bool lwy, .bool hgy, .slice cay cny ccy] 24) = W0 at *
  obtain ⟨g, hg0⟩ : ∃ g, w.heap.size = g := ⟨_, rfl⟩
  obtain ⟨gy, hg1⟩ : ∃ gy, g + 1 = gy := ⟨_, rfl⟩
  have HG := Lib.hid hg0
  rw [hg0] at HX HXy ⊢
  rw [hg1] at HXy ⊢
  clear hg0 hg1
  have HV_0 := HV
  have HX_0 := HX
  have HXy_0 := HXy
  have HB_0 := HB
  clear HV HX HXy HB
  refine (awake12_ok _).mono ?_
  rintro e wC1 ⟨rfl, h2⟩
  have HV_1 := Lib.hid (HV_0.out.below h2)
  have HX_1 := Lib.hid (HX_0.out.below h2 HX_0.out.lt)
  have HXy_1 := Lib.hid (HXy_0.out.below h2 HXy_0.out.lt)
  have HB_1 := Lib.hid (HB_0.out.trans (h2.mono HB_0.out.size))
  clear h2 HV_0 HX_0 HXy_0 HB_0
  have hcx := FewCon_ok c w.heap.size 30 _ (HCI.out.below HB_1.out (Nat.le_refl _)) HB_1.out.size (by omega) (by omega)
  obtain ⟨b1, hb⟩ : ∃ b, decide (0 ≤ c.few 30) = b := ⟨_, rfl⟩
  have HBF1 := Lib.hid hb
  rw [hb, HOP.out] at hcx
  simp only [CT.cells] at hcx
  clear hb
  have k0 := HX_1.out.cell 0 rfl
  have k1 := HX_1.out.cell 1 rfl
  have k2 := HX_1.out.cell 2 rfl
  have k3 := HX_1.out.cell 3 rfl
  have k4 := HX_1.out.cell 4 rfl
  have k5 := HX_1.out.cell 5 rfl
  cases b1 with
  | false =>
    have HC := Lib.hid (hcx)
    go_wp2_with fail
    refine HC.out.mono ?_
    rintro e wC2 ⟨rfl, h2⟩
    have HV_2 := Lib.hid (HV_1.out.below h2)
    have HX_2 := Lib.hid (HX_1.out.below h2 HX_1.out.lt)
    have HXy_2 := Lib.hid (HXy_1.out.below h2 HXy_1.out.lt)
    have HB_2 := Lib.hid (HB_1.out.trans (h2.mono HB_1.out.size))
    clear h2 HC HV_1 HX_1 HXy_1 HB_1
    go_wp2_with fail
    go_ret
    exact ⟨rfl, by first | exact HB_2.out | (rw [← HG.out]; exact HB_2.out)⟩
  | true =>
  have HSZ1 := Lib.hid (CT.sz_le HBF1.out)
  have HC := Lib.hid (hcx)
  go_wp2_with fail
  refine HC.out.mono ?_
  rintro e wC2 ⟨rfl, h2⟩
  have HV_2 := Lib.hid (HV_1.out.below h2)
  have HX_2 := Lib.hid (HX_1.out.below h2 HX_1.out.lt)
  have HXy_2 := Lib.hid (HXy_1.out.below h2 HXy_1.out.lt)
  have HB_2 := Lib.hid (HB_1.out.trans (h2.mono HB_1.out.size))
  clear hcx k0 k1 k2 k3 k4 k5
  clear h2 HC HV_1 HX_1 HXy_1 HB_1
  have hcx := FewCon_ok d w.heap.size 30 _ (HDI.out.below HB_2.out (Nat.le_refl _)) HB_2.out.size (by omega) (by omega)
  obtain ⟨b2, hb⟩ : ∃ b, decide (0 ≤ d.few 30) = b := ⟨_, rfl⟩
  have HBF2 := Lib.hid hb
  rw [hb, HOPy.out] at hcx
  simp only [CT.cells] at hcx
  clear hb
  have j0 := HXy_2.out.cell 0 rfl
  have j1 := HXy_2.out.cell 1 rfl
  have j2 := HXy_2.out.cell 2 rfl
  have j3 := HXy_2.out.cell 3 rfl
  have j4 := HXy_2.out.cell 4 rfl
  have j5 := HXy_2.out.cell 5 rfl
  cases b2 with
  | false =>
    have HC := Lib.hid (hcx)
    go_wp2_with fail
    refine HC.out.mono ?_
    rintro e wC3 ⟨rfl, h2⟩
    have HV_3 := Lib.hid (HV_2.out.below h2)
    have HX_3 := Lib.hid (HX_2.out.below h2 HX_2.out.lt)
    have HXy_3 := Lib.hid (HXy_2.out.below h2 HXy_2.out.lt)
    have HB_3 := Lib.hid (HB_2.out.trans (h2.mono HB_2.out.size))
    clear h2 HC HV_2 HX_2 HXy_2 HB_2
    go_wp2_with fail
    go_ret
    exact ⟨rfl, by first | exact HB_3.out | (rw [← HG.out]; exact HB_3.out)⟩
  | true =>
  have HSZ2 := Lib.hid (CT.sz_le HBF2.out)
  by_cases hl1 : 10 < len2
  · have q1 : decide ((10 : Int) < (len2 : Int)) = true := decide_eq_true (by omega)
    have qn1 : decide (10 < len2) = true := decide_eq_true hl1
    have HC := Lib.hid (hcx)
    go_wp2_with fail
    refine HC.out.mono ?_
    rintro e wC3 ⟨rfl, h2⟩
    have HV_3 := Lib.hid (HV_2.out.below h2)
    have HX_3 := Lib.hid (HX_2.out.below h2 HX_2.out.lt)
    have HXy_3 := Lib.hid (HXy_2.out.below h2 HXy_2.out.lt)
    have HB_3 := Lib.hid (HB_2.out.trans (h2.mono HB_2.out.size))
    clear h2 HC HV_2 HX_2 HXy_2 HB_2
    go_wp2_with fail
    go_ret
    exact ⟨rfl, by first | exact HB_3.out | (rw [← HG.out]; exact HB_3.out)⟩
  have q1 : decide ((10 : Int) < (len2 : Int)) = false := decide_eq_false (by omega)
  have qn1 : decide (10 < len2) = false := decide_eq_false hl1
  have HL := Lib.hid (show P.length ≤ 10 by have := HN.out; omega)
  clear hl1
  have HC := Lib.hid (hcx)
  go_wp2_with fail
  refine HC.out.mono ?_
  rintro e wC3 ⟨rfl, h2⟩
  have HV_3 := Lib.hid (HV_2.out.below h2)
  have HX_3 := Lib.hid (HX_2.out.below h2 HX_2.out.lt)
  have HXy_3 := Lib.hid (HXy_2.out.below h2 HXy_2.out.lt)
  have HB_3 := Lib.hid (HB_2.out.trans (h2.mono HB_2.out.size))
  clear hcx j0 j1 j2 j3 j4 j5
  clear h2 HC HV_2 HX_2 HXy_2 HB_2
  have hcx := Set_ok c w.heap.size _ _ P (HCI.out.below HB_3.out (Nat.le_refl _)) HB_3.out.size HV_3.out (by have := HSZ1.out; omega) (by have := HL.out; omega)
  rw [HOP.out] at hcx
  simp only [CT.v, CT.cells] at hcx
  rw [← HOP.out] at hcx
  have k0 := HX_3.out.cell 0 rfl
  have k1 := HX_3.out.cell 1 rfl
  have k2 := HX_3.out.cell 2 rfl
  have k3 := HX_3.out.cell 3 rfl
  have k4 := HX_3.out.cell 4 rfl
  have k5 := HX_3.out.cell 5 rfl
  have HC := Lib.hid (hcx)
  go_wp2_with fail
  refine HC.out.mono ?_
  rintro e wC4 ⟨vx, rx, rfl, h1, h2⟩
  have HV_4 := Lib.hid (HV_3.out.below h2)
  have HX_4 := Lib.hid (HX_3.out.below h2 HX_3.out.lt)
  have HXy_4 := Lib.hid (HXy_3.out.below h2 HXy_3.out.lt)
  have HB_4 := Lib.hid (HB_3.out.trans (h2.mono HB_3.out.size))
  have HSx := Lib.hid h1.2
  obtain ⟨sx, cx, rfl⟩ := h1.1.shape
  have HVx_4 := Lib.hid h1.1
  clear hcx h1 k0 k1 k2 k3 k4 k5
  clear h2 HC HV_3 HX_3 HXy_3 HB_3
  have hcx := Set_ok d w.heap.size _ _ P (HDI.out.below HB_4.out (Nat.le_refl _)) HB_4.out.size HV_4.out (by have := HSZ2.out; omega) (by have := HL.out; omega)
  rw [HOPy.out] at hcx
  simp only [CT.v, CT.cells] at hcx
  rw [← HOPy.out] at hcx
  have j0 := HXy_4.out.cell 0 rfl
  have j1 := HXy_4.out.cell 1 rfl
  have j2 := HXy_4.out.cell 2 rfl
  have j3 := HXy_4.out.cell 3 rfl
  have j4 := HXy_4.out.cell 4 rfl
  have j5 := HXy_4.out.cell 5 rfl
  have HC := Lib.hid (hcx)
  go_wp2_with fail
  refine HC.out.mono ?_
  rintro e wC5 ⟨vy, ry, rfl, h1, h2⟩
  have HV_5 := Lib.hid (HV_4.out.below h2)
  have HVx_5 := Lib.hid (HVx_4.out.below h2)
  have HX_5 := Lib.hid (HX_4.out.below h2 HX_4.out.lt)
  have HXy_5 := Lib.hid (HXy_4.out.below h2 HXy_4.out.lt)
  have HB_5 := Lib.hid (HB_4.out.trans (h2.mono HB_4.out.size))
  have HSy := Lib.hid h1.2
  obtain ⟨sy, cy, rfl⟩ := h1.1.shape
  have HVy_5 := Lib.hid h1.1
  clear hcx h1 j0 j1 j2 j3 j4 j5
  clear h2 HC HV_4 HVx_4 HX_4 HXy_4 HB_4
  have HAL := Lib.hid (lit_below wC5 (.cells #[.int .i64 op, .int .i64 lo, .int .i64 hi, .bool lw, .bool hg, .slice ca cn cc, .int .i64 opy, .int .i64 loy, .int .i64 hiy, .bool lwy, .bool hgy, .slice cay cny ccy] 24))
  have hxl := Bx.new wC5 #[.int .i64 op, .int .i64 lo, .int .i64 hi, .bool lw, .bool hg, .slice ca cn cc, .int .i64 opy, .int .i64 loy, .int .i64 hiy, .bool lwy, .bool hgy, .slice cay cny ccy] 24
  obtain ⟨gl, hgl⟩ : ∃ gl, wC5.heap.size = gl := ⟨_, rfl⟩
  have HGL := Lib.hid hgl
  have hlit : (c.cells ++ d.cells).toArray = #[.int .i64 op, .int .i64 lo, .int .i64 hi, .bool lw, .bool hg, .slice ca cn cc, .int .i64 opy, .int .i64 loy, .int .i64 hiy, .bool lwy, .bool hgy, .slice cay cny ccy] := by rw [HOP.out, HOPy.out]; rfl
  have HV_6 := Lib.hid (HV_5.out.below HAL.out)
  have HVx_6 := Lib.hid (HVx_5.out.below HAL.out)
  have HVy_6 := Lib.hid (HVy_5.out.below HAL.out)
  have HB_6 := Lib.hid (HB_5.out.trans (HAL.out.mono HB_5.out.size))
  rw [← hlit] at hxl
  rw [hgl] at hxl
  obtain ⟨W6, hW6⟩ : ∃ W, wC5.alloc (.cells #[.int .i64 op, .int .i64 lo, .int .i64 hi, .bool lw, .bool hg, .slice ca cn cc, .int .i64 opy, .int .i64 loy, .int .i64 hiy, .bool lwy, .bool hgy, .slice cay cny ccy] 24) = W := ⟨_, rfl⟩
  have HW6 := Lib.hid hW6
  rw [hlit, hW6] at hxl
  rw [← hlit] at hxl
  rw [hW6] at HB_6 HV_6 HVx_6 HVy_6
  have HXL_6 := Lib.hid hxl
  have k0 := HX_5.out.cell 0 rfl
  have k1 := HX_5.out.cell 1 rfl
  have k2 := HX_5.out.cell 2 rfl
  have k3 := HX_5.out.cell 3 rfl
  have k4 := HX_5.out.cell 4 rfl
  have k5 := HX_5.out.cell 5 rfl
  have j0 := HXy_5.out.cell 0 rfl
  have j1 := HXy_5.out.cell 1 rfl
  have j2 := HXy_5.out.cell 2 rfl
  have j3 := HXy_5.out.cell 3 rfl
  have j4 := HXy_5.out.cell 4 rfl
  have j5 := HXy_5.out.cell 5 rfl
  clear hxl hlit hgl hW6 HAL HV_5 HVx_5 HVy_5 HB_5
  go_upto_region 7 with fail
  change Code.wp _ _ _ _ (wC5.alloc _)
  rw [HW6.out, HGL.out]
  clear HX_5 HXy_5 k0 k1 k2 k3 k4 k5 j0 j1 j2 j3 j4 j5
  have HTW := Lib.hid (fun (x : Int) (op : Int) => adm_two op gl c d x (by have := HSZ1.out; omega) (by have := HSZ2.out; omega) 40 rfl)
  have hcx := Set_ok (CT.mk 2 0 0 false false (some ⟨gl, 0, none⟩) 2 2 (fun i => if i = 0 then c else d)) _ _ _ P (⟨⟨by unfold I64; omega, by unfold I64; omega, by unfold I64; omega⟩, lin_two ((HCI.out.below HB_6.out (Nat.le_refl _)).below (Below.refl _ _) HB_6.out.size) ((HDI.out.below HB_6.out (Nat.le_refl _)).below (Below.refl _ _) HB_6.out.size) HXL_6.out HXL_6.out.lt⟩) (Nat.le_refl _) HV_6.out (by rw [two_sz]; have := HSZ1.out; have := HSZ2.out; omega) (by have := HL.out; omega)
  simp only [CT.v, CT.cells] at hcx
  have HC := Lib.hid (hcx)
  go_wp2_with fail
  refine HC.out.mono ?_
  rintro e wC7 ⟨vu, ru, rfl, h1, h2⟩
  have HV_7 := Lib.hid (HV_6.out.below h2)
  have HVx_7 := Lib.hid (HVx_6.out.below h2)
  have HVy_7 := Lib.hid (HVy_6.out.below h2)
  have HXL_7 := Lib.hid (HXL_6.out.below h2 HXL_6.out.lt)
  have HB_7 := Lib.hid (HB_6.out.trans (h2.mono HB_6.out.size))
  have HU_7 := Lib.hid h1
  clear hcx h1
  clear h2 HC HV_6 HVx_6 HVy_6 HXL_6 HB_6
  have HC := Lib.hid (Union_ok _ _ _ rx ry HVx_7.out HVy_7.out (by have := HSx.out.2; omega) (by have := HSy.out.2; omega))
  go_wp2_with fail
  refine HC.out.mono ?_
  rintro e wC8 ⟨vz, rz, rfl, h1, h2⟩
  have HV_8 := Lib.hid (HV_7.out.below h2)
  have HVx_8 := Lib.hid (HVx_7.out.below h2)
  have HVy_8 := Lib.hid (HVy_7.out.below h2)
  have HXL_8 := Lib.hid (HXL_7.out.below h2 HXL_7.out.lt)
  have HB_8 := Lib.hid (HB_7.out.trans (h2.mono HB_7.out.size))
  have HU_8 := Lib.hid (HU_7.out.below h2)
  have HZ_8 := Lib.hid h1
  clear h1 HU_7
  clear h2 HC HV_7 HVx_7 HVy_7 HXL_7 HB_7
  have HC := Lib.hid (same_ans _ _ _ _ _ _ _ _ _ HU_8.out HZ_8.out (by omega) (fun n hn => by rw [HSx.out.1.2.2 n hn, HSy.out.1.2.2 n hn, (HTW.out n 2).1 rfl]; simp only [← and_or_left]))
  go_wp2_with fail
  refine HC.out.mono ?_
  rintro e wC9 ⟨rfl, h2⟩
  have HV_9 := Lib.hid (HV_8.out.below h2)
  have HVx_9 := Lib.hid (HVx_8.out.below h2)
  have HVy_9 := Lib.hid (HVy_8.out.below h2)
  have HXL_9 := Lib.hid (HXL_8.out.below h2 HXL_8.out.lt)
  have HB_9 := Lib.hid (HB_8.out.trans (h2.mono HB_8.out.size))
  clear HU_8 HZ_8
  clear h2 HC HV_8 HVx_8 HVy_8 HXL_8 HB_8
  have hcx := Set_ok (CT.mk 3 0 0 false false (some ⟨gl, 0, none⟩) 2 2 (fun i => if i = 0 then c else d)) _ _ _ P (⟨⟨by unfold I64; omega, by unfold I64; omega, by unfold I64; omega⟩, lin_two ((HCI.out.below HB_9.out (Nat.le_refl _)).below (Below.refl _ _) HB_9.out.size) ((HDI.out.below HB_9.out (Nat.le_refl _)).below (Below.refl _ _) HB_9.out.size) HXL_9.out HXL_9.out.lt⟩) (Nat.le_refl _) HV_9.out (by rw [two_sz]; have := HSZ1.out; have := HSZ2.out; omega) (by have := HL.out; omega)
  simp only [CT.v, CT.cells] at hcx
  have HC := Lib.hid (hcx)
  go_wp2_with fail
  refine HC.out.mono ?_
  rintro e wC10 ⟨vu, ru, rfl, h1, h2⟩
  have HV_10 := Lib.hid (HV_9.out.below h2)
  have HVx_10 := Lib.hid (HVx_9.out.below h2)
  have HVy_10 := Lib.hid (HVy_9.out.below h2)
  have HXL_10 := Lib.hid (HXL_9.out.below h2 HXL_9.out.lt)
  have HB_10 := Lib.hid (HB_9.out.trans (h2.mono HB_9.out.size))
  have HU_10 := Lib.hid h1
  clear hcx h1
  clear h2 HC HV_9 HVx_9 HVy_9 HXL_9 HB_9
  have HC := Lib.hid (Meet_ok _ _ _ rx ry HVx_10.out HVy_10.out (by have := HSx.out.2; omega) (by have := HSy.out.2; omega))
  go_wp2_with fail
  refine HC.out.mono ?_
  rintro e wC11 ⟨vz, rz, rfl, h1, h2⟩
  have HV_11 := Lib.hid (HV_10.out.below h2)
  have HVx_11 := Lib.hid (HVx_10.out.below h2)
  have HVy_11 := Lib.hid (HVy_10.out.below h2)
  have HXL_11 := Lib.hid (HXL_10.out.below h2 HXL_10.out.lt)
  have HB_11 := Lib.hid (HB_10.out.trans (h2.mono HB_10.out.size))
  have HU_11 := Lib.hid (HU_10.out.below h2)
  have HZ_11 := Lib.hid h1
  clear h1 HU_10
  clear h2 HC HV_10 HVx_10 HVy_10 HXL_10 HB_10
  have HC := Lib.hid (same_ans _ _ _ _ _ _ _ _ _ HU_11.out HZ_11.out (by omega) (fun n hn => by rw [HSx.out.1.2.2 n hn, HSy.out.1.2.2 n hn, (HTW.out n 3).2.1 rfl]; exact ⟨fun h => ⟨⟨h.1, h.2.1⟩, h.1, h.2.2⟩, fun h => ⟨h.1.1, h.1.2, h.2.2⟩⟩))
  go_wp2_with fail
  refine HC.out.mono ?_
  rintro e wC12 ⟨rfl, h2⟩
  have HV_12 := Lib.hid (HV_11.out.below h2)
  have HVx_12 := Lib.hid (HVx_11.out.below h2)
  have HVy_12 := Lib.hid (HVy_11.out.below h2)
  have HXL_12 := Lib.hid (HXL_11.out.below h2 HXL_11.out.lt)
  have HB_12 := Lib.hid (HB_11.out.trans (h2.mono HB_11.out.size))
  clear HU_11 HZ_11
  clear h2 HC HV_11 HVx_11 HVy_11 HXL_11 HB_11
  have hcx := Set_ok (CT.mk 4 0 0 false false (some ⟨gl, 0, none⟩) 2 2 (fun i => if i = 0 then c else d)) _ _ _ P (⟨⟨by unfold I64; omega, by unfold I64; omega, by unfold I64; omega⟩, lin_two ((HCI.out.below HB_12.out (Nat.le_refl _)).below (Below.refl _ _) HB_12.out.size) ((HDI.out.below HB_12.out (Nat.le_refl _)).below (Below.refl _ _) HB_12.out.size) HXL_12.out HXL_12.out.lt⟩) (Nat.le_refl _) HV_12.out (by rw [two_sz]; have := HSZ1.out; have := HSZ2.out; omega) (by have := HL.out; omega)
  simp only [CT.v, CT.cells] at hcx
  have HC := Lib.hid (hcx)
  go_wp2_with fail
  refine HC.out.mono ?_
  rintro e wC13 ⟨vu, ru, rfl, h1, h2⟩
  have HV_13 := Lib.hid (HV_12.out.below h2)
  have HVx_13 := Lib.hid (HVx_12.out.below h2)
  have HVy_13 := Lib.hid (HVy_12.out.below h2)
  have HXL_13 := Lib.hid (HXL_12.out.below h2 HXL_12.out.lt)
  have HB_13 := Lib.hid (HB_12.out.trans (h2.mono HB_12.out.size))
  have HU_13 := Lib.hid h1
  clear hcx h1
  clear h2 HC HV_12 HVx_12 HVy_12 HXL_12 HB_12
  have HC := Lib.hid (Minus_ok _ _ _ rx ry HVx_13.out HVy_13.out (by have := HSx.out.2; omega) (by have := HSy.out.2; omega))
  go_wp2_with fail
  refine HC.out.mono ?_
  rintro e wC14 ⟨vz, rz, rfl, h1, h2⟩
  have HV_14 := Lib.hid (HV_13.out.below h2)
  have HVx_14 := Lib.hid (HVx_13.out.below h2)
  have HVy_14 := Lib.hid (HVy_13.out.below h2)
  have HXL_14 := Lib.hid (HXL_13.out.below h2 HXL_13.out.lt)
  have HB_14 := Lib.hid (HB_13.out.trans (h2.mono HB_13.out.size))
  have HU_14 := Lib.hid (HU_13.out.below h2)
  have HZ_14 := Lib.hid h1
  clear h1 HU_13
  clear h2 HC HV_13 HVx_13 HVy_13 HXL_13 HB_13
  have HC := Lib.hid (same_ans _ _ _ _ _ _ _ _ _ HU_14.out HZ_14.out (by omega) (fun n hn => by rw [HSx.out.1.2.2 n hn, HSy.out.1.2.2 n hn, (HTW.out n 4).2.2 rfl]; exact ⟨fun h => ⟨⟨h.1, h.2.1⟩, fun h2 => h.2.2 h2.2⟩, fun h => ⟨h.1.1, h.1.2, fun h2 => h.2 ⟨h.1.1, h2⟩⟩⟩))
  go_wp2_with fail
  refine HC.out.mono ?_
  rintro e wC15 ⟨rfl, h2⟩
  have HV_15 := Lib.hid (HV_14.out.below h2)
  have HVx_15 := Lib.hid (HVx_14.out.below h2)
  have HVy_15 := Lib.hid (HVy_14.out.below h2)
  have HXL_15 := Lib.hid (HXL_14.out.below h2 HXL_14.out.lt)
  have HB_15 := Lib.hid (HB_14.out.trans (h2.mono HB_14.out.size))
  clear HU_14 HZ_14
  clear h2 HC HV_14 HVx_14 HVy_14 HXL_14 HB_14
  have HC := Lib.hid (Meet_ok _ _ _ rx P HVx_15.out HV_15.out (by have := HSx.out.2; omega) (by have := HL.out; omega))
  go_wp2_with fail
  refine HC.out.mono ?_
  rintro e wC16 ⟨vz, rz, rfl, h1, h2⟩
  have HV_16 := Lib.hid (HV_15.out.below h2)
  have HVx_16 := Lib.hid (HVx_15.out.below h2)
  have HVy_16 := Lib.hid (HVy_15.out.below h2)
  have HXL_16 := Lib.hid (HXL_15.out.below h2 HXL_15.out.lt)
  have HB_16 := Lib.hid (HB_15.out.trans (h2.mono HB_15.out.size))
  have HZ_16 := Lib.hid h1
  clear h1
  clear h2 HC HV_15 HVx_15 HVy_15 HXL_15 HB_15
  have HC := Lib.hid (same_ans _ _ _ _ _ _ _ _ _ HZ_16.out ⟨HVx_16.out, HSx.out⟩ (by have := HSx.out.2; have := HL.out; omega) (fun n hn => by rw [HSx.out.1.2.2 n hn]; exact ⟨fun h => h.1, fun h => ⟨h, h.1⟩⟩))
  go_wp2_with fail
  refine HC.out.mono ?_
  rintro e wC17 ⟨rfl, h2⟩
  have HV_17 := Lib.hid (HV_16.out.below h2)
  have HVx_17 := Lib.hid (HVx_16.out.below h2)
  have HVy_17 := Lib.hid (HVy_16.out.below h2)
  have HXL_17 := Lib.hid (HXL_16.out.below h2 HXL_16.out.lt)
  have HB_17 := Lib.hid (HB_16.out.trans (h2.mono HB_16.out.size))
  clear HZ_16
  clear h2 HC HV_16 HVx_16 HVy_16 HXL_16 HB_16
  go_wp2_with fail
  go_ret
  exact ⟨rfl, by first | exact HB_17.out | (rw [← HG.out]; exact HB_17.out)⟩

set_option maxRecDepth 100000 in
theorem lifted (os : Os) (started : os.Started) (H : Type) (enc : TypeId × Value → H) :
    ReturnsInHanded {} Try.checked os 6 .any (Rows.boundsPartsSpec.pre6 enc Try.prog Try.f6 Rows.boundsPartsRow.domain false) (Rows.boundsPartsSpec.post enc Try.prog Try.f6 false true false false) := by
  refine handed_light (C := Try.checked) own started (by kernel_rfl) Try.func6
    (ChangeSpec.witness6 (enc := enc) (C := Try.checked) false ⟨#[], #[.agg #[.int .i64 0, .int .i64 0, .int .i64 0, .bool false, .bool false, .slice none 0 0], .agg #[.int .i64 0, .int .i64 0, .int .i64 0, .bool false, .bool false, .slice none 0 0], .slice none 0 0], []⟩ 8 (by kernel_rfl) (by kernel_rfl) (by kernel_rfl) (by kernel_rfl)) ?_
  intro W base args ds gs before hval0 hW hsz0
  have hval : ∀ (j : Nat) t v, Try.f6.params[j]? = some t → args[j]? = some v → Value.okWide Try.prog W .any base t v := hval0
  have hW' := hW
  obtain ⟨p, q, hA0, hV, rfl, hfz, hnd⟩ := hW
  have hA : DataW.TrodAll enc Try.prog W 0 (fun _ => true) true Try.f6.params.toList args.toList ds p := hA0
  rw [Try.params6] at hA hval
  obtain ⟨v0, vs0, d0, ds0, p0, q0, hargs, rfl, rfl, h0, r0⟩ := trodAll_cons hA
  obtain ⟨v1, vs1, d1, ds1, p1, q1, rfl, rfl, rfl, h1, r1⟩ := trodAll_cons r0
  obtain ⟨v2, vs2, d2, ds2, p2, q2, rfl, rfl, rfl, h2, r2⟩ := trodAll_cons r1
  obtain ⟨rfl, rfl, rfl⟩ := trodAll_nil r2
  obtain rfl : args = #[v0, v1, v2] := by cases args; simp_all
  obtain ⟨rfl, rfl⟩ := trodVars_none hV
  obtain ⟨cs0, rfl, _⟩ := okWide_struct Try.underlying24 (hval 0 24 v0 rfl rfl)
  have k0 := h0
  have lt0 : ∀ x ∈ p0, x.block < W.heap.size := by obtain ⟨m, hm⟩ := k0; exact DataW.trod_lt m _ _ _ hm
  have li0 : Light 24 d0 := light_each hsz0 0 _ _ rfl rfl
  obtain ⟨fuel0, hf0⟩ := h0
  obtain ⟨x0, hc0, hx0⟩ := open_con (W := W) fuel0 (cs := cs0.toList) hf0 li0
  obtain rfl : cs0 = x0.cells.toArray := by rw [← hc0]
  obtain ⟨cs1, rfl, _⟩ := okWide_struct Try.underlying24 (hval 1 24 v1 rfl rfl)
  have k1 := h1
  have lt1 : ∀ x ∈ p1, x.block < W.heap.size := by obtain ⟨m, hm⟩ := k1; exact DataW.trod_lt m _ _ _ hm
  have li1 : Light 24 d1 := light_each hsz0 1 _ _ rfl rfl
  obtain ⟨fuel1, hf1⟩ := h1
  obtain ⟨x1, hc1, hx1⟩ := open_con (W := W) fuel1 (cs := cs1.toList) hf1 li1
  obtain rfl : cs1 = x1.cells.toArray := by rw [← hc1]
  obtain ⟨a2, len2, cap2, rfl⟩ := okWide_slice Try.underlying25 (hval 2 25 v2 rfl rfl)
  have k2 := h2
  have lt2 : ∀ x ∈ p2, x.block < W.heap.size := by obtain ⟨m, hm⟩ := k2; exact DataW.trod_lt m _ _ _ hm
  have w2 := open_rs h2
  clear hA0 hval0
  refine (walk W x0 hx0 x1 hx1 a2 len2 cap2 w2).mono fun e W' ⟨he, bel⟩ => ?_
  subst he
  exact ⟨_, rfl, _, _, _, [], _, [], hW', trodAll_mk1 (shut_bool Try.underlying4 _), (trodAll_cons_mk (Below.trod laidOut (by kernel_rfl) (of_decide_eq_true (by kernel_rfl)) k0 bel lt0) (trodAll_cons_mk (Below.trod laidOut (by kernel_rfl) (of_decide_eq_true (by kernel_rfl)) k1 bel lt1) (trodAll_cons_mk (Below.trod laidOut (by kernel_rfl) (of_decide_eq_true (by kernel_rfl)) k2 bel lt2) trodAll_mk0))), rfl, bel.frame _, fun h => by cases h⟩

theorem over : Rows.boundsPartsRow.holds Try.pinned (OpenSpec.ofChange Rows.boundsPartsSpec) :=
  OpenClaim.holds_of_wide 6 Try.f6 rfl rfl rfl rfl rfl rfl rfl ⟨rfl, rfl, rfl, rfl, rfl⟩ rfl rfl rfl rfl rfl (by kernel_rfl) Try.func6 (by kernel_rfl)
    (of_decide_eq_true (by kernel_rfl)) (by unfold Func.isWrapper; first | (rw [if_pos (by decide +kernel)]; kernel_rfl) | (rw [if_neg (by decide +kernel)]; exact ⟨rfl, rfl⟩))
    (fun os started H enc _ => lifted os started H enc)

theorem proved : Rows.BoundsPartsSaid := over
end Go.Proofs.Ytfnpjdglfaaegaa.boundsParts
