/-
  Proved: the statement BoundsEnds (the ends of what is let in are let in, and nothing below and above them; there are none just where nothing is let in), for every input; no further condition.
-/
import Derived.Test.YtfnpjdglfaaegaaRows
import Derived.Test.YtfnpjdglfaaegaaBdX
import Derived.ProofKit
import Derived.OpenShut
import Derived.ShutString
import Derived.ChangeOld
namespace Go.Proofs.Ytfnpjdglfaaegaa.boundsEnds
open Go.ChangeShapes Go.WideShapes Go.ChangeAt Go.RowKit
open Go.ChangeMaps (open_string shut_string)
set_option linter.unusedVariables false
set_option linter.unusedSimpArgs false
set_option maxRecDepth 100000

theorem own : ownKnob Try.prog.godebug = none := by kernel_rfl
theorem laidOut : laidOutB Try.prog = true := by kernel_rfl

set_option maxHeartbeats 16000000 in
theorem walk (w : World) (x0 : CT) (hx0 : CIn w.heap.size w x0) (a1 : Option Addr) (len1 cap1 : Nat) (w1 : ∃ l, RSl w (.slice a1 len1 cap1) l ∧ l.length = len1 ∧ len1 ≤ maxLen) (a2 : Int) (w2 : (Lit.int .i64 a2).wf = true) :
    Calls Try.prog 7 #[.agg x0.cells.toArray, .slice a1 len1 cap1, .int .i64 a2] w fun e w' => e = .returned (.bool true) ∧ Below w.heap.size w w' := by
  obtain ⟨P, hP, hn1, hm1⟩ := w1
  have hi2 : I64 a2 := by simp [Lit.wf, IntKind.min, IntKind.max, IntKind.signed, IntKind.bits] at w2; unfold I64; omega
  have HI2 := Lib.hid hi2
  clear hi2 w2
  obtain ⟨c, hc⟩ : ∃ c, x0 = c := ⟨_, rfl⟩
  have HCI := Lib.hid (show CIn w.heap.size w c from by rw [← hc]; exact hx0)
  obtain ⟨op, lo, hi, lw, hg, ca, cn, cc, cch, hop⟩ := hx0.open
  have HOP := Lib.hid (hc.symm.trans hop)
  have HX := Lib.hid (Bx.new w #[.int .i64 op, .int .i64 lo, .int .i64 hi, .bool lw, .bool hg, .slice ca cn cc] 24)
  have HB := Lib.hid ((Below.refl w.heap.size w).alloc (Nat.le_refl _) (.cells #[.int .i64 op, .int .i64 lo, .int .i64 hi, .bool lw, .bool hg, .slice ca cn cc] 24))
  have HV := Lib.hid (hP.below HB.out)
  have HN := Lib.hid hn1
  rw [hop]
  simp only [CT.cells]
  clear hP hn1 hm1 hx0 hop hc
  go_enter Try.func7, Try.ntmps7
  go_wp2_with fail
  generalize w.alloc (.cells #[.int .i64 op, .int .i64 lo, .int .i64 hi, .bool lw, .bool hg, .slice ca cn cc] 24) = W0 at *
  obtain ⟨g, hg0⟩ : ∃ g, w.heap.size = g := ⟨_, rfl⟩
  have HG := Lib.hid hg0
  rw [hg0] at HX ⊢
  clear hg0
  refine (awake12_ok _).mono ?_
  rintro e wA ⟨rfl, h2⟩
  have HX_1 := Lib.hid (HX.out.below h2 HX.out.lt)
  have HV_1 := Lib.hid (HV.out.below h2)
  have HB_1 := Lib.hid (HB.out.trans (h2.mono HB.out.size))
  clear h2 HX HV HB
  have HC := Lib.hid (FewCon_ok c w.heap.size 50 wA (HCI.out.below HB_1.out (Nat.le_refl _)) HB_1.out.size (by omega) (by omega))
  obtain ⟨b, hb⟩ : ∃ b, decide (0 ≤ c.few 50) = b := ⟨_, rfl⟩
  have HBF := Lib.hid hb
  rw [hb, HOP.out] at HC
  simp only [CT.cells] at HC
  clear hb
  have k0 := HX_1.out.cell 0 rfl
  have k1 := HX_1.out.cell 1 rfl
  have k2 := HX_1.out.cell 2 rfl
  have k3 := HX_1.out.cell 3 rfl
  have k4 := HX_1.out.cell 4 rfl
  have k5 := HX_1.out.cell 5 rfl
  cases b with
  | false =>
    go_wp2_with fail
    refine HC.out.mono ?_
    rintro e wB ⟨rfl, h2⟩
    have HB_2 := Lib.hid (HB_1.out.trans (h2.mono HB_1.out.size))
    clear h2
    go_wp2_with fail
    go_ret
    exact ⟨rfl, by first | exact HB_2.out | (rw [← HG.out]; exact HB_2.out)⟩
  | true =>
  have HSZ := Lib.hid (CT.sz_le HBF.out)
  by_cases hl1 : 10 < len1
  · have q1 : decide ((10 : Int) < (len1 : Int)) = true := decide_eq_true (by omega)
    have qn1 : decide (10 < len1) = true := decide_eq_true hl1
    go_wp2_with fail
    refine HC.out.mono ?_
    rintro e wB ⟨rfl, h2⟩
    have HB_2 := Lib.hid (HB_1.out.trans (h2.mono HB_1.out.size))
    clear h2
    go_wp2_with fail
    go_ret
    exact ⟨rfl, by first | exact HB_2.out | (rw [← HG.out]; exact HB_2.out)⟩
  have q1 : decide ((10 : Int) < (len1 : Int)) = false := decide_eq_false (by omega)
  have qn1 : decide (10 < len1) = false := decide_eq_false hl1
  have HL := Lib.hid (show P.length ≤ 10 by have := HN.out; omega)
  clear hl1
  go_wp2_with fail
  refine HC.out.mono ?_
  rintro e wB ⟨rfl, h2⟩
  have HX_2 := Lib.hid (HX_1.out.below h2 HX_1.out.lt)
  have HV_2 := Lib.hid (HV_1.out.below h2)
  have HB_2 := Lib.hid (HB_1.out.trans (h2.mono HB_1.out.size))
  clear h2 HX_1 HV_1 HB_1 HC k0 k1 k2 k3 k4 k5
  have HC := Lib.hid (Set_ok c w.heap.size wB _ P (HCI.out.below HB_2.out (Nat.le_refl _)) HB_2.out.size HV_2.out (by have := HSZ.out; omega) (by have := HL.out; omega))
  rw [HOP.out] at HC
  simp only [CT.v, CT.cells] at HC
  rw [← HOP.out] at HC
  have k0 := HX_2.out.cell 0 rfl
  have k1 := HX_2.out.cell 1 rfl
  have k2 := HX_2.out.cell 2 rfl
  have k3 := HX_2.out.cell 3 rfl
  have k4 := HX_2.out.cell 4 rfl
  have k5 := HX_2.out.cell 5 rfl
  go_wp2_with fail
  refine HC.out.mono ?_
  rintro e wC ⟨vs, r, rfl, h1, h2⟩
  have HX_3 := Lib.hid (HX_2.out.below h2 HX_2.out.lt)
  have HV_3 := Lib.hid (HV_2.out.below h2)
  have HB_3 := Lib.hid (HB_2.out.trans (h2.mono HB_2.out.size))
  obtain ⟨sv, cv, rfl⟩ := h1.1.shape
  have HS := Lib.hid h1.2.1
  have HK := Lib.hid h1.2.2
  have HVS_3 := Lib.hid h1.1
  obtain ⟨nr, hnr⟩ : ∃ nr, r.length = nr := ⟨_, rfl⟩
  have HNR := Lib.hid hnr
  rw [hnr] at HVS_3 ⊢
  clear h1 h2 HX_2 HV_2 HB_2 HC k0 k1 k2 k3 k4 k5 hnr
  have HE := Lib.hid (show ∀ r', Says r' (mem r) → r' = r from fun r' h => h.eq (q := mem r) ⟨HS.out.1, HS.out.2.1, fun _ _ => Iff.rfl⟩ fun _ _ => Iff.rfl)
  rcases Nat.eq_zero_or_pos nr with hz | hz
  · subst hz
    have HF := Lib.hid (show eLo r = 0 ∧ eHi r = 0 ∧ eOk r = false from ⟨by unfold eLo; rw [if_pos HNR.out], by unfold eHi; rw [if_pos HNR.out], by unfold eOk; exact decide_eq_false (by have := HNR.out; omega)⟩)
    have HC := Lib.hid (Ends_ok _ _ r HVS_3.out (by have := HK.out; omega))
    go_wp2_with fail
    refine HC.out.mono ?_
    rintro e wC4 ⟨r', rfl, hs, h2⟩
    have HVS_4 := Lib.hid (HVS_3.out.below h2)
    have HB_4 := Lib.hid (HB_3.out.trans (h2.mono HB_3.out.size))
    rw [HE.out _ hs, HF.out.1, HF.out.2.1, HF.out.2.2]
    clear hs
    clear h2 HC HVS_3 HB_3
    go_wp2_with fail
    go_ret
    exact ⟨rfl, by first | exact HB_4.out | (rw [← HG.out]; exact HB_4.out)⟩
  · have hpos : 0 < r.length := by have := HNR.out; omega
    have HES := Lib.hid (ends_says HS.out.1 hpos)
    have HOK := Lib.hid (show eOk r = true from decide_eq_true hpos)
    obtain ⟨lo9, hlo9⟩ : ∃ x, eLo r = x := ⟨_, rfl⟩
    obtain ⟨hi9, hhi9⟩ : ∃ x, eHi r = x := ⟨_, rfl⟩
    have HLH := Lib.hid (And.intro hlo9 hhi9)
    rw [hlo9, hhi9] at HES
    obtain ⟨zb, hzb⟩ : ∃ zb, hasB r a2 = zb := ⟨_, rfl⟩
    have HZB := Lib.hid hzb
    clear hpos hlo9 hhi9 hzb
    have q9 : ((nr : Int) == 0) = false := beq_false_of_ne (by omega)
    cases zb
    · have HC := Lib.hid (Ends_ok _ _ r HVS_3.out (by have := HK.out; omega))
      go_wp2_with fail
      refine HC.out.mono ?_
      rintro e wC4 ⟨r', rfl, hs, h2⟩
      have HVS_4 := Lib.hid (HVS_3.out.below h2)
      have HB_4 := Lib.hid (HB_3.out.trans (h2.mono HB_3.out.size))
      rw [HE.out _ hs, HLH.out.1, HLH.out.2, HOK.out]
      clear hs
      clear h2 HC HVS_3 HB_3
      have hcx := Has_ok _ _ r lo9 HVS_4.out (by have := HK.out; omega)
      rw [HES.out.1] at hcx
      have HC := Lib.hid (hcx)
      go_wp2_with fail
      refine HC.out.mono ?_
      rintro e wC5 ⟨rfl, h2⟩
      have HVS_5 := Lib.hid (HVS_4.out.below h2)
      have HB_5 := Lib.hid (HB_4.out.trans (h2.mono HB_4.out.size))
      clear hcx
      clear h2 HC HVS_4 HB_4
      have hcx := Has_ok _ _ r hi9 HVS_5.out (by have := HK.out; omega)
      rw [HES.out.2.1] at hcx
      have HC := Lib.hid (hcx)
      go_wp2_with fail
      refine HC.out.mono ?_
      rintro e wC6 ⟨rfl, h2⟩
      have HVS_6 := Lib.hid (HVS_5.out.below h2)
      have HB_6 := Lib.hid (HB_5.out.trans (h2.mono HB_5.out.size))
      clear hcx
      clear h2 HC HVS_5 HB_5
      have hcx := Has_ok _ _ r a2 HVS_6.out (by have := HK.out; omega)
      rw [HZB.out] at hcx
      have HC := Lib.hid (hcx)
      go_wp2_with fail
      refine HC.out.mono ?_
      rintro e wC7 ⟨rfl, h2⟩
      have HVS_7 := Lib.hid (HVS_6.out.below h2)
      have HB_7 := Lib.hid (HB_6.out.trans (h2.mono HB_6.out.size))
      clear hcx
      clear h2 HC HVS_6 HB_6
      go_wp2_with fail
      go_ret
      exact ⟨rfl, by first | exact HB_7.out | (rw [← HG.out]; exact HB_7.out)⟩
    · have hin9 := HES.out.2.2 a2 (hasB_iff.1 HZB.out)
      have q7 : decide (lo9 ≤ a2) = true := decide_eq_true hin9.1
      have q8 : decide (a2 ≤ hi9) = true := decide_eq_true hin9.2
      clear hin9
      have HC := Lib.hid (Ends_ok _ _ r HVS_3.out (by have := HK.out; omega))
      go_wp2_with fail
      refine HC.out.mono ?_
      rintro e wC4 ⟨r', rfl, hs, h2⟩
      have HVS_4 := Lib.hid (HVS_3.out.below h2)
      have HB_4 := Lib.hid (HB_3.out.trans (h2.mono HB_3.out.size))
      rw [HE.out _ hs, HLH.out.1, HLH.out.2, HOK.out]
      clear hs
      clear h2 HC HVS_3 HB_3
      have hcx := Has_ok _ _ r lo9 HVS_4.out (by have := HK.out; omega)
      rw [HES.out.1] at hcx
      have HC := Lib.hid (hcx)
      go_wp2_with fail
      refine HC.out.mono ?_
      rintro e wC5 ⟨rfl, h2⟩
      have HVS_5 := Lib.hid (HVS_4.out.below h2)
      have HB_5 := Lib.hid (HB_4.out.trans (h2.mono HB_4.out.size))
      clear hcx
      clear h2 HC HVS_4 HB_4
      have hcx := Has_ok _ _ r hi9 HVS_5.out (by have := HK.out; omega)
      rw [HES.out.2.1] at hcx
      have HC := Lib.hid (hcx)
      go_wp2_with fail
      refine HC.out.mono ?_
      rintro e wC6 ⟨rfl, h2⟩
      have HVS_6 := Lib.hid (HVS_5.out.below h2)
      have HB_6 := Lib.hid (HB_5.out.trans (h2.mono HB_5.out.size))
      clear hcx
      clear h2 HC HVS_5 HB_5
      have hcx := Has_ok _ _ r a2 HVS_6.out (by have := HK.out; omega)
      rw [HZB.out] at hcx
      have HC := Lib.hid (hcx)
      go_wp2_with fail
      refine HC.out.mono ?_
      rintro e wC7 ⟨rfl, h2⟩
      have HVS_7 := Lib.hid (HVS_6.out.below h2)
      have HB_7 := Lib.hid (HB_6.out.trans (h2.mono HB_6.out.size))
      clear hcx
      clear h2 HC HVS_6 HB_6
      go_wp2_with fail
      go_ret
      exact ⟨rfl, by first | exact HB_7.out | (rw [← HG.out]; exact HB_7.out)⟩

set_option maxRecDepth 100000 in
theorem lifted (os : Os) (started : os.Started) (H : Type) (enc : TypeId × Value → H) :
    ReturnsInHanded {} Try.checked os 7 .any (Rows.boundsEndsSpec.pre6 enc Try.prog Try.f7 Rows.boundsEndsRow.domain false) (Rows.boundsEndsSpec.post enc Try.prog Try.f7 false true false false) := by
  refine handed_light (C := Try.checked) own started (by kernel_rfl) Try.func7
    (ChangeSpec.witness6 (enc := enc) (C := Try.checked) false ⟨#[], #[.agg #[.int .i64 0, .int .i64 0, .int .i64 0, .bool false, .bool false, .slice none 0 0], .slice none 0 0, .int .i64 0], []⟩ 8 (by kernel_rfl) (by kernel_rfl) (by kernel_rfl) (by kernel_rfl)) ?_
  intro W base args ds gs before hval0 hW hsz0
  have hval : ∀ (j : Nat) t v, Try.f7.params[j]? = some t → args[j]? = some v → Value.okWide Try.prog W .any base t v := hval0
  have hW' := hW
  obtain ⟨p, q, hA0, hV, rfl, hfz, hnd⟩ := hW
  have hA : DataW.TrodAll enc Try.prog W 0 (fun _ => true) true Try.f7.params.toList args.toList ds p := hA0
  rw [Try.params7] at hA hval
  obtain ⟨v0, vs0, d0, ds0, p0, q0, hargs, rfl, rfl, h0, r0⟩ := trodAll_cons hA
  obtain ⟨v1, vs1, d1, ds1, p1, q1, rfl, rfl, rfl, h1, r1⟩ := trodAll_cons r0
  obtain ⟨v2, vs2, d2, ds2, p2, q2, rfl, rfl, rfl, h2, r2⟩ := trodAll_cons r1
  obtain ⟨rfl, rfl, rfl⟩ := trodAll_nil r2
  obtain rfl : args = #[v0, v1, v2] := by cases args; simp_all
  obtain ⟨rfl, rfl⟩ := trodVars_none hV
  obtain ⟨cs0, rfl, _⟩ := okWide_struct Try.underlying24 (hval 0 24 v0 rfl rfl)
  have k0 := h0
  have lt0 : ∀ x ∈ p0, x.block < W.heap.size := by obtain ⟨m, hm⟩ := k0; exact DataW.trod_lt m _ _ _ hm
  have li0 : Light 24 d0 := light_each hsz0 0 _ _ rfl rfl
  obtain ⟨fuel0, hf0⟩ := h0
  obtain ⟨x0, hc0, hx0⟩ := open_con (W := W) fuel0 (cs := cs0.toList) hf0 li0
  obtain rfl : cs0 = x0.cells.toArray := by rw [← hc0]
  obtain ⟨a1, len1, cap1, rfl⟩ := okWide_slice Try.underlying25 (hval 1 25 v1 rfl rfl)
  have k1 := h1
  have lt1 : ∀ x ∈ p1, x.block < W.heap.size := by obtain ⟨m, hm⟩ := k1; exact DataW.trod_lt m _ _ _ hm
  have w1 := open_rs h1
  obtain ⟨a2, rfl, rfl, rfl, w2⟩ := open_int Try.underlying3 (hval 2 3 v2 rfl rfl) h2
  clear hA0 hval0
  refine (walk W x0 hx0 a1 len1 cap1 w1 a2 w2).mono fun e W' ⟨he, bel⟩ => ?_
  subst he
  exact ⟨_, rfl, _, _, _, [], _, [], hW', trodAll_mk1 (shut_bool Try.underlying4 _), (trodAll_cons_mk (Below.trod laidOut (by kernel_rfl) (of_decide_eq_true (by kernel_rfl)) k0 bel lt0) (trodAll_cons_mk (Below.trod laidOut (by kernel_rfl) (of_decide_eq_true (by kernel_rfl)) k1 bel lt1) (trodAll_cons_mk (shut_int Try.underlying3 w2) trodAll_mk0))), rfl, bel.frame _, fun h => by cases h⟩

theorem over : Rows.boundsEndsRow.holds Try.pinned (OpenSpec.ofChange Rows.boundsEndsSpec) :=
  OpenClaim.holds_of_wide 7 Try.f7 rfl rfl rfl rfl rfl rfl rfl ⟨rfl, rfl, rfl, rfl, rfl⟩ rfl rfl rfl rfl rfl (by kernel_rfl) Try.func7 (by kernel_rfl)
    (of_decide_eq_true (by kernel_rfl)) (by unfold Func.isWrapper; first | (rw [if_pos (by decide +kernel)]; kernel_rfl) | (rw [if_neg (by decide +kernel)]; exact ⟨rfl, rfl⟩))
    (fun os started H enc _ => lifted os started H enc)

theorem proved : Rows.BoundsEndsSaid := over
end Go.Proofs.Ytfnpjdglfaaegaa.boundsEnds
