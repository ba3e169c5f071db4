/-
  Proved: the statement BoundsSets (which numbers of any set any constraint lets in is what the document says), for every input; no further condition.
-/
import Derived.Test.YtfnpjdglfaaegaaRows
import Derived.Test.YtfnpjdglfaaegaaBdY
import Derived.ProofKit
import Derived.OpenShut
import Derived.ShutString
import Derived.ChangeOld
namespace Go.Proofs.Ytfnpjdglfaaegaa.boundsSets
open Go.ChangeShapes Go.WideShapes Go.ChangeAt Go.RowKit
open Go.ChangeMaps (open_string shut_string)
set_option linter.unusedVariables false
set_option linter.unusedSimpArgs false
set_option maxRecDepth 100000

theorem own : ownKnob Try.prog.godebug = none := by kernel_rfl
theorem laidOut : laidOutB Try.prog = true := by kernel_rfl

set_option maxHeartbeats 16000000 in
theorem walk (w : World) (x0 : CT) (hx0 : CIn w.heap.size w x0) (a1 : Option Addr) (len1 cap1 : Nat) (w1 : ∃ l, RSl w (.slice a1 len1 cap1) l ∧ l.length = len1 ∧ len1 ≤ maxLen) :
    Calls Try.prog 3 #[.agg x0.cells.toArray, .slice a1 len1 cap1] w fun e w' => e = .returned (.bool true) ∧ Below w.heap.size w w' := by
  obtain ⟨P, hP, hn1, hm1⟩ := w1
  obtain ⟨c, hc⟩ : ∃ c, x0 = c := ⟨_, rfl⟩
  have HCI := Lib.hid (show CIn w.heap.size w c from by rw [← hc]; exact hx0)
  obtain ⟨op, lo, hi, lw, hg, ca, cn, cc, cch, hop⟩ := hx0.open
  have HOP := Lib.hid (hc.symm.trans hop)
  have HX := Lib.hid (Bx.new w #[.int .i64 op, .int .i64 lo, .int .i64 hi, .bool lw, .bool hg, .slice ca cn cc] 24)
  have HB := Lib.hid ((Below.refl w.heap.size w).alloc (Nat.le_refl _) (.cells #[.int .i64 op, .int .i64 lo, .int .i64 hi, .bool lw, .bool hg, .slice ca cn cc] 24))
  have HV := Lib.hid (hP.below HB.out)
  have HN := Lib.hid hn1
  rw [hop]
  simp only [CT.cells]
  clear hP hn1 hm1 hx0 hop hc
  go_enter Try.func3, Try.ntmps3
  go_wp2_with fail
  generalize w.alloc (.cells #[.int .i64 op, .int .i64 lo, .int .i64 hi, .bool lw, .bool hg, .slice ca cn cc] 24) = W0 at *
  obtain ⟨g, hg0⟩ : ∃ g, w.heap.size = g := ⟨_, rfl⟩
  have HG := Lib.hid hg0
  rw [hg0] at HX ⊢
  clear hg0
  refine (awake12_ok _).mono ?_
  rintro e wA ⟨rfl, h2⟩
  have HX_1 := Lib.hid (HX.out.below h2 HX.out.lt)
  have HV_1 := Lib.hid (HV.out.below h2)
  have HB_1 := Lib.hid (HB.out.trans (h2.mono HB.out.size))
  clear h2 HX HV HB
  have HC := Lib.hid (FewCon_ok c w.heap.size 50 wA (HCI.out.below HB_1.out (Nat.le_refl _)) HB_1.out.size (by omega) (by omega))
  obtain ⟨b, hb⟩ : ∃ b, decide (0 ≤ c.few 50) = b := ⟨_, rfl⟩
  have HBF := Lib.hid hb
  rw [hb, HOP.out] at HC
  simp only [CT.cells] at HC
  clear hb
  have k0 := HX_1.out.cell 0 rfl
  have k1 := HX_1.out.cell 1 rfl
  have k2 := HX_1.out.cell 2 rfl
  have k3 := HX_1.out.cell 3 rfl
  have k4 := HX_1.out.cell 4 rfl
  have k5 := HX_1.out.cell 5 rfl
  cases b with
  | false =>
    go_wp2_with fail
    refine HC.out.mono ?_
    rintro e wB ⟨rfl, h2⟩
    have HB_2 := Lib.hid (HB_1.out.trans (h2.mono HB_1.out.size))
    clear h2
    go_wp2_with fail
    go_ret
    exact ⟨rfl, by first | exact HB_2.out | (rw [← HG.out]; exact HB_2.out)⟩
  | true =>
  have HSZ := Lib.hid (CT.sz_le HBF.out)
  by_cases hl1 : 10 < len1
  · have q1 : decide ((10 : Int) < (len1 : Int)) = true := decide_eq_true (by omega)
    have qn1 : decide (10 < len1) = true := decide_eq_true hl1
    go_wp2_with fail
    refine HC.out.mono ?_
    rintro e wB ⟨rfl, h2⟩
    have HB_2 := Lib.hid (HB_1.out.trans (h2.mono HB_1.out.size))
    clear h2
    go_wp2_with fail
    go_ret
    exact ⟨rfl, by first | exact HB_2.out | (rw [← HG.out]; exact HB_2.out)⟩
  have q1 : decide ((10 : Int) < (len1 : Int)) = false := decide_eq_false (by omega)
  have qn1 : decide (10 < len1) = false := decide_eq_false hl1
  have HL := Lib.hid (show P.length ≤ 10 by have := HN.out; omega)
  clear hl1
  go_wp2_with fail
  refine HC.out.mono ?_
  rintro e wB ⟨rfl, h2⟩
  have HX_2 := Lib.hid (HX_1.out.below h2 HX_1.out.lt)
  have HV_2 := Lib.hid (HV_1.out.below h2)
  have HB_2 := Lib.hid (HB_1.out.trans (h2.mono HB_1.out.size))
  clear h2 HX_1 HV_1 HB_1 HC k0 k1 k2 k3 k4 k5
  have HS := Lib.hid (show ∀ w', Below wB.heap.size wB w' → (w'.cell? ⟨g, 0, none⟩ = some (.int .i64 op) ∧ w'.cell? ⟨g, 1, none⟩ = some (.int .i64 lo) ∧ w'.cell? ⟨g, 2, none⟩ = some (.int .i64 hi) ∧ w'.cell? ⟨g, 3, none⟩ = some (.bool lw) ∧ w'.cell? ⟨g, 4, none⟩ = some (.bool hg) ∧ w'.cell? ⟨g, 5, none⟩ = some (.slice ca cn cc)) from fun w' hb =>
    have h := HX_2.out.below hb HX_2.out.lt
    ⟨h.cell 0 rfl, h.cell 1 rfl, h.cell 2 rfl, h.cell 3 rfl, h.cell 4 rfl, h.cell 5 rfl⟩)
  have HBX0 := Lib.hid (Below.drew (Below.refl wB.heap.size wB))
  have HS0 := Lib.hid (HS.out _ HBX0.out)
  have hcx := fun (w' : World) (hb : Below wB.heap.size wB w') => Set_ok c w.heap.size w' _ P (HCI.out.below (HB_2.out.trans (hb.mono HB_2.out.size)) (Nat.le_refl _)) (Nat.le_trans HB_2.out.size hb.size) (HV_2.out.below hb) (by have := HSZ.out; omega) (by have := HL.out; omega)
  have hcr := fun (w' : World) (hb : Below wB.heap.size wB w') => rSet_ok c w.heap.size w' _ P (HCI.out.below (HB_2.out.trans (hb.mono HB_2.out.size)) (Nat.le_refl _)) (Nat.le_trans HB_2.out.size hb.size) (HV_2.out.below hb) (by have := HSZ.out; omega) (by have := HL.out; omega)
  rw [HOP.out] at hcx hcr
  simp only [CT.v, CT.cells] at hcx hcr
  rw [← HOP.out] at hcx hcr
  have HSET := Lib.hid hcx
  have HREF := Lib.hid hcr
  clear hcx hcr
  go_wp2_with fail
  go_region_held3 (fun w' => w'.cell? ⟨g, 0, none⟩ = some (.int .i64 op) ∧ w'.cell? ⟨g, 1, none⟩ = some (.int .i64 lo) ∧ w'.cell? ⟨g, 2, none⟩ = some (.int .i64 hi) ∧ w'.cell? ⟨g, 3, none⟩ = some (.bool lw) ∧ w'.cell? ⟨g, 4, none⟩ = some (.bool hg) ∧ w'.cell? ⟨g, 5, none⟩ = some (.slice ca cn cc)) (first | with_reducible exact HS3.out | with_reducible exact HS2.out | with_reducible exact HS1.out | with_reducible exact HS0.out) (first
    | (go_at_call 11; (with_reducible refine (HSET.out _ HBX0.out).mono ?_); rintro e wC ⟨va, ra, rfl, h1, h2⟩; have HA := Lib.hid h1; have HBX1 := Lib.hid (HBX0.out.trans (h2.mono HBX0.out.size)); have HS1 := Lib.hid (HS.out _ HBX1.out); clear h1 h2)
    | (go_at_call 12; (with_reducible refine (HREF.out _ HBX1.out).mono ?_); rintro e wD ⟨vb, rb, rfl, h1, h2⟩; have HA2 := Lib.hid (HA.out.below h2); have HZ := Lib.hid h1; have HBX2 := Lib.hid (HBX1.out.trans (h2.mono HBX1.out.size)); have HS2 := Lib.hid (HS.out _ HBX2.out); have HSAME := Lib.hid (same_ans wD va vb ra rb _ _ _ _ HA2.out HZ.out (by decide) (fun n _ => Iff.rfl)); clear h1 h2)
    | (go_at_call 10; (with_reducible refine HSAME.out.mono ?_); rintro e wE ⟨rfl, h2⟩; have HBX3 := Lib.hid (HBX2.out.trans (h2.mono HBX2.out.size)); have HS3 := Lib.hid (HS.out _ HBX3.out); clear h2))
  go_wp2_with fail
  go_ret
  have HBE := Lib.hid (HB_2.out.trans (HBX3.out.mono HB_2.out.size))
  exact ⟨rfl, by first | exact HBE.out | (rw [← HG.out]; exact HBE.out)⟩

set_option maxRecDepth 100000 in
theorem lifted (os : Os) (started : os.Started) (H : Type) (enc : TypeId × Value → H) :
    ReturnsInHanded {} Try.checked os 3 .any (Rows.boundsSetsSpec.pre6 enc Try.prog Try.f3 Rows.boundsSetsRow.domain false) (Rows.boundsSetsSpec.post enc Try.prog Try.f3 false true false false) := by
  refine handed_light (C := Try.checked) own started (by kernel_rfl) Try.func3
    (ChangeSpec.witness6 (enc := enc) (C := Try.checked) false ⟨#[], #[.agg #[.int .i64 0, .int .i64 0, .int .i64 0, .bool false, .bool false, .slice none 0 0], .slice none 0 0], []⟩ 8 (by kernel_rfl) (by kernel_rfl) (by kernel_rfl) (by kernel_rfl)) ?_
  intro W base args ds gs before hval0 hW hsz0
  have hval : ∀ (j : Nat) t v, Try.f3.params[j]? = some t → args[j]? = some v → Value.okWide Try.prog W .any base t v := hval0
  have hW' := hW
  obtain ⟨p, q, hA0, hV, rfl, hfz, hnd⟩ := hW
  have hA : DataW.TrodAll enc Try.prog W 0 (fun _ => true) true Try.f3.params.toList args.toList ds p := hA0
  rw [Try.params3] at hA hval
  obtain ⟨v0, vs0, d0, ds0, p0, q0, hargs, rfl, rfl, h0, r0⟩ := trodAll_cons hA
  obtain ⟨v1, vs1, d1, ds1, p1, q1, rfl, rfl, rfl, h1, r1⟩ := trodAll_cons r0
  obtain ⟨rfl, rfl, rfl⟩ := trodAll_nil r1
  obtain rfl : args = #[v0, v1] := by cases args; simp_all
  obtain ⟨rfl, rfl⟩ := trodVars_none hV
  obtain ⟨cs0, rfl, _⟩ := okWide_struct Try.underlying24 (hval 0 24 v0 rfl rfl)
  have k0 := h0
  have lt0 : ∀ x ∈ p0, x.block < W.heap.size := by obtain ⟨m, hm⟩ := k0; exact DataW.trod_lt m _ _ _ hm
  have li0 : Light 24 d0 := light_each hsz0 0 _ _ rfl rfl
  obtain ⟨fuel0, hf0⟩ := h0
  obtain ⟨x0, hc0, hx0⟩ := open_con (W := W) fuel0 (cs := cs0.toList) hf0 li0
  obtain rfl : cs0 = x0.cells.toArray := by rw [← hc0]
  obtain ⟨a1, len1, cap1, rfl⟩ := okWide_slice Try.underlying25 (hval 1 25 v1 rfl rfl)
  have k1 := h1
  have lt1 : ∀ x ∈ p1, x.block < W.heap.size := by obtain ⟨m, hm⟩ := k1; exact DataW.trod_lt m _ _ _ hm
  have w1 := open_rs h1
  clear hA0 hval0
  refine (walk W x0 hx0 a1 len1 cap1 w1).mono fun e W' ⟨he, bel⟩ => ?_
  subst he
  exact ⟨_, rfl, _, _, _, [], _, [], hW', trodAll_mk1 (shut_bool Try.underlying4 _), (trodAll_cons_mk (Below.trod laidOut (by kernel_rfl) (of_decide_eq_true (by kernel_rfl)) k0 bel lt0) (trodAll_cons_mk (Below.trod laidOut (by kernel_rfl) (of_decide_eq_true (by kernel_rfl)) k1 bel lt1) trodAll_mk0)), rfl, bel.frame _, fun h => by cases h⟩

theorem over : Rows.boundsSetsRow.holds Try.pinned (OpenSpec.ofChange Rows.boundsSetsSpec) :=
  OpenClaim.holds_of_wide 3 Try.f3 rfl rfl rfl rfl rfl rfl rfl ⟨rfl, rfl, rfl, rfl, rfl⟩ rfl rfl rfl rfl rfl (by kernel_rfl) Try.func3 (by kernel_rfl)
    (of_decide_eq_true (by kernel_rfl)) (by unfold Func.isWrapper; first | (rw [if_pos (by decide +kernel)]; kernel_rfl) | (rw [if_neg (by decide +kernel)]; exact ⟨rfl, rfl⟩))
    (fun os started H enc _ => lifted os started H enc)

theorem proved : Rows.BoundsSetsSaid := over
end Go.Proofs.Ytfnpjdglfaaegaa.boundsSets
