/-
  Proved: the statement BoundsTypes (which numbers any type lets in, the ends of any set, and whether something is let in however deep, is what the document says), for every input; no further condition.
-/
import Derived.Test.YtfnpjdglfaaegaaRows
import Derived.Test.YtfnpjdglfaaegaaBdT9
import Derived.ProofKit
import Derived.OpenShut
import Derived.ShutString
import Derived.ChangeOld
namespace Go.Proofs.Ytfnpjdglfaaegaa.boundsTypes
open Go.ChangeShapes Go.WideShapes Go.ChangeAt Go.RowKit
open Go.ChangeMaps (open_string shut_string)
set_option linter.unusedVariables false
set_option linter.unusedSimpArgs false
set_option maxRecDepth 100000

theorem own : ownKnob Try.prog.godebug = none := by kernel_rfl
theorem laidOut : laidOutB Try.prog = true := by kernel_rfl

set_option maxHeartbeats 16000000 in
theorem walk (w : World) (x0 : TT) (hx0 : TIn w.heap.size w x0) (a1 : Option Addr) (len1 cap1 : Nat) (w1 : ∃ l, RSl w (.slice a1 len1 cap1) l ∧ l.length = len1 ∧ len1 ≤ maxLen) :
    Calls Try.prog 4 #[.agg x0.cells.toArray, .slice a1 len1 cap1] w fun e w' => e = .returned (.bool true) ∧ Below w.heap.size w w' := by
  obtain ⟨P, hP, hn1, hm1⟩ := w1
  obtain ⟨t, ht⟩ : ∃ t, x0 = t := ⟨_, rfl⟩
  rw [ht] at hx0 ⊢
  have HTI := Lib.hid hx0
  obtain ⟨v0, v1, v2, v3, v4, v5, v6, v7, v8, v9, v10, v11, v12, v13, v14, hcs⟩ := list15 t.cells (one_tcells hx0).1
  have HCS := Lib.hid hcs
  have HX := Lib.hid (Bx.new w [v0, v1, v2, v3, v4, v5, v6, v7, v8, v9, v10, v11, v12, v13, v14].toArray 35)
  have HB := Lib.hid ((Below.refl w.heap.size w).alloc (Nat.le_refl _) (.cells [v0, v1, v2, v3, v4, v5, v6, v7, v8, v9, v10, v11, v12, v13, v14].toArray 35))
  have HV := Lib.hid (hP.below HB.out)
  have HN := Lib.hid hn1
  rw [hcs]
  clear hP hn1 hm1 hx0 hcs ht
  go_enter Try.func4, Try.ntmps4
  go_wp2_with fail
  generalize w.alloc (.cells #[v0, v1, v2, v3, v4, v5, v6, v7, v8, v9, v10, v11, v12, v13, v14] 35) = W0 at *
  obtain ⟨g, hg0⟩ : ∃ g, w.heap.size = g := ⟨_, rfl⟩
  have HG := Lib.hid hg0
  rw [hg0] at HX ⊢
  clear hg0
  refine (awake12_ok _).mono ?_
  rintro e wA ⟨rfl, h2⟩
  have HX_1 := Lib.hid (HX.out.below h2 HX.out.lt)
  have HV_1 := Lib.hid (HV.out.below h2)
  have HB_1 := Lib.hid (HB.out.trans (h2.mono HB.out.size))
  clear h2 HX HV HB
  have hcf := Few_ok t w.heap.size 60 wA (HTI.out.below HB_1.out (Nat.le_refl _)) HB_1.out.size (by omega) (by omega)
  obtain ⟨b, hb⟩ : ∃ b, decide (0 ≤ t.few 60) = b := ⟨_, rfl⟩
  have HBF := Lib.hid hb
  rw [hb, HCS.out] at hcf
  have HC := Lib.hid hcf
  clear hb hcf
  cases b with
  | false =>
    go_wp2_with (refine wpList_load_mid rfl 35 (.tmp 2) rfl g 0 rfl [v0, v1, v2, v3, v4, v5, v6, v7, v8, v9, v10, v11, v12, v13, v14] _ HX_1.out.range Try.underlying35 rfl (by rw [info_T]; rfl) ?_)
    refine HC.out.mono ?_
    rintro e wB ⟨rfl, h2⟩
    have HB_2 := Lib.hid (HB_1.out.trans (h2.mono HB_1.out.size))
    clear h2
    go_wp2_with fail
    go_ret
    exact ⟨rfl, by first | exact HB_2.out | (rw [← HG.out]; exact HB_2.out)⟩
  | true =>
  have HSM := Lib.hid (few_small t 60 HTI.out (by omega) (of_decide_eq_true HBF.out))
  by_cases hl1 : 40 < len1
  · have q1 : decide ((40 : Int) < (len1 : Int)) = true := decide_eq_true (by omega)
    have qn1 : decide (40 < len1) = true := decide_eq_true hl1
    go_wp2_with (refine wpList_load_mid rfl 35 (.tmp 2) rfl g 0 rfl [v0, v1, v2, v3, v4, v5, v6, v7, v8, v9, v10, v11, v12, v13, v14] _ HX_1.out.range Try.underlying35 rfl (by rw [info_T]; rfl) ?_)
    refine HC.out.mono ?_
    rintro e wB ⟨rfl, h2⟩
    have HB_2 := Lib.hid (HB_1.out.trans (h2.mono HB_1.out.size))
    clear h2
    go_wp2_with fail
    go_ret
    exact ⟨rfl, by first | exact HB_2.out | (rw [← HG.out]; exact HB_2.out)⟩
  have q1 : decide ((40 : Int) < (len1 : Int)) = false := decide_eq_false (by omega)
  have qn1 : decide (40 < len1) = false := decide_eq_false hl1
  have HL := Lib.hid (show P.length ≤ 40 by have := HN.out; omega)
  clear hl1
  go_wp2_with (refine wpList_load_mid rfl 35 (.tmp 2) rfl g 0 rfl [v0, v1, v2, v3, v4, v5, v6, v7, v8, v9, v10, v11, v12, v13, v14] _ HX_1.out.range Try.underlying35 rfl (by rw [info_T]; rfl) ?_)
  refine HC.out.mono ?_
  rintro e wB ⟨rfl, h2⟩
  have HX_2 := Lib.hid (HX_1.out.below h2 HX_1.out.lt)
  have HV_2 := Lib.hid (HV_1.out.below h2)
  have HB_2 := Lib.hid (HB_1.out.trans (h2.mono HB_1.out.size))
  clear h2 HX_1 HV_1 HB_1 HC
  have hcf := Of_ok t w.heap.size wB (HTI.out.below HB_2.out (Nat.le_refl _)) HB_2.out.size (by have := TT.small_con HSM.out; omega)
  rw [HCS.out] at hcf
  have HC := Lib.hid hcf
  clear hcf
  go_wp2_with (refine wpList_load_mid rfl 35 (.tmp 2) rfl g 0 rfl [v0, v1, v2, v3, v4, v5, v6, v7, v8, v9, v10, v11, v12, v13, v14] _ HX_2.out.range Try.underlying35 rfl (by rw [info_T]; rfl) ?_)
  refine HC.out.mono ?_
  rintro e wC ⟨va, ra, rfl, h1, h2⟩
  have HX_3 := Lib.hid (HX_2.out.below h2 HX_2.out.lt)
  have HV_3 := Lib.hid (HV_2.out.below h2)
  have HB_3 := Lib.hid (HB_2.out.trans (h2.mono HB_2.out.size))
  have HA_3 := Lib.hid h1
  clear h1 h2 HX_2 HV_2 HB_2 HC
  have hcf := rOf_ok t w.heap.size wC (HTI.out.below HB_3.out (Nat.le_refl _)) HB_3.out.size (by have := TT.small_con HSM.out; omega)
  rw [HCS.out] at hcf
  have HC := Lib.hid hcf
  clear hcf
  go_wp2_with (refine wpList_load_mid rfl 35 (.tmp 2) rfl g 0 rfl [v0, v1, v2, v3, v4, v5, v6, v7, v8, v9, v10, v11, v12, v13, v14] _ HX_3.out.range Try.underlying35 rfl (by rw [info_T]; rfl) ?_)
  refine HC.out.mono ?_
  rintro e wD ⟨vb, rb, rfl, h1, h2⟩
  have HX_4 := Lib.hid (HX_3.out.below h2 HX_3.out.lt)
  have HV_4 := Lib.hid (HV_3.out.below h2)
  have HB_4 := Lib.hid (HB_3.out.trans (h2.mono HB_3.out.size))
  have HA_4 := Lib.hid (HA_3.out.below h2)
  have HZ_4 := Lib.hid h1
  clear h1 h2 HX_3 HV_3 HB_3 HA_3 HC
  have HC := Lib.hid (Ends_ok wD _ P HV_4.out (by have := HL.out; omega))
  go_wp2_with fail
  refine HC.out.mono ?_
  rintro e wE ⟨r1, rfl, hs1, h2⟩
  have HX_5 := Lib.hid (HX_4.out.below h2 HX_4.out.lt)
  have HV_5 := Lib.hid (HV_4.out.below h2)
  have HB_5 := Lib.hid (HB_4.out.trans (h2.mono HB_4.out.size))
  have HA_5 := Lib.hid (HA_4.out.below h2)
  have HZ_5 := Lib.hid (HZ_4.out.below h2)
  have HSR := Lib.hid hs1
  clear h2 hs1 HX_4 HV_4 HB_4 HA_4 HZ_4 HC
  have HC := Lib.hid (rEnds_ok wE _ P HV_5.out (by have := HL.out; omega))
  obtain ⟨lo9, hlo9⟩ : ∃ x, eLo r1 = x := ⟨_, rfl⟩
  obtain ⟨hi9, hhi9⟩ : ∃ x, eHi r1 = x := ⟨_, rfl⟩
  obtain ⟨ok9, hok9⟩ : ∃ x, eOk r1 = x := ⟨_, rfl⟩
  have HE9 := Lib.hid (And.intro hlo9 (And.intro hhi9 hok9))
  rw [hlo9, hhi9, hok9]
  clear hlo9 hhi9 hok9
  go_wp2_with fail
  refine HC.out.mono ?_
  rintro e wF ⟨r2, rfl, hs2, h2⟩
  have e9 : r2 = r1 := hs2.eq (q := mem P) HSR.out fun _ _ => Iff.rfl
  rw [e9, HE9.out.1, HE9.out.2.1, HE9.out.2.2]
  have HX_6 := Lib.hid (HX_5.out.below h2 HX_5.out.lt)
  have HB_6 := Lib.hid (HB_5.out.trans (h2.mono HB_5.out.size))
  have HA_6 := Lib.hid (HA_5.out.below h2)
  have HZ_6 := Lib.hid (HZ_5.out.below h2)
  clear h2 hs2 e9 HX_5 HV_5 HB_5 HA_5 HZ_5 HC
  obtain ⟨ob, hob⟩ : ∃ ob, ofB t = ob := ⟨_, rfl⟩
  rw [hob]
  clear hob
  have HS := Lib.hid (show ∀ w', Below wF.heap.size wF w' → (w'.cell? ⟨g, 0, none⟩ = some v0 ∧ w'.cell? ⟨g, 1, none⟩ = some v1 ∧ w'.cell? ⟨g, 2, none⟩ = some v2 ∧ w'.cell? ⟨g, 3, none⟩ = some v3 ∧ w'.cell? ⟨g, 4, none⟩ = some v4 ∧ w'.cell? ⟨g, 5, none⟩ = some v5 ∧ w'.cell? ⟨g, 6, none⟩ = some v6 ∧ w'.cell? ⟨g, 7, none⟩ = some v7 ∧ w'.cell? ⟨g, 8, none⟩ = some v8 ∧ w'.cell? ⟨g, 9, none⟩ = some v9 ∧ w'.cell? ⟨g, 10, none⟩ = some v10 ∧ w'.cell? ⟨g, 11, none⟩ = some v11 ∧ w'.cell? ⟨g, 12, none⟩ = some v12 ∧ w'.cell? ⟨g, 13, none⟩ = some v13 ∧ w'.cell? ⟨g, 14, none⟩ = some v14) from fun w' hb =>
    have h := HX_6.out.below hb HX_6.out.lt
    ⟨h.cell 0 rfl, h.cell 1 rfl, h.cell 2 rfl, h.cell 3 rfl, h.cell 4 rfl, h.cell 5 rfl, h.cell 6 rfl, h.cell 7 rfl, h.cell 8 rfl, h.cell 9 rfl, h.cell 10 rfl, h.cell 11 rfl, h.cell 12 rfl, h.cell 13 rfl, h.cell 14 rfl⟩)
  have HBX0 := Lib.hid (Below.drew (Below.refl wF.heap.size wF))
  have HS0 := Lib.hid (HS.out _ HBX0.out)
  have HCA := Lib.hid (fun (w' : World) (hb : Below wF.heap.size wF w') => same_ans w' va vb ra rb _ _ _ _ (HA_6.out.below hb) (HZ_6.out.below hb) (by decide) (fun n _ => Iff.rfl))
  have hck := fun (w' : World) (hb : Below wF.heap.size wF w') => Check_ok t w.heap.size w' (HTI.out.below (HB_6.out.trans (hb.mono HB_6.out.size)) (Nat.le_refl _)) (Nat.le_trans HB_6.out.size hb.size) HSM.out
  have hcr := fun (w' : World) (hb : Below wF.heap.size wF w') => rCheck_ok t w.heap.size w' (HTI.out.below (HB_6.out.trans (hb.mono HB_6.out.size)) (Nat.le_refl _)) (Nat.le_trans HB_6.out.size hb.size) HSM.out
  obtain ⟨z, hz⟩ : ∃ z : Int, (if emp t 40 = true then 10 else 0) = z := ⟨_, rfl⟩
  rw [hz, HCS.out] at hck hcr
  have HCK := Lib.hid hck
  have HCR := Lib.hid hcr
  clear hck hcr hz
  have q2 : (lo9 == lo9) = true := by simp
  have q3 : (hi9 == hi9) = true := by simp
  have q4 : (z == z) = true := by simp
  have q5 : (ob == ob) = true := by cases ob <;> rfl
  have q6 : (ok9 == ok9) = true := by cases ok9 <;> rfl
  go_wp2_with fail
  go_region_held3 (fun w' => w'.cell? ⟨g, 0, none⟩ = some v0 ∧ w'.cell? ⟨g, 1, none⟩ = some v1 ∧ w'.cell? ⟨g, 2, none⟩ = some v2 ∧ w'.cell? ⟨g, 3, none⟩ = some v3 ∧ w'.cell? ⟨g, 4, none⟩ = some v4 ∧ w'.cell? ⟨g, 5, none⟩ = some v5 ∧ w'.cell? ⟨g, 6, none⟩ = some v6 ∧ w'.cell? ⟨g, 7, none⟩ = some v7 ∧ w'.cell? ⟨g, 8, none⟩ = some v8 ∧ w'.cell? ⟨g, 9, none⟩ = some v9 ∧ w'.cell? ⟨g, 10, none⟩ = some v10 ∧ w'.cell? ⟨g, 11, none⟩ = some v11 ∧ w'.cell? ⟨g, 12, none⟩ = some v12 ∧ w'.cell? ⟨g, 13, none⟩ = some v13 ∧ w'.cell? ⟨g, 14, none⟩ = some v14) (first | with_reducible exact HS6.out | with_reducible exact HS5.out | with_reducible exact HS4.out | with_reducible exact HS3.out | with_reducible exact HS2.out | with_reducible exact HS1.out | with_reducible exact HS0.out) (first
    | (have z9 := HS5; clear z9; go_at_call 10; (with_reducible refine HSAME.out.mono ?_); rintro e w6 ⟨rfl, h2⟩; have HBX6 := Lib.hid (HBX5.out.trans (h2.mono HBX5.out.size)); have HS6 := Lib.hid (HS.out _ HBX6.out); clear h2)
    | (go_at_call 21; (with_reducible refine (rSize_ok _).mono ?_); rintro e w5 ⟨vq, rfl, h1, h2⟩; have HBX5 := Lib.hid (HBX4.out.trans (h2.mono HBX4.out.size)); have HS5 := Lib.hid (HS.out _ HBX5.out); have HSAME := Lib.hid (same_yes w5 vp vq sizeL sizeL (HVP.out.below h2) h1 (by simp [sizeL]) rfl); clear h1 h2)
    | (go_at_call 20; (with_reducible refine (Size_ok _).mono ?_); rintro e w4 ⟨vp, rfl, h1, h2⟩; have HVP := Lib.hid h1; have HBX4 := Lib.hid (HBX3.out.trans (h2.mono HBX3.out.size)); have HS4 := Lib.hid (HS.out _ HBX4.out); clear h1 h2)
    | (go_at_call 19; (with_reducible refine (HCR.out _ HBX2.out).mono ?_); rintro e w3 ⟨rfl, h2⟩; have HBX3 := Lib.hid (HBX2.out.trans (h2.mono HBX2.out.size)); have HS3 := Lib.hid (HS.out _ HBX3.out); clear h2)
    | (go_at_call 18; (with_reducible refine (HCK.out _ HBX1.out).mono ?_); rintro e w2 ⟨rfl, h2⟩; have HBX2 := Lib.hid (HBX1.out.trans (h2.mono HBX1.out.size)); have HS2 := Lib.hid (HS.out _ HBX2.out); clear h2)
    | (go_at_call 10; (with_reducible refine (HCA.out _ HBX0.out).mono ?_); rintro e w1 ⟨rfl, h2⟩; have HBX1 := Lib.hid (HBX0.out.trans (h2.mono HBX0.out.size)); have HS1 := Lib.hid (HS.out _ HBX1.out); clear h2))
  go_wp2_with fail
  go_ret
  have HBE := Lib.hid (HB_6.out.trans (HBX6.out.mono HB_6.out.size))
  exact ⟨rfl, by first | exact HBE.out | (rw [← HG.out]; exact HBE.out)⟩

set_option maxRecDepth 100000 in
theorem lifted (os : Os) (started : os.Started) (H : Type) (enc : TypeId × Value → H) :
    ReturnsInHanded {} Try.checked os 4 .any (Rows.boundsTypesSpec.pre6 enc Try.prog Try.f4 Rows.boundsTypesRow.domain false) (Rows.boundsTypesSpec.post enc Try.prog Try.f4 false true false false) := by
  refine handed_light (C := Try.checked) own started (by kernel_rfl) Try.func4
    (ChangeSpec.witness6 (enc := enc) (C := Try.checked) false ⟨#[], #[.agg #[.int .i64 0, .string ByteArray.empty, .int .i64 0, .int .i64 0, .int .i64 0, .bool false, .bool false, .slice none 0 0, .bool false, .string ByteArray.empty, .slice none 0 0, .slice none 0 0, .slice none 0 0, .slice none 0 0, .slice none 0 0], .slice none 0 0], []⟩ 8 (by kernel_rfl) (by kernel_rfl) (by kernel_rfl) (by kernel_rfl)) ?_
  intro W base args ds gs before hval0 hW hsz0
  have hval : ∀ (j : Nat) t v, Try.f4.params[j]? = some t → args[j]? = some v → Value.okWide Try.prog W .any base t v := hval0
  have hW' := hW
  obtain ⟨p, q, hA0, hV, rfl, hfz, hnd⟩ := hW
  have hA : DataW.TrodAll enc Try.prog W 0 (fun _ => true) true Try.f4.params.toList args.toList ds p := hA0
  rw [Try.params4] at hA hval
  obtain ⟨v0, vs0, d0, ds0, p0, q0, hargs, rfl, rfl, h0, r0⟩ := trodAll_cons hA
  obtain ⟨v1, vs1, d1, ds1, p1, q1, rfl, rfl, rfl, h1, r1⟩ := trodAll_cons r0
  obtain ⟨rfl, rfl, rfl⟩ := trodAll_nil r1
  obtain rfl : args = #[v0, v1] := by cases args; simp_all
  obtain ⟨rfl, rfl⟩ := trodVars_none hV
  obtain ⟨cs0, rfl, _⟩ := okWide_struct Try.underlying35 (hval 0 35 v0 rfl rfl)
  have k0 := h0
  have lt0 : ∀ x ∈ p0, x.block < W.heap.size := by obtain ⟨m, hm⟩ := k0; exact DataW.trod_lt m _ _ _ hm
  have li0 : Light 35 d0 := light_each hsz0 0 _ _ rfl rfl
  obtain ⟨fuel0, hf0⟩ := h0
  obtain ⟨x0, hc0, hx0⟩ := open_type (W := W) fuel0 (cs := cs0.toList) hf0 li0
  obtain rfl : cs0 = x0.cells.toArray := by rw [← hc0]
  obtain ⟨a1, len1, cap1, rfl⟩ := okWide_slice Try.underlying25 (hval 1 25 v1 rfl rfl)
  have k1 := h1
  have lt1 : ∀ x ∈ p1, x.block < W.heap.size := by obtain ⟨m, hm⟩ := k1; exact DataW.trod_lt m _ _ _ hm
  have w1 := open_rs h1
  clear hA0 hval0
  refine (walk W x0 hx0 a1 len1 cap1 w1).mono fun e W' ⟨he, bel⟩ => ?_
  subst he
  exact ⟨_, rfl, _, _, _, [], _, [], hW', trodAll_mk1 (shut_bool Try.underlying4 _), (trodAll_cons_mk (Below.trod laidOut (by kernel_rfl) (of_decide_eq_true (by kernel_rfl)) k0 bel lt0) (trodAll_cons_mk (Below.trod laidOut (by kernel_rfl) (of_decide_eq_true (by kernel_rfl)) k1 bel lt1) trodAll_mk0)), rfl, bel.frame _, fun h => by cases h⟩

theorem over : Rows.boundsTypesRow.holds Try.pinned (OpenSpec.ofChange Rows.boundsTypesSpec) :=
  OpenClaim.holds_of_wide 4 Try.f4 rfl rfl rfl rfl rfl rfl rfl ⟨rfl, rfl, rfl, rfl, rfl⟩ rfl rfl rfl rfl rfl (by kernel_rfl) Try.func4 (by kernel_rfl)
    (of_decide_eq_true (by kernel_rfl)) (by unfold Func.isWrapper; first | (rw [if_pos (by decide +kernel)]; kernel_rfl) | (rw [if_neg (by decide +kernel)]; exact ⟨rfl, rfl⟩))
    (fun os started H enc _ => lifted os started H enc)

theorem proved : Rows.BoundsTypesSaid := over
end Go.Proofs.Ytfnpjdglfaaegaa.boundsTypes
