/-
  Proved: the statement MemberOnce (with all defaults a value is of the type and has them all: taken once more it is the same), for every input; no further condition.
-/
import Derived.Test.YtmaghmdcagdkhaaGreatRows
import Derived.Test.YtmaghmdcagdkhaaGreatQX
import Derived.Test.YtmaghmdcagdkhaaGreatQY
import Derived.ProofKit
import Derived.OpenShut
import Derived.ShutString
import Derived.ChangeOld
namespace Go.Proofs.YtmaghmdcagdkhaaGreat.memberOnce
open Go.ChangeShapes Go.WideShapes Go.ChangeAt Go.RowKit
open Go.ChangeMaps (open_string shut_string)
set_option linter.unusedVariables false
set_option linter.unusedSimpArgs false
set_option maxRecDepth 100000

theorem own : ownKnob Tryz.prog.godebug = none := by kernel_rfl
theorem laidOut : laidOutB Tryz.prog = true := by kernel_rfl

set_option maxHeartbeats 64000000 in
theorem walk (w : World) (a0 : Option Addr) (len0 cap0 : Nat) (w0 : ∃ f, TBIn w.heap.size w ⟨a0, len0, cap0, f⟩) (x1 : VT) (hx1 : VIn w.heap.size w x1) :
    Calls Tryz.prog 4 #[.slice a0 len0 cap0, .agg x1.cells.toArray] w fun e w' => e = .returned (.bool true) ∧ Below w.heap.size w w' := by
  obtain ⟨f, hT⟩ := w0
  obtain ⟨d, hda, hdn, hdc, hD⟩ : ∃ d : TB, d.a = a0 ∧ d.n = len0 ∧ d.cap = cap0 ∧ TBIn w.heap.size w d := ⟨⟨a0, len0, cap0, f⟩, rfl, rfl, rfl, hT⟩
  subst hda hdn hdc
  clear hT f
  have HD := Lib.hid (fun (W : World) (hb : Below w.heap.size w W) => hD.below hb (Nat.le_refl _))
  have HV := Lib.hid (fun (W : World) (hb : Below w.heap.size w W) => hx1.below hb (Nat.le_refl _))
  have HSM := Lib.hid (fun (W : World) (hb : Below w.heap.size w W) => small_ok w.heap.size W d (HD.out W hb) hb.size)
  have hfw := fun (W : World) (hb : Below w.heap.size w W) => few15_ok w.heap.size W x1 (HV.out W hb) hb.size
  obtain ⟨k0, m0, s0, nm0, a1, n1, cap1, ch1, hv0⟩ := vin_mk hx1
  have hcl : x1.cells = [.int .i64 k0, .int .i64 m0, .string s0, .slice nm0.a nm0.n nm0.cap, .slice a1 n1 cap1] := by rw [hv0, list5]
  have HCL := Lib.hid hcl
  have HV0 := Lib.hid hv0
  have HX := Lib.hid (Bx.new w #[.int .i64 k0, .int .i64 m0, .string s0, .slice nm0.a nm0.n nm0.cap, .slice a1 n1 cap1] 26)
  have HB := Lib.hid ((Below.refl w.heap.size w).alloc (Nat.le_refl _) (.cells #[.int .i64 k0, .int .i64 m0, .string s0, .slice nm0.a nm0.n nm0.cap, .slice a1 n1 cap1] 26))
  rw [hcl] at hfw ⊢
  have HFW := Lib.hid hfw
  clear hcl hv0 hD hx1 hfw
  go_enter Tryz.func4, Tryz.ntmps4
  go_wp2_with fail
  generalize w.alloc (.cells #[.int .i64 k0, .int .i64 m0, .string s0, .slice nm0.a nm0.n nm0.cap, .slice a1 n1 cap1] 26) = W0 at *
  refine (awake15_ok _).mono ?_
  rintro e wA ⟨rfl, h2⟩
  have HXA := Lib.hid (HX.out.below h2 HX.out.lt)
  have HBA := Lib.hid (HB.out.trans (h2.mono HB.out.size))
  clear h2
  go_wp2_with fail
  refine (HSM.out _ HBA.out).mono ?_
  rintro e wB ⟨r, rfl, hr, h2⟩
  have HXB := Lib.hid (HXA.out.below h2 HXA.out.lt)
  have HBB := Lib.hid (HBA.out.trans (h2.mono HBA.out.size))
  have HR := Lib.hid hr
  clear h2 hr
  cases r with
  | false =>
    go_wp2_with fail
    go_ret
    exact ⟨rfl, HBB.out⟩
  | true =>
  have HSZ := Lib.hid (HR.out rfl)
  have HSET := Lib.hid (show ∀ i, i < d.n → (d.f i).set.n ≤ 1000 from fun i hi => by have := (HSZ.out.2 i hi).1; omega)
  have HF := Lib.hid (HFW.out _ HBB.out)
  clear HR HFW
  generalize (fewV x1 && decide (x1.tx.size ≤ 10000)) = z at *
  obtain ⟨c0, c1, c2, c3, c4⟩ := fiveX HXB.out
  cases z with
  | false =>
    go_wp2_with fail
    refine HF.out.mono ?_
    rintro e wC ⟨rfl, h2⟩
    have HBC := Lib.hid (HBB.out.trans (h2.mono HBB.out.size))
    clear h2 c0 c1 c2 c3 c4
    go_wp2_with fail
    go_ret
    exact ⟨rfl, HBC.out⟩
  | true =>
  go_wp2_with fail
  refine HF.out.mono ?_
  rintro e wC ⟨rfl, h2⟩
  have HXC := Lib.hid (HXB.out.below h2 HXB.out.lt)
  have HBC := Lib.hid (HBB.out.trans (h2.mono HBB.out.size))
  clear h2 c0 c1 c2 c3 c4 HF HXA HXB HBA HBB HX HB HSM
  have hck := fun (W : World) (hb : Below w.heap.size w W) => check_ok w.heap.size W d x1 (HD.out W hb) (HV.out W hb) hb.size HSET.out
  rw [HCL.out] at hck
  have HCK := Lib.hid hck
  clear hck
  have hcn := fun (W : World) (hb : Below w.heap.size w W) => canon_ok w.heap.size W d x1 (HD.out W hb) (HV.out W hb) hb.size HSET.out
  rw [HCL.out] at hcn
  have HCN := Lib.hid hcn
  clear hcn
  obtain ⟨c0, c1, c2, c3, c4⟩ := fiveX HXC.out
  go_wp2_with fail
  refine (HCN.out _ HBC.out).mono ?_
  rintro e wD ⟨h2, ⟨h0, v2, rfl, hvi, hvb, hfu⟩ | ⟨h0, rfl⟩⟩
  · have HXD := Lib.hid (HXC.out.below h2 HXC.out.lt)
    have HBD := Lib.hid (HBC.out.trans (h2.mono HBC.out.size))
    have HC0 := Lib.hid h0
    have HFU := Lib.hid hfu
    have HVI := Lib.hid hvi
    rw [h0] at HCK
    obtain ⟨k2, m2, s2, nm2, a2, n2, cap2, ch2, hv2⟩ := vin_mk hvi
    have hcl2 : v2.cells = [.int .i64 k2, .int .i64 m2, .string s2, .slice nm2.a nm2.n nm2.cap, .slice a2 n2 cap2] := by rw [hv2, list5]
    obtain rfl : k2 = k0 := by
      have := VT.full_kind hfu
      rw [hv2, HV0.out] at this
      exact this
    have HCL2 := Lib.hid hcl2
    have HX6 := Lib.hid (Bx.new wD #[.int .i64 k2, .int .i64 m2, .string s2, .slice nm2.a nm2.n nm2.cap, .slice a2 n2 cap2] 26)
    have HXE := Lib.hid (HXD.out.alloc (.cells #[.int .i64 k2, .int .i64 m2, .string s2, .slice nm2.a nm2.n nm2.cap, .slice a2 n2 cap2] 26))
    have HBE := Lib.hid (HBD.out.alloc HBD.out.size (.cells #[.int .i64 k2, .int .i64 m2, .string s2, .slice nm2.a nm2.n nm2.cap, .slice a2 n2 cap2] 26))
    have HVE := Lib.hid (show VIn (wD.alloc (.cells #[.int .i64 k2, .int .i64 m2, .string s2, .slice nm2.a nm2.n nm2.cap, .slice a2 n2 cap2] 26)).heap.size (wD.alloc (.cells #[.int .i64 k2, .int .i64 m2, .string s2, .slice nm2.a nm2.n nm2.cap, .slice a2 n2 cap2] 26)) v2 from (hvi.below ((Below.refl wD.heap.size wD).alloc (Nat.le_refl _) _) (Nat.le_refl _)).below (Below.refl _ _) (by rw [World.size_alloc]; omega))
    obtain ⟨g6, hg6⟩ : ∃ g, wD.heap.size = g := ⟨_, rfl⟩
    rw [hcl2]
    clear h2 h0 hfu hvi hvb c0 c1 c2 c3 c4 hv2 hcl2
    go_upto_region 5 with (refine wpList_store_new rfl 26 (.tmp 6) (.tmp 24) rfl 5 _ [.int .i64 k2, .int .i64 m2, .string s2, .slice nm2.a nm2.n nm2.cap, .slice a2 n2 cap2] rfl (by rfl) info_V (by simp [Value.oneCell']) rfl rfl ?_)
    generalize wD.alloc (.cells #[.int .i64 k2, .int .i64 m2, .string s2, .slice nm2.a nm2.n nm2.cap, .slice a2 n2 cap2] 26) = wE at *
    rw [hg6] at HX6
    clear hg6
    obtain ⟨c0, c1, c2, c3, c4⟩ := fiveX HX6.out
    have hfv := FewValues_ok (wE.heap.size + 1) (wE.alloc (.cells v2.cells.toArray 26)) ⟨some ⟨wE.heap.size, 0, none⟩, 1, 1, fun _ => v2⟩ 5000 (one_dl _ HVE.out) (by rw [World.size_alloc]; omega) (by omega) (by omega)
    generalize decide (0 ≤ DL.fewD ⟨some ⟨wE.heap.size, 0, none⟩, 1, 1, fun _ => v2⟩ 5000) = zz at *
    rw [HCL2.out] at hfv
    have HFV := Lib.hid hfv
    have HXF := Lib.hid (HXE.out.alloc (.cells #[.int .i64 k2, .int .i64 m2, .string s2, .slice nm2.a nm2.n nm2.cap, .slice a2 n2 cap2] 26))
    have HX6F := Lib.hid (HX6.out.alloc (.cells #[.int .i64 k2, .int .i64 m2, .string s2, .slice nm2.a nm2.n nm2.cap, .slice a2 n2 cap2] 26))
    have HBF := Lib.hid (HBE.out.alloc HBE.out.size (.cells #[.int .i64 k2, .int .i64 m2, .string s2, .slice nm2.a nm2.n nm2.cap, .slice a2 n2 cap2] 26))
    have HVF := Lib.hid (show VIn (wE.alloc (.cells #[.int .i64 k2, .int .i64 m2, .string s2, .slice nm2.a nm2.n nm2.cap, .slice a2 n2 cap2] 26)).heap.size (wE.alloc (.cells #[.int .i64 k2, .int .i64 m2, .string s2, .slice nm2.a nm2.n nm2.cap, .slice a2 n2 cap2] 26)) v2 from (HVE.out.below ((Below.refl wE.heap.size wE).alloc (Nat.le_refl _) _) (Nat.le_refl _)).below (Below.refl _ _) (by rw [World.size_alloc]; omega))
    clear hfv
    cases zz with
    | false =>
      go_wp2_with fail
      refine HFV.out.mono ?_
      rintro e wG ⟨rfl, h2⟩
      have HBG := Lib.hid (HBF.out.trans (h2.mono HBF.out.size))
      clear h2 c0 c1 c2 c3 c4
      go_wp2_with fail
      go_ret
      exact ⟨rfl, HBG.out⟩
    | true =>
    go_wp2_with fail
    refine HFV.out.mono ?_
    rintro e wG ⟨rfl, h2⟩
    have HXG := Lib.hid (HXF.out.below h2 HXF.out.lt)
    have HX6G := Lib.hid (HX6F.out.below h2 HX6F.out.lt)
    have HBG := Lib.hid (HBF.out.trans (h2.mono HBF.out.size))
    have HVG := Lib.hid (show VIn wG.heap.size wG v2 from (HVF.out.below h2 (Nat.le_refl _)).below (Below.refl _ _) h2.size)
    clear h2 c0 c1 c2 c3 c4
    have hc2 := canon_ok wG.heap.size wG d v2 ((HD.out wG HBG.out).below (Below.refl _ _) HBG.out.size) HVG.out (Nat.le_refl _) HSET.out
    rw [HCL2.out] at hc2
    have HC2 := Lib.hid hc2
    clear hc2
    obtain ⟨c0, c1, c2, c3, c4⟩ := fiveX HX6G.out
    go_wp2_with fail
    refine HC2.out.mono ?_
    rintro e wH ⟨h2, ⟨h0, v3, rfl, hvi, hvb, hfu3⟩ | ⟨h0, _⟩⟩
    · obtain ⟨k3, m3, s3, nm3, a3, n3, cap3, ch3, hv3⟩ := vin_mk hvi
      have hcl3 : v3.cells = [.int .i64 k3, .int .i64 m3, .string s3, .slice nm3.a nm3.n nm3.cap, .slice a3 n3 cap3] := by rw [hv3, list5]
      have hb8 := (Below.refl wH.heap.size wH).alloc (Nat.le_refl _) (.cells #[.int .i64 k3, .int .i64 m3, .string s3, .slice nm3.a nm3.n nm3.cap, .slice a3 n3 cap3] 26)
      have HX8 := Lib.hid (Bx.new wH #[.int .i64 k3, .int .i64 m3, .string s3, .slice nm3.a nm3.n nm3.cap, .slice a3 n3 cap3] 26)
      have HXI := Lib.hid ((HXG.out.below h2 HXG.out.lt).alloc (.cells #[.int .i64 k3, .int .i64 m3, .string s3, .slice nm3.a nm3.n nm3.cap, .slice a3 n3 cap3] 26))
      have HX6I := Lib.hid ((HX6G.out.below h2 HX6G.out.lt).alloc (.cells #[.int .i64 k3, .int .i64 m3, .string s3, .slice nm3.a nm3.n nm3.cap, .slice a3 n3 cap3] 26))
      have hbh := HBG.out.trans (h2.mono HBG.out.size)
      have HBI := Lib.hid (hbh.alloc hbh.size (.cells #[.int .i64 k3, .int .i64 m3, .string s3, .slice nm3.a nm3.n nm3.cap, .slice a3 n3 cap3] 26))
      have hv2h : VIn wH.heap.size wH v2 := (HVG.out.below h2 (Nat.le_refl _)).below (Below.refl _ _) h2.size
      have HSA := Lib.hid (chk_twice HC0.out HFU.out hfu3)
      have hsm := fun (W : World) (hb : Below wH.heap.size wH W) => mSame_ok v2 v3 W.heap.size W ((hv2h.below hb (Nat.le_refl _)).below (Below.refl _ _) hb.size) ((hvi.below hb (Nat.le_refl _)).below (Below.refl _ _) hb.size) (Nat.le_refl _)
      rw [HSA.out, HCL2.out, hcl3] at hsm
      have HSM := Lib.hid hsm
      have HB8 := Lib.hid hb8
      rw [hcl3]
      obtain ⟨g8, hg8⟩ : ∃ g, wH.heap.size = g := ⟨_, rfl⟩
      clear h2 h0 hfu3 hvi hvb c0 c1 c2 c3 c4 hv3 hcl3 hb8 hbh hv2h hsm
      go_upto_region 10 with (refine wpList_store_new rfl 26 (.tmp 8) (.tmp 50) rfl 5 _ [.int .i64 k3, .int .i64 m3, .string s3, .slice nm3.a nm3.n nm3.cap, .slice a3 n3 cap3] rfl (by rfl) info_V (by simp [Value.oneCell']) rfl rfl ?_)
      generalize wH.alloc (.cells #[.int .i64 k3, .int .i64 m3, .string s3, .slice nm3.a nm3.n nm3.cap, .slice a3 n3 cap3] 26) = wI at *
      have HG8 := Lib.hid hg8
      rw [hg8] at HX8 HB8 HSM
      clear hg8
      obtain ⟨c0, c1, c2, c3, c4⟩ := fiveX HXI.out
      go_wp2_with fail
      refine (HCK.out _ HBI.out).mono ?_
      rintro e wJ ⟨rfl, h2⟩
      obtain ⟨d0, d1, d2, d3, d4⟩ := fiveX (HX6I.out.below h2 HX6I.out.lt)
      obtain ⟨e0, e1, e2, e3, e4⟩ := fiveX (HX8.out.below h2 HX8.out.lt)
      have HBJ := Lib.hid (HBI.out.trans (h2.mono HBI.out.size))
      have HXJ := Lib.hid (HXI.out.below h2 HXI.out.lt)
      have HX6J := Lib.hid (HX6I.out.below h2 HX6I.out.lt)
      have HBJ8 := Lib.hid (HB8.out.trans (h2.mono (by have h1 := HB8.out.size; have h2 := HG8.out; omega)))
      clear h2 c0 c1 c2 c3 c4
      go_wp2_with fail
      refine (HSM.out _ HBJ8.out).mono ?_
      rintro e wK ⟨rfl, h2⟩
      have c0 := (HXJ.out.below h2 HXJ.out.lt).cell 0 (v := .int .i64 k2) rfl
      have f0 := (HX6J.out.below h2 HX6J.out.lt).cell 0 (v := .int .i64 k2) rfl
      have HBK := Lib.hid (HBJ.out.trans (h2.mono HBJ.out.size))
      clear h2 d0 d1 d2 d3 d4 e0 e1 e2 e3 e4
      go_wp2_with fail
      go_ret
      exact ⟨rfl, HBK.out⟩
    · exact absurd (chk_full HC0.out HFU.out) h0
  · have HXD := Lib.hid (HXC.out.below h2 HXC.out.lt)
    have HBD := Lib.hid (HBC.out.trans (h2.mono HBC.out.size))
    generalize chk d x1 = q at *
    have q1 : (q != 0) = true := bne_iff_ne.2 h0
    have q2 : (q == 0) = false := beq_eq_false_iff_ne.2 h0
    have q3 : (q == q) = true := by simp
    have HX6 := Lib.hid (Bx.new wD #[.int .i64 0, .int .i64 0, .string ⟨#[]⟩, .slice none 0 0, .slice none 0 0] 26)
    have HXE := Lib.hid (HXD.out.alloc (.cells #[.int .i64 0, .int .i64 0, .string ⟨#[]⟩, .slice none 0 0, .slice none 0 0] 26))
    have HBE := Lib.hid (HBD.out.alloc HBD.out.size (.cells #[.int .i64 0, .int .i64 0, .string ⟨#[]⟩, .slice none 0 0, .slice none 0 0] 26))
    obtain ⟨g6, hg6⟩ : ∃ g, wD.heap.size = g := ⟨_, rfl⟩
    unfold zeroL
    clear h2 h0 c0 c1 c2 c3 c4
    go_upto_region 5 with (refine wpList_store_new rfl 26 (.tmp 6) (.tmp 24) rfl 5 _ [.int .i64 0, .int .i64 0, .string ⟨#[]⟩, .slice none 0 0, .slice none 0 0] rfl (by rfl) info_V (by simp [Value.oneCell']) rfl rfl ?_)
    generalize wD.alloc (.cells #[.int .i64 0, .int .i64 0, .string ⟨#[]⟩, .slice none 0 0, .slice none 0 0] 26) = wE at *
    rw [hg6] at HX6
    clear hg6
    obtain ⟨c0, c1, c2, c3, c4⟩ := fiveX HXE.out
    go_wp2_with fail
    refine (HCK.out _ HBE.out).mono ?_
    rintro e wF ⟨rfl, h2⟩
    have d0 := (HX6.out.below h2 HX6.out.lt).cell 0 (v := .int .i64 0) rfl
    have HBF := Lib.hid (HBE.out.trans (h2.mono HBE.out.size))
    clear h2 c0 c1 c2 c3 c4
    go_wp2_with fail
    go_ret
    exact ⟨rfl, HBF.out⟩

set_option maxRecDepth 100000 in
theorem lifted (os : Os) (started : os.Started) (H : Type) (enc : TypeId × Value → H) :
    ReturnsInHanded {} Tryz.checked os 4 .any (Rows.memberOnceSpec.pre6 enc Tryz.prog Tryz.f4 Rows.memberOnceRow.domain false) (Rows.memberOnceSpec.post enc Tryz.prog Tryz.f4 false true false false) := by
  refine handed_light (C := Tryz.checked) own started (by kernel_rfl) Tryz.func4
    (ChangeSpec.witness6 (enc := enc) (C := Tryz.checked) false ⟨#[], #[.slice none 0 0, .agg #[.int .i64 0, .int .i64 0, .string ByteArray.empty, .slice none 0 0, .slice none 0 0]], []⟩ 8 (by kernel_rfl) (by kernel_rfl) (by kernel_rfl) (by kernel_rfl)) ?_
  intro W base args ds gs before hval0 hW hsz0
  have hval : ∀ (j : Nat) t v, Tryz.f4.params[j]? = some t → args[j]? = some v → Value.okWide Tryz.prog W .any base t v := hval0
  have hW' := hW
  obtain ⟨p, q, hA0, hV, rfl, hfz, hnd⟩ := hW
  have hA : DataW.TrodAll enc Tryz.prog W 0 (fun _ => true) true Tryz.f4.params.toList args.toList ds p := hA0
  rw [Tryz.params4] at hA hval
  obtain ⟨v0, vs0, d0, ds0, p0, q0, hargs, rfl, rfl, h0, r0⟩ := trodAll_cons hA
  obtain ⟨v1, vs1, d1, ds1, p1, q1, rfl, rfl, rfl, h1, r1⟩ := trodAll_cons r0
  obtain ⟨rfl, rfl, rfl⟩ := trodAll_nil r1
  obtain rfl : args = #[v0, v1] := by cases args; simp_all
  obtain ⟨rfl, rfl⟩ := trodVars_none hV
  obtain ⟨a0, len0, cap0, rfl⟩ := okWide_slice Tryz.underlying22 (hval 0 22 v0 rfl rfl)
  have k0 := h0
  have lt0 : ∀ x ∈ p0, x.block < W.heap.size := by obtain ⟨m, hm⟩ := k0; exact DataW.trod_lt m _ _ _ hm
  have li0 : Light 22 d0 := light_each hsz0 0 _ _ rfl rfl
  have w0 := open_table h0 li0
  obtain ⟨cs1, rfl, _⟩ := okWide_struct Tryz.underlying26 (hval 1 26 v1 rfl rfl)
  have k1 := h1
  have lt1 : ∀ x ∈ p1, x.block < W.heap.size := by obtain ⟨m, hm⟩ := k1; exact DataW.trod_lt m _ _ _ hm
  have li1 : Light 26 d1 := light_each hsz0 1 _ _ rfl rfl
  obtain ⟨fuel1, hf1⟩ := h1
  obtain ⟨x1, hc1, hx1⟩ := open_val (W := W) fuel1 (cs := cs1.toList) hf1 li1
  obtain rfl : cs1 = x1.cells.toArray := by rw [← hc1]
  clear hA0 hval0
  refine (walk W a0 len0 cap0 w0 x1 hx1).mono fun e W' ⟨he, bel⟩ => ?_
  subst he
  exact ⟨_, rfl, _, _, _, [], _, [], hW', trodAll_mk1 (shut_bool Tryz.underlying4 _), (trodAll_cons_mk (Below.trod laidOut (by kernel_rfl) (of_decide_eq_true (by kernel_rfl)) k0 bel lt0) (trodAll_cons_mk (Below.trod laidOut (by kernel_rfl) (of_decide_eq_true (by kernel_rfl)) k1 bel lt1) trodAll_mk0)), rfl, bel.frame _, fun h => by cases h⟩

theorem over : Rows.memberOnceRow.holds Tryz.pinned (OpenSpec.ofChange Rows.memberOnceSpec) :=
  OpenClaim.holds_of_wide 4 Tryz.f4 rfl rfl rfl rfl rfl rfl rfl ⟨rfl, rfl, rfl, rfl, rfl⟩ rfl rfl rfl rfl rfl (by kernel_rfl) Tryz.func4 (by kernel_rfl)
    (of_decide_eq_true (by kernel_rfl)) (by unfold Func.isWrapper; first | (rw [if_pos (by decide +kernel)]; kernel_rfl) | (rw [if_neg (by decide +kernel)]; exact ⟨rfl, rfl⟩))
    (fun os started H enc _ => lifted os started H enc)

theorem proved : Rows.MemberOnceSaid := over
end Go.Proofs.YtmaghmdcagdkhaaGreat.memberOnce
