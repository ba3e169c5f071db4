/-
  The walk of the law: it always answers true.
-/
import Derived.Test.YtjhecpkdpomkmaaGreatRows
import Derived.Test.YtjhecpkdpomkmaaGreatRM
import Derived.Test.YtjhecpkdpomkmaaGreatQX
import Derived.Test.YtjhecpkdpomkmaaGreatQY
import Derived.ProofKit
import Derived.OpenShut
import Derived.ShutString
import Derived.ChangeOld
namespace Go.Proofs.YtjhecpkdpomkmaaGreat.memberCanons
open Go.ChangeShapes Go.WideShapes Go.ChangeAt Go.RowKit
open Go.ChangeMaps (open_string shut_string)
set_option linter.unusedVariables false
set_option linter.unusedSimpArgs false
set_option maxRecDepth 100000

theorem own : ownKnob Tryz.prog.godebug = none := by kernel_rfl
theorem laidOut : laidOutB Tryz.prog = true := by kernel_rfl

set_option maxHeartbeats 64000000 in
theorem walk (w : World) (a0 : Option Addr) (len0 cap0 : Nat) (w0 : ∃ f, TBIn w.heap.size w ⟨a0, len0, cap0, f⟩) (x1 : VT) (hx1 : VIn w.heap.size w x1) (x2 : VT) (hx2 : VIn w.heap.size w x2) :
    Calls Tryz.prog 3 #[.slice a0 len0 cap0, .agg x1.cells.toArray, .agg x2.cells.toArray] w fun e w' => e = .returned (.bool true) ∧ Below w.heap.size w w' := by
  obtain ⟨f, hT⟩ := w0
  obtain ⟨d, hda, hdn, hdc, hD⟩ : ∃ d : TB, d.a = a0 ∧ d.n = len0 ∧ d.cap = cap0 ∧ TBIn w.heap.size w d := ⟨⟨a0, len0, cap0, f⟩, rfl, rfl, rfl, hT⟩
  subst hda hdn hdc
  clear hT f
  have HD := Lib.hid (fun (W : World) (hb : Below w.heap.size w W) => hD.below hb (Nat.le_refl _))
  have HV := Lib.hid (fun (W : World) (hb : Below w.heap.size w W) => hx1.below hb (Nat.le_refl _))
  have HVZ := Lib.hid (fun (W : World) (hb : Below w.heap.size w W) => hx2.below hb (Nat.le_refl _))
  have HSM := Lib.hid (fun (W : World) (hb : Below w.heap.size w W) => small_ok w.heap.size W d (HD.out W hb) hb.size)
  have hfw := fun (W : World) (hb : Below w.heap.size w W) => few15_ok w.heap.size W x1 (HV.out W hb) hb.size
  have hfz := fun (W : World) (hb : Below w.heap.size w W) => few15_ok w.heap.size W x2 (HVZ.out W hb) hb.size
  obtain ⟨k0, m0, s0, nm0, a1, n1, cap1, ch1, hv0⟩ := vin_mk hx1
  obtain ⟨kz, mz, sz, nmz, az, nz, capz, chz, hvz⟩ := vin_mk hx2
  have hcl : x1.cells = [.int .i64 k0, .int .i64 m0, .string s0, .slice nm0.a nm0.n nm0.cap, .slice a1 n1 cap1] := by rw [hv0, list5]
  have hclz : x2.cells = [.int .i64 kz, .int .i64 mz, .string sz, .slice nmz.a nmz.n nmz.cap, .slice az nz capz] := by rw [hvz, list5]
  have HCL := Lib.hid hcl
  have HCLZ := Lib.hid hclz
  have HX := Lib.hid ((Bx.new w #[.int .i64 k0, .int .i64 m0, .string s0, .slice nm0.a nm0.n nm0.cap, .slice a1 n1 cap1] 26).alloc (.cells #[.int .i64 kz, .int .i64 mz, .string sz, .slice nmz.a nmz.n nmz.cap, .slice az nz capz] 26))
  have HY := Lib.hid (show Bx ((w.alloc (.cells #[.int .i64 k0, .int .i64 m0, .string s0, .slice nm0.a nm0.n nm0.cap, .slice a1 n1 cap1] 26)).alloc (.cells #[.int .i64 kz, .int .i64 mz, .string sz, .slice nmz.a nmz.n nmz.cap, .slice az nz capz] 26)) (w.heap.size + 1) #[.int .i64 kz, .int .i64 mz, .string sz, .slice nmz.a nmz.n nmz.cap, .slice az nz capz] 26 from by have h := Bx.new (w.alloc (.cells #[.int .i64 k0, .int .i64 m0, .string s0, .slice nm0.a nm0.n nm0.cap, .slice a1 n1 cap1] 26)) #[.int .i64 kz, .int .i64 mz, .string sz, .slice nmz.a nmz.n nmz.cap, .slice az nz capz] 26; rwa [World.size_alloc] at h)
  have HB := Lib.hid (((Below.refl w.heap.size w).alloc (Nat.le_refl _) (.cells #[.int .i64 k0, .int .i64 m0, .string s0, .slice nm0.a nm0.n nm0.cap, .slice a1 n1 cap1] 26)).alloc (by simp) (.cells #[.int .i64 kz, .int .i64 mz, .string sz, .slice nmz.a nmz.n nmz.cap, .slice az nz capz] 26))
  rw [hcl] at hfw
  rw [hclz] at hfz
  rw [hcl, hclz]
  have HFW := Lib.hid hfw
  have HFZ := Lib.hid hfz
  clear hcl hclz hv0 hvz hD hx1 hx2 hfw hfz
  go_enter Tryz.func3, Tryz.ntmps3
  go_wp2_with fail
  generalize (w.alloc (.cells #[.int .i64 k0, .int .i64 m0, .string s0, .slice nm0.a nm0.n nm0.cap, .slice a1 n1 cap1] 26)).alloc (.cells #[.int .i64 kz, .int .i64 mz, .string sz, .slice nmz.a nmz.n nmz.cap, .slice az nz capz] 26) = W0 at *
  refine (awake15_ok _).mono ?_
  rintro e wA ⟨rfl, h2⟩
  have HXA := Lib.hid (HX.out.below h2 HX.out.lt)
  have HYA := Lib.hid (HY.out.below h2 HY.out.lt)
  have HBA := Lib.hid (HB.out.trans (h2.mono HB.out.size))
  clear h2
  go_wp2_with fail
  refine (HSM.out _ HBA.out).mono ?_
  rintro e wB ⟨r, rfl, hr, h2⟩
  have HXB := Lib.hid (HXA.out.below h2 HXA.out.lt)
  have HYB := Lib.hid (HYA.out.below h2 HYA.out.lt)
  have HBB := Lib.hid (HBA.out.trans (h2.mono HBA.out.size))
  have HR := Lib.hid hr
  clear h2 hr
  cases r with
  | false =>
    go_wp2_with fail
    go_ret
    exact ⟨rfl, HBB.out⟩
  | true =>
  have HSZ := Lib.hid (HR.out rfl)
  have HSET := Lib.hid (show ∀ i, i < d.n → (d.f i).set.n ≤ 1000 from fun i hi => by have := (HSZ.out.2 i hi).1; omega)
  have HRS := Lib.hid (show ∀ i, i < d.n → rowSm (d.f i) from fun i hi => by
    obtain ⟨h1, h2, h3, h4, h5, h6⟩ := HSZ.out.2 i hi
    exact ⟨by omega, by omega, by omega, by omega, by omega, by omega⟩)
  clear HR
  have HF := Lib.hid (HFW.out _ HBB.out)
  generalize (fewV x1 && decide (x1.tx.size ≤ 10000)) = z at *
  obtain ⟨c0, c1, c2, c3, c4⟩ := fiveX HXB.out
  cases z with
  | false =>
    go_wp2_with fail
    refine HF.out.mono ?_
    rintro e wC ⟨rfl, h2⟩
    have HBC := Lib.hid (HBB.out.trans (h2.mono HBB.out.size))
    clear h2 c0 c1 c2 c3 c4
    go_wp2_with fail
    go_ret
    exact ⟨rfl, HBC.out⟩
  | true =>
  go_wp2_with fail
  refine HF.out.mono ?_
  rintro e wC ⟨rfl, h2⟩
  have HXC := Lib.hid (HXB.out.below h2 HXB.out.lt)
  have HYC := Lib.hid (HYB.out.below h2 HYB.out.lt)
  have HBC := Lib.hid (HBB.out.trans (h2.mono HBB.out.size))
  clear h2 c0 c1 c2 c3 c4 HF HXA HYA HXB HYB HBA HBB HX HY HB HSM HFW
  have HF := Lib.hid (HFZ.out _ HBC.out)
  generalize (fewV x2 && decide (x2.tx.size ≤ 10000)) = z at *
  obtain ⟨c0, c1, c2, c3, c4⟩ := fiveX HYC.out
  cases z with
  | false =>
    go_wp2_with fail
    refine HF.out.mono ?_
    rintro e wD ⟨rfl, h2⟩
    have HBD := Lib.hid (HBC.out.trans (h2.mono HBC.out.size))
    clear h2 c0 c1 c2 c3 c4
    go_wp2_with fail
    go_ret
    exact ⟨rfl, HBD.out⟩
  | true =>
  go_wp2_with fail
  refine HF.out.mono ?_
  rintro e wD ⟨rfl, h2⟩
  have HXD := Lib.hid (HXC.out.below h2 HXC.out.lt)
  have HYD := Lib.hid (HYC.out.below h2 HYC.out.lt)
  have HBD := Lib.hid (HBC.out.trans (h2.mono HBC.out.size))
  clear h2 c0 c1 c2 c3 c4 HF HXC HYC HBC HFZ
  have hcn := fun (W : World) (hb : Below w.heap.size w W) => canon_ok w.heap.size W d x1 (HD.out W hb) (HV.out W hb) hb.size HSET.out
  have hrc := fun (W : World) (hb : Below w.heap.size w W) => rCanon15_ok w.heap.size W d x1 (HD.out W hb) (HV.out W hb) hb.size HRS.out
  rw [HCL.out] at hcn hrc
  have HCN := Lib.hid hcn
  have HRC := Lib.hid hrc
  have HSAM := Lib.hid (fun (v2 v3 : VT) (h1 : chk d x1 = 0 → x1.full d 0 v2) (h2 : chk d x1 = 0 → x1.full d 0 v3) (h3 : chk d x1 ≠ 0 → v2 = leafV 0 0 ⟨#[]⟩) (h4 : chk d x1 ≠ 0 → v3 = leafV 0 0 ⟨#[]⟩) => canon_same h1 h2 h3 h4)
  clear hcn hrc
  obtain ⟨c0, c1, c2, c3, c4⟩ := fiveX HXD.out
  go_wp2_with fail
  refine (HCN.out _ HBD.out).mono ?_
  rintro e wE hce
  obtain ⟨h2, v2, rfl, hvi, hf2, hn2⟩ := hce.one
  obtain ⟨k2, m2, s2, nm2, a2, n2, cap2, ch2, hv2⟩ := vin_mk hvi
  have hcl2 : v2.cells = [.int .i64 k2, .int .i64 m2, .string s2, .slice nm2.a nm2.n nm2.cap, .slice a2 n2 cap2] := by rw [hv2, list5]
  have HCL2 := Lib.hid hcl2
  have HXE := Lib.hid ((HXD.out.below h2 HXD.out.lt).alloc (.cells #[.int .i64 k2, .int .i64 m2, .string s2, .slice nm2.a nm2.n nm2.cap, .slice a2 n2 cap2] 26))
  have HYE := Lib.hid ((HYD.out.below h2 HYD.out.lt).alloc (.cells #[.int .i64 k2, .int .i64 m2, .string s2, .slice nm2.a nm2.n nm2.cap, .slice a2 n2 cap2] 26))
  have HX8 := Lib.hid (Bx.new wE #[.int .i64 k2, .int .i64 m2, .string s2, .slice nm2.a nm2.n nm2.cap, .slice a2 n2 cap2] 26)
  have hbe := HBD.out.trans (h2.mono HBD.out.size)
  have HBE := Lib.hid (hbe.alloc hbe.size (.cells #[.int .i64 k2, .int .i64 m2, .string s2, .slice nm2.a nm2.n nm2.cap, .slice a2 n2 cap2] 26))
  have HVE := Lib.hid (show VIn (wE.alloc (.cells #[.int .i64 k2, .int .i64 m2, .string s2, .slice nm2.a nm2.n nm2.cap, .slice a2 n2 cap2] 26)).heap.size (wE.alloc (.cells #[.int .i64 k2, .int .i64 m2, .string s2, .slice nm2.a nm2.n nm2.cap, .slice a2 n2 cap2] 26)) v2 from (hvi.below ((Below.refl wE.heap.size wE).alloc (Nat.le_refl _) _) (Nat.le_refl _)).below (Below.refl _ _) (by rw [World.size_alloc]; omega))
  have HF2 := Lib.hid hf2
  have HN2 := Lib.hid hn2
  rw [hcl2]
  obtain ⟨g8, hg8⟩ : ∃ g, wE.heap.size = g := ⟨_, rfl⟩
  obtain ⟨q, hqe⟩ : ∃ q, chk d x1 = q := ⟨_, rfl⟩
  have HQE := Lib.hid hqe
  rw [hqe] at HF2 HN2 HSAM ⊢
  clear hqe
  clear h2 hce hvi hf2 hn2 hv2 hcl2 hbe c0 c1 c2 c3 c4
  go_upto_region 5 with (refine wpList_store_new rfl 26 (.tmp 8) (.tmp 31) rfl 5 _ [.int .i64 k2, .int .i64 m2, .string s2, .slice nm2.a nm2.n nm2.cap, .slice a2 n2 cap2] rfl (by rfl) info_V (by simp [Value.oneCell']) rfl rfl ?_)
  (try dsimp only [Act.put])
  generalize wE.alloc (.cells #[.int .i64 k2, .int .i64 m2, .string s2, .slice nm2.a nm2.n nm2.cap, .slice a2 n2 cap2] 26) = wF at *
  rw [hg8] at HX8
  (try rw [hg8])
  clear hg8
  obtain ⟨c0, c1, c2, c3, c4⟩ := fiveX HXE.out
  go_wp2_with fail
  refine (HRC.out _ HBE.out).mono ?_
  rintro e wG hce
  obtain ⟨h2, v3, rfl, hvi, hf3, hn3⟩ := (by have h := hce.one; rw [HQE.out] at h; exact h : Below wF.heap.size wF wG ∧ ∃ v', e = .returned (.tuple #[.agg v'.cells.toArray, .int .i64 q]) ∧ VIn wG.heap.size wG v' ∧ (q = 0 → x1.full d 0 v') ∧ (q ≠ 0 → v' = leafV 0 0 ⟨#[]⟩))
  obtain ⟨k3, m3, s3, nm3, a3, n3, cap3, ch3, hv3⟩ := vin_mk hvi
  have hcl3 : v3.cells = [.int .i64 k3, .int .i64 m3, .string s3, .slice nm3.a nm3.n nm3.cap, .slice a3 n3 cap3] := by rw [hv3, list5]
  have HCL3 := Lib.hid hcl3
  have HXI := Lib.hid ((HXE.out.below h2 HXE.out.lt).alloc (.cells #[.int .i64 k3, .int .i64 m3, .string s3, .slice nm3.a nm3.n nm3.cap, .slice a3 n3 cap3] 26))
  have HYI := Lib.hid ((HYE.out.below h2 HYE.out.lt).alloc (.cells #[.int .i64 k3, .int .i64 m3, .string s3, .slice nm3.a nm3.n nm3.cap, .slice a3 n3 cap3] 26))
  have HX8I := Lib.hid ((HX8.out.below h2 HX8.out.lt).alloc (.cells #[.int .i64 k3, .int .i64 m3, .string s3, .slice nm3.a nm3.n nm3.cap, .slice a3 n3 cap3] 26))
  have HX10 := Lib.hid (Bx.new wG #[.int .i64 k3, .int .i64 m3, .string s3, .slice nm3.a nm3.n nm3.cap, .slice a3 n3 cap3] 26)
  have hbg := HBE.out.trans (h2.mono HBE.out.size)
  have HBI := Lib.hid (hbg.alloc hbg.size (.cells #[.int .i64 k3, .int .i64 m3, .string s3, .slice nm3.a nm3.n nm3.cap, .slice a3 n3 cap3] 26))
  have hal := (Below.refl wG.heap.size wG).alloc (Nat.le_refl _) (.cells #[.int .i64 k3, .int .i64 m3, .string s3, .slice nm3.a nm3.n nm3.cap, .slice a3 n3 cap3] 26)
  have HV2I := Lib.hid (show VIn (wG.alloc (.cells #[.int .i64 k3, .int .i64 m3, .string s3, .slice nm3.a nm3.n nm3.cap, .slice a3 n3 cap3] 26)).heap.size (wG.alloc (.cells #[.int .i64 k3, .int .i64 m3, .string s3, .slice nm3.a nm3.n nm3.cap, .slice a3 n3 cap3] 26)) v2 from (((HVE.out.below h2 (Nat.le_refl _)).below (Below.refl _ _) h2.size).below hal (Nat.le_refl _)).below (Below.refl _ _) hal.size)
  have HV3I := Lib.hid (show VIn (wG.alloc (.cells #[.int .i64 k3, .int .i64 m3, .string s3, .slice nm3.a nm3.n nm3.cap, .slice a3 n3 cap3] 26)).heap.size (wG.alloc (.cells #[.int .i64 k3, .int .i64 m3, .string s3, .slice nm3.a nm3.n nm3.cap, .slice a3 n3 cap3] 26)) v3 from (hvi.below hal (Nat.le_refl _)).below (Below.refl _ _) hal.size)
  have HSE := Lib.hid (show v2.same v3 = true from HSAM.out v2 v3 HF2.out hf3 HN2.out hn3)
  rw [hcl3]
  obtain ⟨g10, hg10⟩ : ∃ g, wG.heap.size = g := ⟨_, rfl⟩
  clear h2 hce hvi hf3 hn3 hv3 hcl3 hbg hal c0 c1 c2 c3 c4
  go_upto_region 6 with (refine wpList_store_new rfl 26 (.tmp 10) (.tmp 37) rfl 5 _ [.int .i64 k3, .int .i64 m3, .string s3, .slice nm3.a nm3.n nm3.cap, .slice a3 n3 cap3] rfl (by rfl) info_V (by simp [Value.oneCell']) rfl rfl ?_)
  (try dsimp only [Act.put])
  generalize wG.alloc (.cells #[.int .i64 k3, .int .i64 m3, .string s3, .slice nm3.a nm3.n nm3.cap, .slice a3 n3 cap3] 26) = wI at *
  rw [hg10] at HX10
  (try rw [hg10])
  clear hg10
  have hsz := HBI.out.size
  have hs1 := fun (dd : Nat) (os : Array Obj) => Calls.regrown_of (rSame15_ok wI.heap.size (Go.Sort.grow (redrawn wI dd) os) v2 v3 (HV2I.out.below (below_regrown wI dd os) (Nat.le_refl _)) (HV3I.out.below (below_regrown wI dd os) (Nat.le_refl _)) (below_regrown wI dd os).size)
  have hs2 := fun (dd : Nat) (os : Array Obj) => Calls.regrown_of (rSame15_ok wI.heap.size (Go.Sort.grow (redrawn wI dd) os) x1 x2 (((HV.out _ HBI.out).below (Below.refl _ _) hsz).below (below_regrown wI dd os) (Nat.le_refl _)) (((HVZ.out _ HBI.out).below (Below.refl _ _) hsz).below (below_regrown wI dd os) (Nat.le_refl _)) (below_regrown wI dd os).size)
  have hs3 := fun (dd : Nat) (os : Array Obj) => Calls.regrown_of (mSame_ok x1 x2 wI.heap.size (Go.Sort.grow (redrawn wI dd) os) (((HV.out _ HBI.out).below (Below.refl _ _) hsz).below (below_regrown wI dd os) (Nat.le_refl _)) (((HVZ.out _ HBI.out).below (Below.refl _ _) hsz).below (below_regrown wI dd os) (Nat.le_refl _)) (below_regrown wI dd os).size)
  rw [HSE.out, HCL2.out, HCL3.out] at hs1
  obtain ⟨zz, hzz⟩ : ∃ z, x1.same x2 = z := ⟨_, rfl⟩
  rw [hzz, HCL.out, HCLZ.out] at hs2 hs3
  have H1 := Lib.hid hs1
  have H2 := Lib.hid hs2
  have H3 := Lib.hid hs3
  obtain ⟨c0, c1, c2, c3, c4⟩ := fiveX HXI.out
  obtain ⟨d0, d1, d2, d3, d4⟩ := fiveX HYI.out
  obtain ⟨e0, e1, e2, e3, e4⟩ := fiveX HX8I.out
  obtain ⟨f0, f1, f2, f3, f4⟩ := fiveX HX10.out
  have qq : (q == q) = true := by simp
  have zq : (zz == zz) = true := by simp
  have rc0 := fun dd os => cell_regrown c0 dd os
  have rc1 := fun dd os => cell_regrown c1 dd os
  have rc2 := fun dd os => cell_regrown c2 dd os
  have rc3 := fun dd os => cell_regrown c3 dd os
  have rc4 := fun dd os => cell_regrown c4 dd os
  have rd0 := fun dd os => cell_regrown d0 dd os
  have rd1 := fun dd os => cell_regrown d1 dd os
  have rd2 := fun dd os => cell_regrown d2 dd os
  have rd3 := fun dd os => cell_regrown d3 dd os
  have rd4 := fun dd os => cell_regrown d4 dd os
  have re0 := fun dd os => cell_regrown e0 dd os
  have re1 := fun dd os => cell_regrown e1 dd os
  have re2 := fun dd os => cell_regrown e2 dd os
  have re3 := fun dd os => cell_regrown e3 dd os
  have re4 := fun dd os => cell_regrown e4 dd os
  have rf0 := fun dd os => cell_regrown f0 dd os
  have rf1 := fun dd os => cell_regrown f1 dd os
  have rf2 := fun dd os => cell_regrown f2 dd os
  have rf3 := fun dd os => cell_regrown f3 dd os
  have rf4 := fun dd os => cell_regrown f4 dd os
  clear hs1 hs2 hs3 hzz c0 c1 c2 c3 c4 d0 d1 d2 d3 d4 e0 e1 e2 e3 e4 f0 f1 f2 f3 f4
  refine wp_region_quiet_below (by kernel_rfl) (by kernel_rfl) ?_
  go_big_quiet_step (fail)
  go_big_quiet_step (fail)
  go_big_quiet_step (fail)
  go_big_quiet_step (fail)
  go_big_quiet_step (fail)
  go_big_quiet_step (fail)
  go_big_quiet_step (fail)
  go_big_quiet_step (fail)
  go_big_quiet_step (fail)
  go_big_quiet_step (exact H1.out _ _)
  go_big_quiet_step (fail)
  go_big_quiet_step (fail)
  go_big_quiet_step (fail)
  go_big_quiet_step (fail)
  go_big_quiet_step (exact H3.out _ _)
  go_big_quiet_step (fail)
  go_big_quiet_step (fail)
  go_big_quiet_step (exact H2.out _ _)
  go_big_quiet_step (fail)
  go_big_quiet_step (fail)
  go_big_quiet_step (fail)
  refine wpQuiet_nil ?_
  intro _ hw'
  obtain ⟨⟨dq, osq⟩, hw''⟩ := hw'
  subst hw''
  have HB9 := Lib.hid (HBI.out.trans ((below_regrown wI dq osq).mono hsz))
  clear rc0 rc1 rc2 rc3 rc4 rd0 rd1 rd2 rd3 rd4 re0 re1 re2 re3 re4 rf0 rf1 rf2 rf3 rf4
  generalize Go.Sort.grow (redrawn wI dq) osq = wJ at *
  go_wp2_with fail
  go_ret
  exact ⟨by first | rfl | simp, HB9.out⟩

end Go.Proofs.YtjhecpkdpomkmaaGreat.memberCanons
