/-
  Proved: the statement MemberKinds (a value is of one kind: with another kind, or another name or part, it is not of the type), for every input; no further condition.
-/
import Derived.Test.YtmaghmdcagdkhaaGreatRows
import Derived.Test.YtmaghmdcagdkhaaGreatQX
import Derived.Test.YtmaghmdcagdkhaaGreatQY
import Derived.ProofKit
import Derived.OpenShut
import Derived.ShutString
import Derived.ChangeOld
namespace Go.Proofs.YtmaghmdcagdkhaaGreat.memberKinds
open Go.ChangeShapes Go.WideShapes Go.ChangeAt Go.RowKit
open Go.ChangeMaps (open_string shut_string)
set_option linter.unusedVariables false
set_option linter.unusedSimpArgs false
set_option maxRecDepth 100000

theorem own : ownKnob Tryz.prog.godebug = none := by kernel_rfl
theorem laidOut : laidOutB Tryz.prog = true := by kernel_rfl

set_option maxHeartbeats 64000000 in
theorem walk (w : World) (a0 : Option Addr) (len0 cap0 : Nat) (w0 : ∃ f, TBIn w.heap.size w ⟨a0, len0, cap0, f⟩) (x1 : VT) (hx1 : VIn w.heap.size w x1) (a2 : Int) (w2 : (Lit.int .i64 a2).wf = true) :
    Calls Tryz.prog 5 #[.slice a0 len0 cap0, .agg x1.cells.toArray, .int .i64 a2] w fun e w' => e = .returned (.bool true) ∧ Below w.heap.size w w' := by
  obtain ⟨f, hT⟩ := w0
  obtain ⟨d, hda, hdn, hdc, hD⟩ : ∃ d : TB, d.a = a0 ∧ d.n = len0 ∧ d.cap = cap0 ∧ TBIn w.heap.size w d := ⟨⟨a0, len0, cap0, f⟩, rfl, rfl, rfl, hT⟩
  subst hda hdn hdc
  clear hT f
  have HD := Lib.hid (fun (W : World) (hb : Below w.heap.size w W) => hD.below hb (Nat.le_refl _))
  have HV := Lib.hid (fun (W : World) (hb : Below w.heap.size w W) => hx1.below hb (Nat.le_refl _))
  have HSM := Lib.hid (fun (W : World) (hb : Below w.heap.size w W) => small_ok w.heap.size W d (HD.out W hb) hb.size)
  have hfw := fun (W : World) (hb : Below w.heap.size w W) => few15_ok w.heap.size W x1 (HV.out W hb) hb.size
  obtain ⟨k0, m0, s0, nm0, a1, n1, cap1, ch1, hv0⟩ := vin_mk hx1
  have hcl : x1.cells = [.int .i64 k0, .int .i64 m0, .string s0, .slice nm0.a nm0.n nm0.cap, .slice a1 n1 cap1] := by rw [hv0, list5]
  have HCL := Lib.hid hcl
  have HV0 := Lib.hid hv0
  have HX := Lib.hid (Bx.new w #[.int .i64 k0, .int .i64 m0, .string s0, .slice nm0.a nm0.n nm0.cap, .slice a1 n1 cap1] 26)
  have HB := Lib.hid ((Below.refl w.heap.size w).alloc (Nat.le_refl _) (.cells #[.int .i64 k0, .int .i64 m0, .string s0, .slice nm0.a nm0.n nm0.cap, .slice a1 n1 cap1] 26))
  rw [hcl] at hfw ⊢
  have HFW := Lib.hid hfw
  clear hcl hv0 hD hx1 hfw
  go_enter Tryz.func5, Tryz.ntmps5
  go_wp2_with fail
  generalize w.alloc (.cells #[.int .i64 k0, .int .i64 m0, .string s0, .slice nm0.a nm0.n nm0.cap, .slice a1 n1 cap1] 26) = W0 at *
  refine (awake15_ok _).mono ?_
  rintro e wA ⟨rfl, h2⟩
  have HXA := Lib.hid (HX.out.below h2 HX.out.lt)
  have HBA := Lib.hid (HB.out.trans (h2.mono HB.out.size))
  clear h2
  go_wp2_with fail
  refine (HSM.out _ HBA.out).mono ?_
  rintro e wB ⟨r, rfl, hr, h2⟩
  have HXB := Lib.hid (HXA.out.below h2 HXA.out.lt)
  have HBB := Lib.hid (HBA.out.trans (h2.mono HBA.out.size))
  have HR := Lib.hid hr
  clear h2 hr
  cases r with
  | false =>
    go_wp2_with fail
    go_ret
    exact ⟨rfl, HBB.out⟩
  | true =>
  have HSZ := Lib.hid (HR.out rfl)
  have HSET := Lib.hid (show ∀ i, i < d.n → (d.f i).set.n ≤ 1000 from fun i hi => by have := (HSZ.out.2 i hi).1; omega)
  have HF := Lib.hid (HFW.out _ HBB.out)
  clear HR HFW
  generalize (fewV x1 && decide (x1.tx.size ≤ 10000)) = z at *
  obtain ⟨c0, c1, c2, c3, c4⟩ := fiveX HXB.out
  cases z with
  | false =>
    go_wp2_with fail
    refine HF.out.mono ?_
    rintro e wC ⟨rfl, h2⟩
    have HBC := Lib.hid (HBB.out.trans (h2.mono HBB.out.size))
    clear h2 c0 c1 c2 c3 c4
    go_wp2_with fail
    go_ret
    exact ⟨rfl, HBC.out⟩
  | true =>
  go_wp2_with fail
  refine HF.out.mono ?_
  rintro e wC ⟨rfl, h2⟩
  have HXC := Lib.hid (HXB.out.below h2 HXB.out.lt)
  have HBC := Lib.hid (HBB.out.trans (h2.mono HBB.out.size))
  clear h2 c0 c1 c2 c3 c4 HF HXA HXB HBA HBB HX HB HSM
  have hck := fun (W : World) (hb : Below w.heap.size w W) => check_ok w.heap.size W d x1 (HD.out W hb) (HV.out W hb) hb.size HSET.out
  rw [HCL.out] at hck
  have HCK := Lib.hid hck
  clear hck
  obtain ⟨c0, c1, c2, c3, c4⟩ := fiveX HXC.out
  by_cases hc0 : chk d x1 = 0
  case neg =>
    generalize chk d x1 = q at *
    have q1 : (q != 0) = true := bne_iff_ne.2 hc0
    have q2 : (q == 0) = false := beq_eq_false_iff_ne.2 hc0
    clear hc0
    go_wp2_with fail
    refine (HCK.out _ HBC.out).mono ?_
    rintro e wD ⟨rfl, h2⟩
    have HBD := Lib.hid (HBC.out.trans (h2.mono HBC.out.size))
    clear h2 c0 c1 c2 c3 c4
    go_wp2_with fail
    go_ret
    exact ⟨rfl, HBD.out⟩
  case pos =>
  have HC0 := Lib.hid hc0
  rw [hc0] at HCK
  clear hc0
  go_wp2_with fail
  refine (HCK.out _ HBC.out).mono ?_
  rintro e wD ⟨rfl, h2⟩
  have HXD := Lib.hid (HXC.out.below h2 HXC.out.lt)
  have HBD := Lib.hid (HBC.out.trans (h2.mono HBC.out.size))
  clear h2 c0 c1 c2 c3 c4
  obtain ⟨hnm, hn1⟩ : nm0.n ≤ 512 ∧ n1 ≤ 1048576 := by
    have h := HC0.out
    rw [HV0.out] at h
    exact chk_small h
  have hi2 : I64 a2 := by simp [Lit.wf, IntKind.min, IntKind.max, IntKind.signed, IntKind.bits] at w2; unfold I64; omega
  have HI2 := Lib.hid hi2
  have hvd : VIn wD.heap.size wD x1 := (HV.out wD HBD.out).below (Below.refl _ _) HBD.out.size
  rw [HV0.out] at hvd
  have HVD := Lib.hid hvd
  obtain ⟨i0, hi0, hz0, hz1, hz2⟩ := info_parts info_Sz
  obtain ⟨j0, hj0, hj1, hj2, hj3⟩ := info_parts info_Vz
  -- the names, the values, as what is appended
  have HLN := Lib.hid (flatC_len (f := fun i => [Value.string (nm0.f i)]) (k := nm0.n) (K := 1) fun i _ => rfl)
  have HON := Lib.hid (flatC_one (f := fun i => [Value.string (nm0.f i)]) (k := nm0.n) fun i _ v hv => (by simp at hv; subst hv; rfl))
  have HNN := Lib.hid (row_newsC (K := 1) (by omega) hvd.1.2.2.2.1 fun i _ => rfl)
  have HLV := Lib.hid (flatC_len (f := fun i => (ch1 i).cells) (k := n1) (K := 5) fun i hi => (one_vcells (hvd.2.2 i hi)).1)
  have HOV := Lib.hid (flatC_one (f := fun i => (ch1 i).cells) (k := n1) fun i hi => (one_vcells (hvd.2.2 i hi)).2)
  have HNV := Lib.hid (row_newsC (K := 5) (by omega) hvd.2.1 fun i hi => (one_vcells (hvd.2.2 i hi)).1)
  have HNMS := Lib.hid (fun (W : World) (v : Value) (A : Nat) (h : W.ownsRow A 9 1 v (0 + nm0.n + 1) ([] ++ flatC (fun i => [Value.string (nm0.f i)]) nm0.n ++ [.string ⟨#[110, 111, 45, 115, 117, 99, 104, 45, 110, 97, 109, 101]⟩])) =>
    own_snocC (g := fun i => [.string (if i < nm0.n then nm0.f i else ⟨#[110, 111, 45, 115, 117, 99, 104, 45, 110, 97, 109, 101]⟩)]) h (fun i hi => by rw [if_pos hi]) (by rw [if_neg (Nat.lt_irrefl _)]) (fun i _ => rfl) (by omega))
  have HLST := Lib.hid (fun (W : World) (v : Value) (A : Nat) (h : W.ownsRow A 26 5 v (0 + n1 + 1) ([] ++ flatC (fun i => (ch1 i).cells) n1 ++ [.int .i64 0, .int .i64 0, .string ⟨#[]⟩, .slice none 0 0, .slice none 0 0])) =>
    own_snocC (g := fun i => (if i < n1 then ch1 i else leafV 0 0 ⟨#[]⟩).cells) h (fun i hi => by rw [if_pos hi]) (by rw [if_neg (Nat.lt_irrefl _)]; rfl) (fun i hi => by
      by_cases h2 : i < n1
      · rw [if_pos h2]; exact (one_vcells (hvd.2.2 i h2)).1
      · rw [if_neg h2]; rfl) (by omega))
  obtain ⟨FN, hfn⟩ : ∃ l, flatC (fun i => [Value.string (nm0.f i)]) nm0.n = l := ⟨_, rfl⟩
  obtain ⟨FV, hfv⟩ : ∃ l, flatC (fun i => (ch1 i).cells) n1 = l := ⟨_, rfl⟩
  rw [hfn] at HLN HON HNN HNMS
  rw [hfv] at HLV HOV HNV HLST
  obtain ⟨nn, hnn⟩ : ∃ n, nm0.n = n := ⟨_, rfl⟩
  have HNE := Lib.hid hnn
  obtain ⟨na, hna⟩ : ∃ n, nm0.a = n := ⟨_, rfl⟩
  obtain ⟨nc, hnc⟩ : ∃ n, nm0.cap = n := ⟨_, rfl⟩
  have HNA := Lib.hid hna
  have HNC := Lib.hid hnc
  rw [hnn] at HLN HNN hnm HNMS
  rw [hna, hnc] at HNN
  -- the first copy: another kind
  have HX8 := Lib.hid (Bx.new wD #[.int .i64 k0, .int .i64 m0, .string s0, .slice nm0.a nm0.n nm0.cap, .slice a1 n1 cap1] 26)
  have HB8 := Lib.hid ((Below.refl wD.heap.size wD).alloc (Nat.le_refl _) (.cells #[.int .i64 k0, .int .i64 m0, .string s0, .slice nm0.a nm0.n nm0.cap, .slice a1 n1 cap1] 26))
  have HXD1 := Lib.hid (HXD.out.alloc (.cells #[.int .i64 k0, .int .i64 m0, .string s0, .slice nm0.a nm0.n nm0.cap, .slice a1 n1 cap1] 26))
  obtain ⟨c0, c1, c2, c3, c4⟩ := fiveX HXD.out
  clear hvd hfn hfv hnn hna hnc hi2
  go_upto_region 5 with (refine wpList_store_new rfl 26 (.tmp 8) (.tmp 27) rfl 5 _ [.int .i64 k0, .int .i64 m0, .string s0, .slice nm0.a nm0.n nm0.cap, .slice a1 n1 cap1] rfl (by rfl) info_V (by simp [Value.oneCell']) rfl rfl ?_)
  obtain ⟨bD, hbd⟩ : ∃ b, wD.heap.size = b := ⟨_, rfl⟩
  generalize hw1 : wD.alloc (.cells #[.int .i64 k0, .int .i64 m0, .string s0, .slice nm0.a nm0.n nm0.cap, .slice a1 n1 cap1] 26) = wD1 at *
  have HSZ1 := Lib.hid (show wD1.heap.size = bD + 1 from by rw [← hw1, ← hbd, World.size_alloc])
  have HLT := Lib.hid (show w.heap.size < bD from by rw [← hbd]; exact HXD.out.lt)
  have HBD8 := Lib.hid (HBD.out.trans (HB8.out.mono HBD.out.size))
  rw [hbd] at HX8 HB8 ⊢
  have HBW := Lib.hid hbd
  clear hbd hw1 c0 c1 c2 c3 c4
  have y0 := HX8.out.cell 0 (v := .int .i64 k0) rfl
  have z0 := frozenM HX8.out 0
  have HX8b := Lib.hid (bx_fieldM HX8.out 0 (.int .i64 a2))
  have HXE := Lib.hid (show Bx (wD1.setCell ⟨bD, 0, none⟩ (.int .i64 a2)) w.heap.size #[.int .i64 k0, .int .i64 m0, .string s0, .slice nm0.a nm0.n nm0.cap, .slice a1 n1 cap1] 26 from bx_farM HXD1.out (by have := HLT.out; omega))
  have HBE := Lib.hid (below_fieldM (b := bD) (j := 0) (v := .int .i64 a2) HBD8.out (by have := HLT.out; omega))
  have HBED := Lib.hid (below_fieldM (b := bD) (j := 0) (v := .int .i64 a2) HB8.out (Nat.le_refl bD))
  have HSZE := Lib.hid (show (wD1.setCell ⟨bD, 0, none⟩ (.int .i64 a2)).heap.size = bD + 1 from by simpa using HSZ1.out)
  go_upto_region 6 with fail
  generalize wD1.setCell ⟨bD, 0, none⟩ (.int .i64 a2) = wE at *
  clear y0 z0
  -- the second copy: another name
  have HX9 := Lib.hid (Bx.new wE #[.int .i64 k0, .int .i64 m0, .string s0, .slice nm0.a nm0.n nm0.cap, .slice a1 n1 cap1] 26)
  have HB9 := Lib.hid ((Below.refl wE.heap.size wE).alloc (Nat.le_refl _) (.cells #[.int .i64 k0, .int .i64 m0, .string s0, .slice nm0.a nm0.n nm0.cap, .slice a1 n1 cap1] 26))
  have HXF := Lib.hid (HXE.out.alloc (.cells #[.int .i64 k0, .int .i64 m0, .string s0, .slice nm0.a nm0.n nm0.cap, .slice a1 n1 cap1] 26))
  rw [HSZE.out] at HX9 HB9
  have HBF := Lib.hid (HBE.out.trans (show Below w.heap.size wE (wE.alloc (.cells #[.int .i64 k0, .int .i64 m0, .string s0, .slice nm0.a nm0.n nm0.cap, .slice a1 n1 cap1] 26)) from HB9.out.mono (by have := HLT.out; omega)))
  have HBFD := Lib.hid (HBED.out.trans (show Below bD wE (wE.alloc (.cells #[.int .i64 k0, .int .i64 m0, .string s0, .slice nm0.a nm0.n nm0.cap, .slice a1 n1 cap1] 26)) from HB9.out.mono (by omega)))
  have HSZF := Lib.hid (show (wE.alloc (.cells #[.int .i64 k0, .int .i64 m0, .string s0, .slice nm0.a nm0.n nm0.cap, .slice a1 n1 cap1] 26)).heap.size = bD + 2 from by rw [World.size_alloc, HSZE.out])
  have HX8F := Lib.hid (HX8b.out.alloc (.cells #[.int .i64 k0, .int .i64 m0, .string s0, .slice nm0.a nm0.n nm0.cap, .slice a1 n1 cap1] 26))
  obtain ⟨c0, c1, c2, c3, c4⟩ := fiveX HXE.out
  go_upto_region 7 with (refine wpList_store_new rfl 26 (.tmp 9) (.tmp 30) rfl 5 _ [.int .i64 k0, .int .i64 m0, .string s0, .slice nm0.a nm0.n nm0.cap, .slice a1 n1 cap1] rfl (by rfl) info_V (by simp [Value.oneCell']) rfl rfl ?_)
  rw [HSZE.out]
  generalize wE.alloc (.cells #[.int .i64 k0, .int .i64 m0, .string s0, .slice nm0.a nm0.n nm0.cap, .slice a1 n1 cap1] 26) = wF at *
  clear c0 c1 c2 c3 c4
  have HO0 := Lib.hid (World.ownsRow_lit (base := wF.heap.size) (e := 9) (size := 1) wF #[] 0 (Nat.le_refl _) (by unfold maxLen; omega) (by rfl))
  have HBN := Lib.hid ((Below.refl wF.heap.size wF).alloc (Nat.le_refl _) (.cells #[] 9))
  have hc3 : ∀ o, (wF.alloc o).cell? ⟨w.heap.size, 3, none⟩ = some (.slice na nn nc) := fun o => by
    have h := (HXF.out.alloc o).cell 3 (v := .slice nm0.a nm0.n nm0.cap) rfl
    rwa [HNE.out, HNA.out, HNC.out] at h
  have HBLN := Lib.hid (show Below bD wD (wF.alloc (.cells #[] 9)) from HBFD.out.trans (show Below bD wF (wF.alloc (.cells #[] 9)) from HBN.out.mono (by rw [HSZF.out]; omega)))
  rw [HBW.out] at HNN HNV
  go_upto_region 8 with (first
    | (at_builtin; refine wpList_append_rowM rfl (.tmp 31) (.tmp 33) 23 rfl wF.heap.size 9 i0 (.string ⟨#[]⟩) 1 16 Tryz.underlying23 hi0 hz0 hz1 hz2 rfl (by decide) _ 0 [] rfl HO0.out na nn nc FN rfl HLN.out (HNN.out.imp id fun ⟨ad, h1, h2⟩ => ⟨ad, h1, h2 _ HBLN.out⟩) HON.out (by unfold maxLen; omega) (by omega) HBN.out.size ?_; intro v1 wa ho hg; have HOA := Lib.hid ho; have HBA1 := Lib.hid (HBN.out.grown hg HBN.out.size (fun j hj => (HO0.out.lt j hj).1)); clear ho hg)
    | (at_builtin; refine wpList_append_rowM rfl (.tmp 34) (.tmp 35) 23 rfl wF.heap.size 9 i0 (.string ⟨#[]⟩) 1 16 Tryz.underlying23 hi0 hz0 hz1 hz2 rfl (by decide) v1 (0 + nn) ([] ++ FN) rfl (World.ownsRow.alloc HOA.out _) (some ⟨wa.heap.size, 0, none⟩) 1 1 [.string ⟨#[110, 111, 45, 115, 117, 99, 104, 45, 110, 97, 109, 101]⟩] rfl rfl (.inr ⟨_, rfl, cells_new _ _ _⟩) (by simp [Value.oneCell']) (by unfold maxLen; omega) (by omega) (by rw [World.size_alloc]; have := HBA1.out.size; omega) ?_; intro v2 wb ho hg; have HBB1 := Lib.hid (show Below wF.heap.size wF wb from (HBA1.out.alloc HBA1.out.size _).grown hg (HBA1.out.alloc HBA1.out.size _).size (fun j hj => (HOA.out.lt j hj).1)); obtain ⟨gN, capN, hv2, hAN, hRN⟩ := HNMS.out _ _ _ ho; subst hv2; have HAN := Lib.hid hAN; have HRN := Lib.hid hRN; have y3 := (HX9.out.below HBB1.out HX9.out.lt).cell 3 (v := .slice nm0.a nm0.n nm0.cap) rfl; have z3 := frozenM (HX9.out.below HBB1.out HX9.out.lt) 3; clear ho hg hAN hRN))
  clear hc3
  have HX9G := Lib.hid (bx_fieldM (HX9.out.below HBB1.out HX9.out.lt) 3 (.slice (some ⟨gN, 0, none⟩) (nn + 1) capN))
  have HX8G := Lib.hid (bx_farM (b := bD + 1) (j := 3) (v := .slice (some ⟨gN, 0, none⟩) (nn + 1) capN) (HX8F.out.below HBB1.out HX8F.out.lt) (by omega))
  have HXG := Lib.hid (bx_farM (b := bD + 1) (j := 3) (v := .slice (some ⟨gN, 0, none⟩) (nn + 1) capN) (HXF.out.below HBB1.out HXF.out.lt) (by have := HLT.out; omega))
  have HBG := Lib.hid (below_fieldM (b := bD + 1) (j := 3) (v := .slice (some ⟨gN, 0, none⟩) (nn + 1) capN) (HBF.out.trans (HBB1.out.mono HBF.out.size)) (by have := HLT.out; omega))
  have HBGD := Lib.hid (below_fieldM (b := bD + 1) (j := 3) (v := .slice (some ⟨gN, 0, none⟩) (nn + 1) capN) (HBFD.out.trans (show Below bD wF wb from HBB1.out.mono (by rw [HSZF.out]; omega))) (by omega))
  have hsb : wb.heap.size = (wb.setCell ⟨bD + 1, 3, none⟩ (.slice (some ⟨gN, 0, none⟩) (nn + 1) capN)).heap.size := by simp
  have HLEG := Lib.hid (show bD + 2 ≤ (wb.setCell ⟨bD + 1, 3, none⟩ (.slice (some ⟨gN, 0, none⟩) (nn + 1) capN)).heap.size from by have h1 := HBB1.out.size; have h2 := HSZF.out; omega)
  have HRNG := Lib.hid (RowAt.frame (P := (bD + 2 ≤ ·)) (W' := wb.setCell ⟨bD + 1, 3, none⟩ (.slice (some ⟨gN, 0, none⟩) (nn + 1) capN)) (B' := (wb.setCell ⟨bD + 1, 3, none⟩ (.slice (some ⟨gN, 0, none⟩) (nn + 1) capN)).heap.size) HRN.out (fun _ q o ha => (by cases ha; have h1 := HAN.out; have h2 := HSZF.out; show bD + 2 ≤ gN; omega)) (fun q _ hp => heap_fieldM (by have h1 : bD + 2 ≤ q := hp; omega)) (Nat.le_of_eq hsb))
  clear hsb
  clear y3 z3
  generalize wb.setCell ⟨bD + 1, 3, none⟩ (.slice (some ⟨gN, 0, none⟩) (nn + 1) capN) = wG at *
  -- the third copy: one more element
  have HX10 := Lib.hid (Bx.new wG #[.int .i64 k0, .int .i64 m0, .string s0, .slice nm0.a nm0.n nm0.cap, .slice a1 n1 cap1] 26)
  have HB10 := Lib.hid ((Below.refl wG.heap.size wG).alloc (Nat.le_refl _) (.cells #[.int .i64 k0, .int .i64 m0, .string s0, .slice nm0.a nm0.n nm0.cap, .slice a1 n1 cap1] 26))
  have HXH := Lib.hid (HXG.out.alloc (.cells #[.int .i64 k0, .int .i64 m0, .string s0, .slice nm0.a nm0.n nm0.cap, .slice a1 n1 cap1] 26))
  have HX8H := Lib.hid (HX8G.out.alloc (.cells #[.int .i64 k0, .int .i64 m0, .string s0, .slice nm0.a nm0.n nm0.cap, .slice a1 n1 cap1] 26))
  have HX9H := Lib.hid (HX9G.out.alloc (.cells #[.int .i64 k0, .int .i64 m0, .string s0, .slice nm0.a nm0.n nm0.cap, .slice a1 n1 cap1] 26))
  have HBH := Lib.hid (HBG.out.trans (show Below w.heap.size wG (wG.alloc (.cells #[.int .i64 k0, .int .i64 m0, .string s0, .slice nm0.a nm0.n nm0.cap, .slice a1 n1 cap1] 26)) from HB10.out.mono HBG.out.size))
  have HBHD := Lib.hid (HBGD.out.trans (show Below bD wG (wG.alloc (.cells #[.int .i64 k0, .int .i64 m0, .string s0, .slice nm0.a nm0.n nm0.cap, .slice a1 n1 cap1] 26)) from HB10.out.mono (by have := HLEG.out; omega)))
  have HSZH := Lib.hid (show (wG.alloc (.cells #[.int .i64 k0, .int .i64 m0, .string s0, .slice nm0.a nm0.n nm0.cap, .slice a1 n1 cap1] 26)).heap.size = wG.heap.size + 1 from World.size_alloc ..)
  obtain ⟨c0, c1, c2, c3, c4⟩ := fiveX HXG.out
  go_upto_region 9 with (refine wpList_store_new rfl 26 (.tmp 10) (.tmp 38) rfl 5 _ [.int .i64 k0, .int .i64 m0, .string s0, .slice nm0.a nm0.n nm0.cap, .slice a1 n1 cap1] rfl (by rfl) info_V (by simp [Value.oneCell']) rfl rfl ?_)
  obtain ⟨bG, hbg⟩ : ∃ b, wG.heap.size = b := ⟨_, rfl⟩
  generalize wG.alloc (.cells #[.int .i64 k0, .int .i64 m0, .string s0, .slice nm0.a nm0.n nm0.cap, .slice a1 n1 cap1] 26) = wH at *
  have HGE := Lib.hid hbg
  rw [hbg] at HX10 HB10 HSZH HLEG ⊢
  clear hbg c0 c1 c2 c3 c4
  have HO1 := Lib.hid (World.ownsRow_lit (base := wH.heap.size) (e := 26) (size := 5) wH #[] 0 (Nat.le_refl _) (by unfold maxLen; omega) (by rfl))
  have HBM := Lib.hid ((Below.refl wH.heap.size wH).alloc (Nat.le_refl _) (.cells #[] 26))
  have hc4 : ∀ o, (wH.alloc o).cell? ⟨w.heap.size, 4, none⟩ = some (.slice a1 n1 cap1) := fun o => (HXH.out.alloc o).cell 4 (v := .slice a1 n1 cap1) rfl
  have HBLM := Lib.hid (show Below bD wD (wH.alloc (.cells #[] 26)) from HBHD.out.trans (show Below bD wH (wH.alloc (.cells #[] 26)) from HBM.out.mono (by have h1 := HSZH.out; have h2 := HLEG.out; omega)))
  go_upto_region 10 with (first
    | (at_builtin; refine wpList_append_rowM rfl (.tmp 39) (.tmp 41) 24 rfl wH.heap.size 26 j0 zeroV 5 80 Tryz.underlying24 hj0 hj1 hj2 hj3 rfl (by decide) _ 0 [] rfl HO1.out a1 n1 cap1 FV rfl HLV.out (HNV.out.imp id fun ⟨ad, h1, h2⟩ => ⟨ad, h1, h2 _ HBLM.out⟩) HOV.out (by unfold maxLen; omega) (by omega) HBM.out.size ?_; intro v1 wc ho hg; have HOC := Lib.hid ho; have HBC1 := Lib.hid (HBM.out.grown hg HBM.out.size (fun j hj => (HO1.out.lt j hj).1)); clear ho hg)
    | (at_builtin; refine wpList_append_rowM rfl (.tmp 42) (.tmp 44) 24 rfl wH.heap.size 26 j0 zeroV 5 80 Tryz.underlying24 hj0 hj1 hj2 hj3 rfl (by decide) v1 (0 + n1) ([] ++ FV) rfl (World.ownsRow.alloc HOC.out _) (some ⟨wc.heap.size, 0, none⟩) 1 1 [.int .i64 0, .int .i64 0, .string ⟨#[]⟩, .slice none 0 0, .slice none 0 0] rfl rfl (.inr ⟨_, rfl, cells_new _ _ _⟩) (by simp [Value.oneCell']) (by unfold maxLen; omega) (by omega) (by rw [World.size_alloc]; have := HBC1.out.size; omega) ?_; intro v3 wd ho hg; have HBD1 := Lib.hid (show Below wH.heap.size wH wd from (HBC1.out.alloc HBC1.out.size _).grown hg (HBC1.out.alloc HBC1.out.size _).size (fun j hj => (HOC.out.lt j hj).1)); obtain ⟨gL, capL, hv3, hAL, hRL⟩ := HLST.out _ _ _ ho; subst hv3; have HAL := Lib.hid hAL; have HRL := Lib.hid hRL; have y4 := (HX10.out.below HBD1.out HX10.out.lt).cell 4 (v := .slice a1 n1 cap1) rfl; have z4 := frozenM (HX10.out.below HBD1.out HX10.out.lt) 4; clear ho hg hAL hRL))
  clear hc4 y4 z4
  have HX10I := Lib.hid (bx_fieldM (HX10.out.below HBD1.out HX10.out.lt) 4 (.slice (some ⟨gL, 0, none⟩) (n1 + 1) capL))
  have HX9I := Lib.hid (bx_farM (b := bG) (j := 4) (v := .slice (some ⟨gL, 0, none⟩) (n1 + 1) capL) (HX9H.out.below HBD1.out HX9H.out.lt) (by have := HLEG.out; omega))
  have HX8I := Lib.hid (bx_farM (b := bG) (j := 4) (v := .slice (some ⟨gL, 0, none⟩) (n1 + 1) capL) (HX8H.out.below HBD1.out HX8H.out.lt) (by have := HLEG.out; omega))
  have HXI := Lib.hid (bx_farM (b := bG) (j := 4) (v := .slice (some ⟨gL, 0, none⟩) (n1 + 1) capL) (HXH.out.below HBD1.out HXH.out.lt) (by have h1 := HLEG.out; have h2 := HLT.out; omega))
  have HBI := Lib.hid (below_fieldM (b := bG) (j := 4) (v := .slice (some ⟨gL, 0, none⟩) (n1 + 1) capL) (HBH.out.trans (HBD1.out.mono HBH.out.size)) (by have h1 := HLEG.out; have h2 := HLT.out; omega))
  have HBID := Lib.hid (below_fieldM (b := bG) (j := 4) (v := .slice (some ⟨gL, 0, none⟩) (n1 + 1) capL) (HBHD.out.trans (show Below bD wH wd from HBD1.out.mono (by have h1 := HSZH.out; have h2 := HLEG.out; omega))) (by have h1 := HLEG.out; omega))
  have hsd : wd.heap.size = (wd.setCell ⟨bG, 4, none⟩ (.slice (some ⟨gL, 0, none⟩) (n1 + 1) capL)).heap.size := by simp
  have HBGI := Lib.hid (below_fieldM (b := bG) (j := 4) (v := .slice (some ⟨gL, 0, none⟩) (n1 + 1) capL) (HB10.out.trans (show Below bG wH wd from HBD1.out.mono (by have h1 := HSZH.out; omega))) (Nat.le_refl bG))
  have HRLI := Lib.hid (RowAt.frame (P := (bG + 1 ≤ ·)) (W' := wd.setCell ⟨bG, 4, none⟩ (.slice (some ⟨gL, 0, none⟩) (n1 + 1) capL)) (B' := (wd.setCell ⟨bG, 4, none⟩ (.slice (some ⟨gL, 0, none⟩) (n1 + 1) capL)).heap.size) HRL.out (fun _ q o ha => (by cases ha; have h1 := HAL.out; have h2 := HSZH.out; show bG + 1 ≤ gL; omega)) (fun q _ hp => heap_fieldM (by have h1 : bG + 1 ≤ q := hp; omega)) (Nat.le_of_eq hsd))
  clear hsd
  generalize wd.setCell ⟨bG, 4, none⟩ (.slice (some ⟨gL, 0, none⟩) (n1 + 1) capL) = wI at *
  -- none of the three is of the type
  have hvI : VIn wI.heap.size wI (.mk k0 m0 s0 nm0 a1 n1 cap1 ch1) := by
    have h := HVD.out
    have hb : Below wD.heap.size wD wI := by rw [HBW.out]; exact HBID.out
    exact (h.below hb (Nat.le_refl _)).below (Below.refl _ _) hb.size
  have hh := (chk_zero.1 HC0.out).2.2
  have hr := TB.good_right (chk_zero.1 HC0.out).1
  rw [HV0.out] at hh
  have hkn : ∀ (W : World), Below w.heap.size w W → ∀ v, VIn W.heap.size W v → Calls Tryz.prog 15 #[.slice d.a d.n d.cap, .agg v.cells.toArray] W fun e w' => e = .returned (.int .i64 (chk d v)) ∧ Below W.heap.size W w' := fun W hb v hv => check_ok W.heap.size W d v ((HD.out W hb).below (Below.refl _ _) hb.size) hv (Nat.le_refl _) HSET.out
  have HK8 := Lib.hid (show a2 ≠ k0 → ∃ q, q ≠ 0 ∧ ∀ W, Below wI.heap.size wI W → Calls Tryz.prog 15 #[.slice d.a d.n d.cap, .agg #[.int .i64 a2, .int .i64 m0, .string s0, .slice nm0.a nm0.n nm0.cap, .slice a1 n1 cap1]] W fun e w' => e = .returned (.int .i64 q) ∧ Below W.heap.size W w' from fun ha => by
    refine ⟨chk d (.mk a2 m0 s0 nm0 a1 n1 cap1 ch1), chk_ne (not_has_kind hh ha), fun W hb => ?_⟩
    have hbw : Below w.heap.size w W := HBI.out.trans (hb.mono HBI.out.size)
    have hv := vin_kind ((hvI.below hb (Nat.le_refl _)).below (Below.refl W.heap.size W) hb.size) HI2.out
    have h := hkn W hbw _ hv
    rwa [list5] at h)
  have HK9 := Lib.hid (show ∃ q, q ≠ 0 ∧ ∀ W, Below wI.heap.size wI W → Calls Tryz.prog 15 #[.slice d.a d.n d.cap, .agg #[.int .i64 k0, .int .i64 m0, .string s0, .slice (some ⟨gN, 0, none⟩) (nn + 1) capN, .slice a1 n1 cap1]] W fun e w' => e = .returned (.int .i64 q) ∧ Below W.heap.size W w' from by
    refine ⟨chk d (.mk k0 m0 s0 ⟨some ⟨gN, 0, none⟩, nn + 1, capN, fun i => if i < nn then nm0.f i else ⟨#[110, 111, 45, 115, 117, 99, 104, 45, 110, 97, 109, 101]⟩⟩ a1 n1 cap1 ch1), chk_ne (not_has_names hh (by show nn + 1 = nm0.n + 1; rw [HNE.out])), fun W hb => ?_⟩
    have hbw : Below w.heap.size w W := HBI.out.trans (hb.mono HBI.out.size)
    have hrow : RowAt W.heap.size W (some ⟨gN, 0, none⟩) (nn + 1) capN 1 (fun i => [.string (if i < nn then nm0.f i else ⟨#[110, 111, 45, 115, 117, 99, 104, 45, 110, 97, 109, 101]⟩)]) := by
      have h1 : Below wG.heap.size wG W := by rw [HGE.out]; exact HBGI.out.trans (hb.mono (by have := HBGI.out.size; have := HGE.out; omega))
      exact (HRNG.out.below h1 (Nat.le_refl _)).below (Below.refl _ _) h1.size
    have hv := vin_names ((hvI.below hb (Nat.le_refl _)).below (Below.refl W.heap.size W) hb.size) (nm' := ⟨some ⟨gN, 0, none⟩, nn + 1, capN, fun i => if i < nn then nm0.f i else ⟨#[110, 111, 45, 115, 117, 99, 104, 45, 110, 97, 109, 101]⟩⟩) ⟨hrow, fun i hi => by
      show (if i < nn then nm0.f i else ⟨#[110, 111, 45, 115, 117, 99, 104, 45, 110, 97, 109, 101]⟩).size ≤ 140737488355328
      split
      · next h2 => exact hvI.1.2.2.2.2 i (by rw [HNE.out]; exact h2)
      · decide⟩
    have h := hkn W hbw _ hv
    rwa [list5] at h)
  have HK10 := Lib.hid (show ∃ q, q ≠ 0 ∧ ∀ W, Below wI.heap.size wI W → Calls Tryz.prog 15 #[.slice d.a d.n d.cap, .agg #[.int .i64 k0, .int .i64 m0, .string s0, .slice nm0.a nm0.n nm0.cap, .slice (some ⟨gL, 0, none⟩) (n1 + 1) capL]] W fun e w' => e = .returned (.int .i64 q) ∧ Below W.heap.size W w' from by
    refine ⟨chk d (.mk k0 m0 s0 nm0 (some ⟨gL, 0, none⟩) (n1 + 1) capL fun i => if i < n1 then ch1 i else leafV 0 0 ⟨#[]⟩), chk_ne (not_has_more hr (TB.right_n hr).1 hh (by rw [if_neg (Nat.lt_irrefl _)]; rfl)), fun W hb => ?_⟩
    have hbw : Below w.heap.size w W := HBI.out.trans (hb.mono HBI.out.size)
    have hv0 := (hvI.below hb (Nat.le_refl _)).below (Below.refl W.heap.size W) hb.size
    have hv := vin_list hv0 ((HRLI.out.below hb (Nat.le_refl _)).below (Below.refl W.heap.size W) hb.size) (fun i hi => by
      show VIn W.heap.size W (if i < n1 then ch1 i else leafV 0 0 ⟨#[]⟩)
      split
      · next h2 => exact hv0.2.2 i h2
      · exact leafV_in _ _ (by unfold I64; omega) (by unfold I64; omega) (by decide))
    have h := hkn W hbw _ hv
    rwa [list5] at h)
  obtain ⟨q9, hq9, hk9⟩ := HK9.out
  obtain ⟨q10, hq10, hk10⟩ := HK10.out
  have HC9 := Lib.hid hk9
  have HC10 := Lib.hid hk10
  have r9 : (q9 != 0) = true := bne_iff_ne.2 hq9
  have s9 : (q9 == 0) = false := beq_eq_false_iff_ne.2 hq9
  have r10 : (q10 != 0) = true := bne_iff_ne.2 hq10
  have s10 : (q10 == 0) = false := beq_eq_false_iff_ne.2 hq10
  have HBS := Lib.hid (Below.refl wI.heap.size wI)
  clear hvI hh hr hkn hk9 hk10 hq9 hq10
  by_cases hak : a2 = k0
  · subst hak
    obtain ⟨c0, c1, c2, c3, c4⟩ := fiveX HXI.out
    obtain ⟨d0, d1, d2, d3, d4⟩ := fiveX HX9I.out
    go_wp2_with fail
    refine (HC9.out _ HBS.out).mono ?_
    rintro e wJ ⟨rfl, h2⟩
    have HBJ := Lib.hid (HBS.out.trans (h2.mono HBS.out.size))
    clear h2 c0 c1 c2 c3 c4 d0 d1 d2 d3 d4
    obtain ⟨c0, c1, c2, c3, c4⟩ := fiveX (HX10I.out.below HBJ.out HX10I.out.lt)
    go_wp2_with fail
    refine (HC10.out _ HBJ.out).mono ?_
    rintro e wK ⟨rfl, h2⟩
    have HBK := Lib.hid (HBI.out.trans ((HBJ.out.trans (h2.mono HBJ.out.size)).mono HBI.out.size))
    clear h2 c0 c1 c2 c3 c4
    go_wp2_with fail
    go_ret
    exact ⟨rfl, HBK.out⟩
  · obtain ⟨q8, hq8, hk8⟩ := HK8.out hak
    have HC8 := Lib.hid hk8
    have r8 : (q8 != 0) = true := bne_iff_ne.2 hq8
    have s8 : (q8 == 0) = false := beq_eq_false_iff_ne.2 hq8
    have t8 : (a2 == k0) = false := beq_eq_false_iff_ne.2 hak
    clear hq8 hk8 hak
    obtain ⟨c0, c1, c2, c3, c4⟩ := fiveX HXI.out
    obtain ⟨d0, d1, d2, d3, d4⟩ := fiveX HX8I.out
    go_wp2_with fail
    refine (HC8.out _ HBS.out).mono ?_
    rintro e wJ ⟨rfl, h2⟩
    have HBJ := Lib.hid (HBS.out.trans (h2.mono HBS.out.size))
    clear h2 c0 c1 c2 c3 c4 d0 d1 d2 d3 d4
    obtain ⟨c0, c1, c2, c3, c4⟩ := fiveX (HX9I.out.below HBJ.out HX9I.out.lt)
    go_wp2_with fail
    refine (HC9.out _ HBJ.out).mono ?_
    rintro e wK ⟨rfl, h2⟩
    have HBK := Lib.hid (HBJ.out.trans (h2.mono HBJ.out.size))
    clear h2 c0 c1 c2 c3 c4
    obtain ⟨c0, c1, c2, c3, c4⟩ := fiveX (HX10I.out.below HBK.out HX10I.out.lt)
    go_wp2_with fail
    refine (HC10.out _ HBK.out).mono ?_
    rintro e wL ⟨rfl, h2⟩
    have HBL := Lib.hid (HBI.out.trans ((HBK.out.trans (h2.mono HBK.out.size)).mono HBI.out.size))
    clear h2 c0 c1 c2 c3 c4
    go_wp2_with fail
    go_ret
    exact ⟨rfl, HBL.out⟩

set_option maxRecDepth 100000 in
theorem lifted (os : Os) (started : os.Started) (H : Type) (enc : TypeId × Value → H) :
    ReturnsInHanded {} Tryz.checked os 5 .any (Rows.memberKindsSpec.pre6 enc Tryz.prog Tryz.f5 Rows.memberKindsRow.domain false) (Rows.memberKindsSpec.post enc Tryz.prog Tryz.f5 false true false false) := by
  refine handed_light (C := Tryz.checked) own started (by kernel_rfl) Tryz.func5
    (ChangeSpec.witness6 (enc := enc) (C := Tryz.checked) false ⟨#[], #[.slice none 0 0, .agg #[.int .i64 0, .int .i64 0, .string ByteArray.empty, .slice none 0 0, .slice none 0 0], .int .i64 0], []⟩ 8 (by kernel_rfl) (by kernel_rfl) (by kernel_rfl) (by kernel_rfl)) ?_
  intro W base args ds gs before hval0 hW hsz0
  have hval : ∀ (j : Nat) t v, Tryz.f5.params[j]? = some t → args[j]? = some v → Value.okWide Tryz.prog W .any base t v := hval0
  have hW' := hW
  obtain ⟨p, q, hA0, hV, rfl, hfz, hnd⟩ := hW
  have hA : DataW.TrodAll enc Tryz.prog W 0 (fun _ => true) true Tryz.f5.params.toList args.toList ds p := hA0
  rw [Tryz.params5] at hA hval
  obtain ⟨v0, vs0, d0, ds0, p0, q0, hargs, rfl, rfl, h0, r0⟩ := trodAll_cons hA
  obtain ⟨v1, vs1, d1, ds1, p1, q1, rfl, rfl, rfl, h1, r1⟩ := trodAll_cons r0
  obtain ⟨v2, vs2, d2, ds2, p2, q2, rfl, rfl, rfl, h2, r2⟩ := trodAll_cons r1
  obtain ⟨rfl, rfl, rfl⟩ := trodAll_nil r2
  obtain rfl : args = #[v0, v1, v2] := by cases args; simp_all
  obtain ⟨rfl, rfl⟩ := trodVars_none hV
  obtain ⟨a0, len0, cap0, rfl⟩ := okWide_slice Tryz.underlying22 (hval 0 22 v0 rfl rfl)
  have k0 := h0
  have lt0 : ∀ x ∈ p0, x.block < W.heap.size := by obtain ⟨m, hm⟩ := k0; exact DataW.trod_lt m _ _ _ hm
  have li0 : Light 22 d0 := light_each hsz0 0 _ _ rfl rfl
  have w0 := open_table h0 li0
  obtain ⟨cs1, rfl, _⟩ := okWide_struct Tryz.underlying26 (hval 1 26 v1 rfl rfl)
  have k1 := h1
  have lt1 : ∀ x ∈ p1, x.block < W.heap.size := by obtain ⟨m, hm⟩ := k1; exact DataW.trod_lt m _ _ _ hm
  have li1 : Light 26 d1 := light_each hsz0 1 _ _ rfl rfl
  obtain ⟨fuel1, hf1⟩ := h1
  obtain ⟨x1, hc1, hx1⟩ := open_val (W := W) fuel1 (cs := cs1.toList) hf1 li1
  obtain rfl : cs1 = x1.cells.toArray := by rw [← hc1]
  obtain ⟨a2, rfl, rfl, rfl, w2⟩ := open_int Tryz.underlying3 (hval 2 3 v2 rfl rfl) h2
  clear hA0 hval0
  refine (walk W a0 len0 cap0 w0 x1 hx1 a2 w2).mono fun e W' ⟨he, bel⟩ => ?_
  subst he
  exact ⟨_, rfl, _, _, _, [], _, [], hW', trodAll_mk1 (shut_bool Tryz.underlying4 _), (trodAll_cons_mk (Below.trod laidOut (by kernel_rfl) (of_decide_eq_true (by kernel_rfl)) k0 bel lt0) (trodAll_cons_mk (Below.trod laidOut (by kernel_rfl) (of_decide_eq_true (by kernel_rfl)) k1 bel lt1) (trodAll_cons_mk (shut_int Tryz.underlying3 w2) trodAll_mk0))), rfl, bel.frame _, fun h => by cases h⟩

theorem over : Rows.memberKindsRow.holds Tryz.pinned (OpenSpec.ofChange Rows.memberKindsSpec) :=
  OpenClaim.holds_of_wide 5 Tryz.f5 rfl rfl rfl rfl rfl rfl rfl ⟨rfl, rfl, rfl, rfl, rfl⟩ rfl rfl rfl rfl rfl (by kernel_rfl) Tryz.func5 (by kernel_rfl)
    (of_decide_eq_true (by kernel_rfl)) (by unfold Func.isWrapper; first | (rw [if_pos (by decide +kernel)]; kernel_rfl) | (rw [if_neg (by decide +kernel)]; exact ⟨rfl, rfl⟩))
    (fun os started H enc _ => lifted os started H enc)

theorem proved : Rows.MemberKindsSaid := over
end Go.Proofs.YtmaghmdcagdkhaaGreat.memberKinds
