/-
  Proved: the statement MemberParts (a value without a part that must be there is not of the type; without one that may be left out, it is), for every input; no further condition.
-/
import Derived.Test.YtmaghmdcagdkhaaGreatRows
import Derived.Test.YtmaghmdcagdkhaaGreatQZ
import Derived.Test.YtmaghmdcagdkhaaGreatQY
import Derived.ProofKit
import Derived.OpenShut
import Derived.ShutString
import Derived.ChangeOld
namespace Go.Proofs.YtmaghmdcagdkhaaGreat.memberParts
open Go.ChangeShapes Go.WideShapes Go.ChangeAt Go.RowKit
open Go.ChangeMaps (open_string shut_string)
set_option linter.unusedVariables false
set_option linter.unusedSimpArgs false
set_option maxRecDepth 100000

theorem own : ownKnob Tryz.prog.godebug = none := by kernel_rfl
theorem laidOut : laidOutB Tryz.prog = true := by kernel_rfl

set_option maxHeartbeats 64000000 in
theorem walk (w : World) (a0 : Option Addr) (len0 cap0 : Nat) (w0 : ∃ f, TBIn w.heap.size w ⟨a0, len0, cap0, f⟩) (x1 : VT) (hx1 : VIn w.heap.size w x1) (a2 : Int) (w2 : (Lit.int .i64 a2).wf = true) :
    Calls Tryz.prog 6 #[.slice a0 len0 cap0, .agg x1.cells.toArray, .int .i64 a2] w fun e w' => e = .returned (.bool true) ∧ Below w.heap.size w w' := by
  obtain ⟨f, hT⟩ := w0
  obtain ⟨d, hda, hdn, hdc, hD⟩ : ∃ d : TB, d.a = a0 ∧ d.n = len0 ∧ d.cap = cap0 ∧ TBIn w.heap.size w d := ⟨⟨a0, len0, cap0, f⟩, rfl, rfl, rfl, hT⟩
  subst hda hdn hdc
  clear hT f
  have HD := Lib.hid (fun (W : World) (hb : Below w.heap.size w W) => hD.below hb (Nat.le_refl _))
  have HV := Lib.hid (fun (W : World) (hb : Below w.heap.size w W) => hx1.below hb (Nat.le_refl _))
  have HSM := Lib.hid (fun (W : World) (hb : Below w.heap.size w W) => small_ok w.heap.size W d (HD.out W hb) hb.size)
  have hfw := fun (W : World) (hb : Below w.heap.size w W) => few15_ok w.heap.size W x1 (HV.out W hb) hb.size
  obtain ⟨k0, m0, s0, nm0, a1, n1, cap1, ch1, hv0⟩ := vin_mk hx1
  have hcl : x1.cells = [.int .i64 k0, .int .i64 m0, .string s0, .slice nm0.a nm0.n nm0.cap, .slice a1 n1 cap1] := by rw [hv0, list5]
  have HCL := Lib.hid hcl
  have HV0 := Lib.hid hv0
  have HX := Lib.hid (Bx.new w #[.int .i64 k0, .int .i64 m0, .string s0, .slice nm0.a nm0.n nm0.cap, .slice a1 n1 cap1] 26)
  have HB := Lib.hid ((Below.refl w.heap.size w).alloc (Nat.le_refl _) (.cells #[.int .i64 k0, .int .i64 m0, .string s0, .slice nm0.a nm0.n nm0.cap, .slice a1 n1 cap1] 26))
  rw [hcl] at hfw ⊢
  have HFW := Lib.hid hfw
  clear hcl hv0 hD hx1 hfw
  go_enter Tryz.func6, Tryz.ntmps6
  go_wp2_with fail
  generalize w.alloc (.cells #[.int .i64 k0, .int .i64 m0, .string s0, .slice nm0.a nm0.n nm0.cap, .slice a1 n1 cap1] 26) = W0 at *
  refine (awake15_ok _).mono ?_
  rintro e wA ⟨rfl, h2⟩
  have HXA := Lib.hid (HX.out.below h2 HX.out.lt)
  have HBA := Lib.hid (HB.out.trans (h2.mono HB.out.size))
  clear h2
  go_wp2_with fail
  refine (HSM.out _ HBA.out).mono ?_
  rintro e wB ⟨r, rfl, hr, h2⟩
  have HXB := Lib.hid (HXA.out.below h2 HXA.out.lt)
  have HBB := Lib.hid (HBA.out.trans (h2.mono HBA.out.size))
  have HR := Lib.hid hr
  clear h2 hr
  cases r with
  | false =>
    go_wp2_with fail
    go_ret
    exact ⟨rfl, HBB.out⟩
  | true =>
  have HSZ := Lib.hid (HR.out rfl)
  have HSET := Lib.hid (show ∀ i, i < d.n → (d.f i).set.n ≤ 1000 from fun i hi => by have := (HSZ.out.2 i hi).1; omega)
  have HF := Lib.hid (HFW.out _ HBB.out)
  clear HR HFW
  generalize (fewV x1 && decide (x1.tx.size ≤ 10000)) = z at *
  obtain ⟨c0, c1, c2, c3, c4⟩ := fiveX HXB.out
  cases z with
  | false =>
    go_wp2_with fail
    refine HF.out.mono ?_
    rintro e wC ⟨rfl, h2⟩
    have HBC := Lib.hid (HBB.out.trans (h2.mono HBB.out.size))
    clear h2 c0 c1 c2 c3 c4
    go_wp2_with fail
    go_ret
    exact ⟨rfl, HBC.out⟩
  | true =>
  go_wp2_with fail
  refine HF.out.mono ?_
  rintro e wC ⟨rfl, h2⟩
  have HXC := Lib.hid (HXB.out.below h2 HXB.out.lt)
  have HBC := Lib.hid (HBB.out.trans (h2.mono HBB.out.size))
  clear h2 c0 c1 c2 c3 c4 HF HXA HXB HBA HBB HX HB HSM
  have hck := fun (W : World) (hb : Below w.heap.size w W) => check_ok w.heap.size W d x1 (HD.out W hb) (HV.out W hb) hb.size HSET.out
  rw [HCL.out] at hck
  have HCK := Lib.hid hck
  clear hck
  obtain ⟨c0, c1, c2, c3, c4⟩ := fiveX HXC.out
  obtain ⟨nn, hnn⟩ : ∃ n, nm0.n = n := ⟨_, rfl⟩
  obtain ⟨na, hna⟩ : ∃ n, nm0.a = n := ⟨_, rfl⟩
  obtain ⟨nc, hnc⟩ : ∃ n, nm0.cap = n := ⟨_, rfl⟩
  rw [hnn, hna, hnc] at HCK HXC c3 ⊢
  have HNE := Lib.hid hnn
  have HNA := Lib.hid hna
  have HNC := Lib.hid hnc
  clear hnn hna hnc
  by_cases hk8 : k0 = 8
  case neg =>
    have q1 : (k0 != 8) = true := bne_iff_ne.2 hk8
    have q2 : (k0 == 8) = false := beq_eq_false_iff_ne.2 hk8
    clear hk8
    go_wp2_with fail
    go_ret
    exact ⟨rfl, HBC.out⟩
  case pos =>
  subst hk8
  by_cases hn0 : nn = 0
  · have q1 : ((nn : Int) == 0) = true := by simp [hn0]
    clear hn0
    go_wp2_with fail
    go_ret
    exact ⟨rfl, HBC.out⟩
  have q1 : ((nn : Int) == 0) = false := beq_eq_false_iff_ne.2 (by omega)
  by_cases hc0 : chk d x1 = 0
  case neg =>
    generalize chk d x1 = q at *
    have q3 : (q != 0) = true := bne_iff_ne.2 hc0
    have q4 : (q == 0) = false := beq_eq_false_iff_ne.2 hc0
    clear hc0 hn0
    go_wp2_with fail
    refine (HCK.out _ HBC.out).mono ?_
    rintro e wD ⟨rfl, h2⟩
    have HBD := Lib.hid (HBC.out.trans (h2.mono HBC.out.size))
    clear h2 c0 c1 c2 c3 c4
    go_wp2_with fail
    go_ret
    exact ⟨rfl, HBD.out⟩
  case pos =>
  have HC0 := Lib.hid hc0
  rw [hc0] at HCK
  have HNP := Lib.hid (show 0 < nn by omega)
  clear hc0 hn0
  go_wp2_with fail
  refine (HCK.out _ HBC.out).mono ?_
  rintro e wD ⟨rfl, h2⟩
  have HXD := Lib.hid (HXC.out.below h2 HXC.out.lt)
  have HBD := Lib.hid (HBC.out.trans (h2.mono HBC.out.size))
  clear h2 c0 c1 c2 c3 c4
  -- which part is left out
  obtain ⟨i, hi, hmod⟩ : ∃ i : Nat, i < nn ∧ Int.tmod (a2 % 65536) (nn : Int) = (i : Int) := by
    have h0 := HNP.out
    refine ⟨(a2 % 65536).toNat % nn, Nat.mod_lt _ h0, ?_⟩
    obtain ⟨m, hm⟩ : ∃ m : Nat, a2 % 65536 = (m : Int) := ⟨(a2 % 65536).toNat, by omega⟩
    rw [hm]
    show Int.tmod (m : Int) (nn : Int) = _
    rw [Int.toNat_natCast]
    exact (Int.ofNat_tmod m nn).symm
  have han := and_65535 a2
  obtain ⟨m, hm⟩ : ∃ m, a2 % 65536 = m := ⟨_, rfl⟩
  rw [hm] at han hmod
  have hmb : 0 ≤ m ∧ m < 65536 := by omega
  clear hm
  obtain ⟨c0, c1, c2, c3, c4⟩ := fiveX HXD.out
  obtain ⟨hnm5, hn15⟩ : nm0.n ≤ 512 ∧ n1 ≤ 1048576 := by
    have h := HC0.out
    rw [HV0.out] at h
    exact chk_small h
  have hvd : VIn wD.heap.size wD x1 := (HV.out wD HBD.out).below (Below.refl _ _) HBD.out.size
  rw [HV0.out] at hvd
  have hh := (chk_zero.1 HC0.out).2.2
  have hr := TB.good_right (chk_zero.1 HC0.out).1
  rw [HV0.out] at hh
  have hk0 : (d.f 0).kind = 8 := (VT.has_kind hh).symm
  obtain rfl : n1 = nn := ((has_8 hk0).1 hh).2.2.1.trans HNE.out
  have HHD := Lib.hid (TB.right_n hr).1
  have hrn := hvd.1.2.2.2.1
  have hszn := hvd.1.2.2.2.2
  have hrv := hvd.2.1
  rw [HNE.out, HNA.out, HNC.out] at hrn
  rw [HNE.out] at hszn hnm5
  obtain ⟨gn, on, rfl, hgn, _⟩ := row_head hrn HNP.out
  obtain ⟨gl, ol, rfl, hgl, _⟩ := row_head hrv HNP.out
  obtain ⟨i0, hi0, hz0, hz1, hz2⟩ := info_parts info_Sz
  obtain ⟨j0, hj0, hj1, hj2, hj3⟩ := info_parts info_Vz
  -- the row, its parts
  have hdd := HD.out wD HBD.out
  obtain ⟨gd, od, hda, hgd, hcd⟩ := row_head hdd.1 HHD.out
  have hpr := (hdd.2 0 HHD.out).2.2.2.2.1.1
  have hc8 := hcd 8 _ rfl
  have HVD := Lib.hid hvd
  have HRN := Lib.hid hrn
  have HRV := Lib.hid hrv
  have HSZN := Lib.hid hszn
  have HPR := Lib.hid hpr
  have HPD := Lib.hid (hdd.2 0 HHD.out).2.2.2.2.1.2
  have HD8 := Lib.hid (show ∀ W, Below w.heap.size wD W → W.cell? ⟨gd, od + 8, none⟩ = some (.slice (d.f 0).pa.a (d.f 0).pa.n (d.f 0).pa.cap) from fun W hb => (hb.cell (p := ⟨gd, od + 8, none⟩) hgd).trans hc8)
  have HNI := Lib.hid (show ∃ gx ox : Nat, (∀ w, (Instr.indexAt 23 (.slice (some ⟨gn, on, none⟩) n1 nc) (.int .i64 (i : Nat))).run Tryz.prog w = .ok (.pointer (some ⟨gx, ox, none⟩)) w) ∧ ∀ W, Below wD.heap.size wD W → W.cell? ⟨gx, ox, none⟩ = some (.string (nm0.f i)) from by
    obtain ⟨gx, ox, h1, h2, h3⟩ := hrn.read 23 9 Tryz.underlying23 (by kernel_rfl) Tryz.sizeOf9 hi
    exact ⟨gx, ox, h1, fun W hb => by
      have := h3 W (hb.block gx h2) 0 _ rfl
      rwa [Nat.add_zero] at this⟩)
  have HHH := Lib.hid hh
  rw [hda] at HCK ⊢
  have HDA := Lib.hid hda
  have HI := Lib.hid hi
  clear hvd hh hr hk0 hrn hszn hrv hgn hgl hdd hgd hcd hpr hc8 hda
  -- the copy
  have HX9 := Lib.hid (Bx.new wD #[.int .i64 8, .int .i64 m0, .string s0, .slice (some ⟨gn, on, none⟩) n1 nc, .slice (some ⟨gl, ol, none⟩) n1 cap1] 26)
  have HB9 := Lib.hid ((Below.refl wD.heap.size wD).alloc (Nat.le_refl _) (.cells #[.int .i64 8, .int .i64 m0, .string s0, .slice (some ⟨gn, on, none⟩) n1 nc, .slice (some ⟨gl, ol, none⟩) n1 cap1] 26))
  have HXD1 := Lib.hid (HXD.out.alloc (.cells #[.int .i64 8, .int .i64 m0, .string s0, .slice (some ⟨gn, on, none⟩) n1 nc, .slice (some ⟨gl, ol, none⟩) n1 cap1] 26))
  go_upto_region 6 with (refine wpList_store_new rfl 26 (.tmp 9) (.tmp 47) rfl 5 _ [.int .i64 8, .int .i64 m0, .string s0, .slice (some ⟨gn, on, none⟩) n1 nc, .slice (some ⟨gl, ol, none⟩) n1 cap1] rfl (by rfl) info_V (by simp [Value.oneCell']) rfl rfl ?_)
  obtain ⟨bD, hbd⟩ : ∃ b, wD.heap.size = b := ⟨_, rfl⟩
  generalize hw1 : wD.alloc (.cells #[.int .i64 8, .int .i64 m0, .string s0, .slice (some ⟨gn, on, none⟩) n1 nc, .slice (some ⟨gl, ol, none⟩) n1 cap1] 26) = wE at *
  have HSZE := Lib.hid (show wE.heap.size = bD + 1 from by rw [← hw1, ← hbd, World.size_alloc])
  have HLT := Lib.hid (show w.heap.size < bD from by rw [← hbd]; exact HXD.out.lt)
  have HBW := Lib.hid hbd
  rw [hbd] at HX9 HB9 HRN HRV HVD HNI ⊢
  clear hbd hw1 c0 c1 c2 c3 c4 q1 han hmod hmb
  -- names without one
  obtain ⟨i1, hi1⟩ : ∃ x, i + 1 = x := ⟨_, rfl⟩
  have q3 : IntKind.i64.wrap ((i : Int) + 1) = (i1 : Int) := by rw [← hi1]; exact wrap_succ hi (by omega)
  obtain ⟨r, hr⟩ : ∃ x, n1 - i1 = x := ⟨_, rfl⟩
  have hir : i + 1 + r = n1 := by omega
  have HXE := Lib.hid HXD1.out
  have HBED := Lib.hid HB9.out
  obtain ⟨mm, hmm⟩ : ∃ x, i + r = x := ⟨_, rfl⟩
  have hlen : ∀ x, x < n1 → ((fun x => [Value.string (nm0.f x)]) x).length = 1 := fun x _ => rfl
  have hone : ∀ x, x < n1 → ∀ v ∈ (fun x => [Value.string (nm0.f x)]) x, v.oneCell' = true := fun x _ v hv => (by simp at hv; subst hv; rfl)
  have hs1 := strs_to gn on n1 nc i (by omega) HRN.out.1
  have hs2 := strs_from gn on n1 nc i1 (by omega) HRN.out.1
  have hn2 := row_newsC (K := 1) (by omega) (row_from (i := i1) HRN.out (by omega)) (fun x hx => hlen (i1 + x) (by omega))
  rw [hr] at hs2 hn2
  have HN1 := Lib.hid (row_newsC (K := 1) (by omega) (row_to (i := i) HRN.out (by omega)) (fun x hx => hlen x (by omega)))
  have HL1 := Lib.hid (flatC_len (K := 1) (f := (fun x => [Value.string (nm0.f x)])) (k := i) fun x hx => hlen x (by omega))
  have HL2 := Lib.hid (flatC_len (K := 1) (f := fun x => (fun x => [Value.string (nm0.f x)]) (i1 + x)) (k := r) fun x hx => hlen (i1 + x) (by omega))
  have HO1 := Lib.hid (flatC_one (f := (fun x => [Value.string (nm0.f x)])) (k := i) fun x hx => hone x (by omega))
  have HO2 := Lib.hid (flatC_one (f := fun x => (fun x => [Value.string (nm0.f x)]) (i1 + x)) (k := r) fun x hx => hone (i1 + x) (by omega))
  have HWO := Lib.hid (fun (W : World) (v : Value) (A : Nat) (h : W.ownsRow A 9 1 v (0 + i + r) ([] ++ flatC (fun x => [Value.string (nm0.f x)]) i ++ flatC (fun x => (fun x => [Value.string (nm0.f x)]) (i1 + x)) r)) => own_without (m := mm) (f := (fun x => [Value.string (nm0.f x)])) (by rw [hi1]; exact h) hmm (fun x hx => hlen x (by omega)) (by omega))
  obtain ⟨ax, hax⟩ : ∃ x, (if nc = i1 then on else on + i1 * 1) = x := ⟨_, rfl⟩
  rw [hax] at hs2 hn2
  obtain ⟨cr, hcr⟩ : ∃ x, nc - i1 = x := ⟨_, rfl⟩
  rw [hcr] at hs2 hn2
  have HN2 := Lib.hid hn2
  obtain ⟨F1, hf1⟩ : ∃ l, flatC (fun x => [Value.string (nm0.f x)]) i = l := ⟨_, rfl⟩
  obtain ⟨F2, hf2⟩ : ∃ l, flatC (fun x => (fun x => [Value.string (nm0.f x)]) (i1 + x)) r = l := ⟨_, rfl⟩
  rw [hf1] at HN1 HL1 HO1 HWO
  rw [hf2] at HN2 HL2 HO2 HWO
  have HO0 := Lib.hid (World.ownsRow_lit (base := wE.heap.size) (e := 9) (size := 1) wE #[] 0 (Nat.le_refl _) (by unfold maxLen; omega) (by rfl))
  have HBS := Lib.hid (show Below wE.heap.size wE (wE.alloc (.cells #[] 9)).drew from Below.drew ((Below.refl _ _).alloc (Nat.le_refl _) _))
  have HTD := Lib.hid (fun (W : World) (hb : Below wE.heap.size wE W) => show Below bD wD W from HBED.out.trans (hb.mono (by have h1 := HSZE.out; omega)))
  have k3 := (HXE.out.below HBS.out HXE.out.lt).cell 3 (v := .slice (some ⟨gn, on, none⟩) n1 nc) rfl
  have k3c : wE.drew.cell? ⟨w.heap.size, 3, none⟩ = some (.slice (some ⟨gn, on, none⟩) n1 nc) := HXE.out.cell 3 rfl
  clear hax hcr hf1 hf2 hn2 hlen hone
  (try dsimp only [Act.put])
  go_cut [60] from 48 to 60 (fun _ wx => CutA wE bD (fun v => #[.int .i64 8, .int .i64 m0, .string s0, v, .slice (some ⟨gl, ol, none⟩) n1 cap1]) mm 1 (fun x => (fun x => [Value.string (nm0.f x)]) (shift i x)) wx)
  case first =>
    go_region_law (first
      | (refine step_append_rowM (by rfl) (.tmp 53) (.tmp 58) 23 (by rfl) wE.heap.size 9 i0 (.string ⟨#[]⟩) 1 16 Tryz.underlying23 hi0 hz0 hz1 hz2 (by rfl) (by decide) v1 (0 + i) ([] ++ F1) (by rfl) HOA.out (some ⟨gn, ax, none⟩) r cr F2 (by rfl) HL2.out (HN2.out.imp id fun ⟨ad, h1, h2⟩ => ⟨ad, h1, h2 _ (HTD.out _ HBA.out)⟩) HO2.out (by unfold maxLen; omega) (by omega) HBA.out.size ?_; intro v2 w5 ho hg; have HBB := Lib.hid (HBA.out.grown hg HBA.out.size (fun j hj => (HOA.out.lt j hj).1)); obtain ⟨an, cn, hv2, hrow, hrp⟩ := HWO.out _ _ _ ho; subst hv2; have HRO := Lib.hid hrow; have HRP := Lib.hid hrp; have y9 := (HX9.out.below HBB.out HX9.out.lt).cell 3 (v := .slice (some ⟨gn, on, none⟩) n1 nc) rfl; have z9 := frozenM (HX9.out.below HBB.out HX9.out.lt) 3; clear ho hg hrow hrp)
      | (refine step_append_rowM (by rfl) (.tmp 48) (.tmp 52) 23 (by rfl) wE.heap.size 9 i0 (.string ⟨#[]⟩) 1 16 Tryz.underlying23 hi0 hz0 hz1 hz2 (by rfl) (by decide) _ 0 [] (by rfl) HO0.out (some ⟨gn, on, none⟩) i nc F1 (by rfl) HL1.out (HN1.out.imp id fun ⟨ad, h1, h2⟩ => ⟨ad, h1, h2 _ (HTD.out _ HBS.out)⟩) HO1.out (by unfold maxLen; omega) (by omega) HBS.out.size ?_; intro v1 w4 ho hg; have HOA := Lib.hid ho; have HBA := Lib.hid (HBS.out.grown hg HBS.out.size (fun j hj => (HO0.out.lt j hj).1)); have k3b := (HXE.out.below HBA.out HXE.out.lt).cell 3 (v := .slice (some ⟨gn, on, none⟩) n1 nc) rfl; clear ho hg))
    all_goals go_wp2_with fail
    all_goals go_meet
    all_goals exact cutA_mk HX9.out HBB.out HRO.out HRP.out rfl
  rename World => wF
  obtain ⟨⟨hbl, hst⟩, an, cn, hbx, hrow, hrp⟩ := hcut
  clear k3 k3c hs1 hs2 HN1 HN2 HL1 HL2 HO1 HO2 HWO HO0 HBS HTD
  have HXF := Lib.hid (show Bx wF w.heap.size #[.int .i64 8, .int .i64 m0, .string s0, .slice (some ⟨gn, on, none⟩) n1 nc, .slice (some ⟨gl, ol, none⟩) n1 cap1] 26 from (hst _ HXE.out.lt (by have := HLT.out; omega)).trans HXE.out)
  have HBFD := Lib.hid (HBED.out.trans hbl)
  have HEF := Lib.hid (show bD + 1 ≤ wF.heap.size from by have h1 := hbl.size; have h2 := HSZE.out; omega)
  have HX9F := Lib.hid hbx
  have HRNF := Lib.hid hrow
  have HRPF := Lib.hid (hrp.mono (Q := (bD + 1 ≤ ·)) fun q hq => by have h2 := HSZE.out; have h1 : wE.heap.size ≤ q := hq; show bD + 1 ≤ q; omega)
  clear hbl hst hbx hrow hrp
  have hlen : ∀ x, x < n1 → ((fun x => (ch1 x).cells) x).length = 5 := fun x hx => (one_vcells (HVD.out.2.2 x hx)).1
  have hone : ∀ x, x < n1 → ∀ v ∈ (fun x => (ch1 x).cells) x, v.oneCell' = true := fun x hx => (one_vcells (HVD.out.2.2 x hx)).2
  have hs1 := vals_to gl ol n1 cap1 i (by omega) HRV.out.1
  have hs2 := vals_from gl ol n1 cap1 i1 (by omega) HRV.out.1
  have hn2 := row_newsC (K := 5) (by omega) (row_from (i := i1) HRV.out (by omega)) (fun x hx => hlen (i1 + x) (by omega))
  rw [hr] at hs2 hn2
  have HN1 := Lib.hid (row_newsC (K := 5) (by omega) (row_to (i := i) HRV.out (by omega)) (fun x hx => hlen x (by omega)))
  have HL1 := Lib.hid (flatC_len (K := 5) (f := (fun x => (ch1 x).cells)) (k := i) fun x hx => hlen x (by omega))
  have HL2 := Lib.hid (flatC_len (K := 5) (f := fun x => (fun x => (ch1 x).cells) (i1 + x)) (k := r) fun x hx => hlen (i1 + x) (by omega))
  have HO1 := Lib.hid (flatC_one (f := (fun x => (ch1 x).cells)) (k := i) fun x hx => hone x (by omega))
  have HO2 := Lib.hid (flatC_one (f := fun x => (fun x => (ch1 x).cells) (i1 + x)) (k := r) fun x hx => hone (i1 + x) (by omega))
  have HWO := Lib.hid (fun (W : World) (v : Value) (A : Nat) (h : W.ownsRow A 26 5 v (0 + i + r) ([] ++ flatC (fun x => (ch1 x).cells) i ++ flatC (fun x => (fun x => (ch1 x).cells) (i1 + x)) r)) => own_without (m := mm) (f := (fun x => (ch1 x).cells)) (by rw [hi1]; exact h) hmm (fun x hx => hlen x (by omega)) (by omega))
  obtain ⟨ax, hax⟩ : ∃ x, (if cap1 = i1 then ol else ol + i1 * 5) = x := ⟨_, rfl⟩
  rw [hax] at hs2 hn2
  obtain ⟨cr, hcr⟩ : ∃ x, cap1 - i1 = x := ⟨_, rfl⟩
  rw [hcr] at hs2 hn2
  have HN2 := Lib.hid hn2
  obtain ⟨F1, hf1⟩ : ∃ l, flatC (fun x => (ch1 x).cells) i = l := ⟨_, rfl⟩
  obtain ⟨F2, hf2⟩ : ∃ l, flatC (fun x => (fun x => (ch1 x).cells) (i1 + x)) r = l := ⟨_, rfl⟩
  rw [hf1] at HN1 HL1 HO1 HWO
  rw [hf2] at HN2 HL2 HO2 HWO
  have HO0 := Lib.hid (World.ownsRow_lit (base := wF.heap.size) (e := 26) (size := 5) wF #[] 0 (Nat.le_refl _) (by unfold maxLen; omega) (by rfl))
  have HBS := Lib.hid (show Below wF.heap.size wF (wF.alloc (.cells #[] 26)).drew from Below.drew ((Below.refl _ _).alloc (Nat.le_refl _) _))
  have HTD := Lib.hid (fun (W : World) (hb : Below wF.heap.size wF W) => show Below bD wD W from HBFD.out.trans (hb.mono (by have h1 := HEF.out; omega)))
  have k3 := (HXF.out.below HBS.out HXF.out.lt).cell 4 (v := .slice (some ⟨gl, ol, none⟩) n1 cap1) rfl
  have k3c : wF.drew.cell? ⟨w.heap.size, 4, none⟩ = some (.slice (some ⟨gl, ol, none⟩) n1 cap1) := HXF.out.cell 4 rfl
  clear hax hcr hf1 hf2 hn2 hlen hone
  go_upto_region 7 with fail
  (try dsimp only [Act.put])
  go_cut [73] from 61 to 73 (fun _ wx => CutA wF bD (fun v => #[.int .i64 8, .int .i64 m0, .string s0, .slice an mm cn, v]) mm 5 (fun x => (fun x => (ch1 x).cells) (shift i x)) wx)
  case first =>
    go_region_law (first
      | (refine step_append_rowM (by rfl) (.tmp 66) (.tmp 71) 24 (by rfl) wF.heap.size 26 j0 zeroV 5 80 Tryz.underlying24 hj0 hj1 hj2 hj3 (by rfl) (by decide) v1 (0 + i) ([] ++ F1) (by rfl) HOA.out (some ⟨gl, ax, none⟩) r cr F2 (by rfl) HL2.out (HN2.out.imp id fun ⟨ad, h1, h2⟩ => ⟨ad, h1, h2 _ (HTD.out _ HBA.out)⟩) HO2.out (by unfold maxLen; omega) (by omega) HBA.out.size ?_; intro v2 w5 ho hg; have HBB := Lib.hid (HBA.out.grown hg HBA.out.size (fun j hj => (HOA.out.lt j hj).1)); obtain ⟨an, cn, hv2, hrow, hrp⟩ := HWO.out _ _ _ ho; subst hv2; have HRO := Lib.hid hrow; have HRP := Lib.hid hrp; have y9 := (HX9F.out.below HBB.out HX9F.out.lt).cell 4 (v := .slice (some ⟨gl, ol, none⟩) n1 cap1) rfl; have z9 := frozenM (HX9F.out.below HBB.out HX9F.out.lt) 4; clear ho hg hrow hrp)
      | (refine step_append_rowM (by rfl) (.tmp 61) (.tmp 65) 24 (by rfl) wF.heap.size 26 j0 zeroV 5 80 Tryz.underlying24 hj0 hj1 hj2 hj3 (by rfl) (by decide) _ 0 [] (by rfl) HO0.out (some ⟨gl, ol, none⟩) i cap1 F1 (by rfl) HL1.out (HN1.out.imp id fun ⟨ad, h1, h2⟩ => ⟨ad, h1, h2 _ (HTD.out _ HBS.out)⟩) HO1.out (by unfold maxLen; omega) (by omega) HBS.out.size ?_; intro v1 w4 ho hg; have HOA := Lib.hid ho; have HBA := Lib.hid (HBS.out.grown hg HBS.out.size (fun j hj => (HO0.out.lt j hj).1)); have k3b := (HXF.out.below HBA.out HXF.out.lt).cell 4 (v := .slice (some ⟨gl, ol, none⟩) n1 cap1) rfl; clear ho hg))
    all_goals go_wp2_with fail
    all_goals go_meet
    all_goals exact cutA_mk HX9F.out HBB.out HRO.out HRP.out rfl
  rename World => wG
  obtain ⟨⟨hbl, hst⟩, al, cl, hbx, hrow, hrp⟩ := hcut
  clear k3 k3c hs1 hs2 HN1 HN2 HL1 HL2 HO1 HO2 HWO HO0 HBS HTD
  have HXG := Lib.hid (HXF.out.below hbl HLT.out)
  have HBGD := Lib.hid (HBFD.out.trans hbl)
  have HBG := Lib.hid (HBD.out.trans (HBGD.out.mono (Nat.le_of_lt HLT.out)))
  have HX9G := Lib.hid hbx
  have HRNG := Lib.hid (HRNF.out.frame (W' := wG) (B' := wG.heap.size) HRPF.out (fun q hq hp => hst q hq (by have h : bD + 1 ≤ q := hp; omega)) hbl.size)
  have HRLG := Lib.hid hrow
  have HBGW := Lib.hid (show Below wD.heap.size wD wG from by rw [HBW.out]; exact HBGD.out)
  clear hbl hst hbx hrow hrp HXE HXF HX9 HX9F HBED HBFD HRNF HRPF HXD HXD1 HB9 HEF HSZE q3 hr hi1 hi0 hz0 hz1 hz2 hj0 hj1 hj2 hj3
  -- what the check says
  have HCW := Lib.hid (show ∀ W, Below wG.heap.size wG W → Calls Tryz.prog 15 #[.slice (some ⟨gd, od, none⟩) d.n d.cap, .agg #[.int .i64 8, .int .i64 m0, .string s0, .slice an mm cn, .slice al mm cl]] W fun e w' => e = .returned (.int .i64 (if mustN (d.f 0) (nm0.f i) (d.f 0).pa.n = true then 4 else 0)) ∧ Below W.heap.size W w' from fun W hb => by
    have hbw : Below w.heap.size w W := HBG.out.trans (hb.mono HBG.out.size)
    have hbd : Below wD.heap.size wD W := HBGW.out.trans (hb.mono HBGW.out.size)
    have hv0 : VIn W.heap.size W (.mk 8 m0 s0 nm0 (some ⟨gl, ol, none⟩) n1 cap1 ch1) := by
      have h := HVD.out
      rw [← HBW.out] at h
      exact (h.below hbd (Nat.le_refl _)).below (Below.refl _ _) hbd.size
    have hsh : ∀ x, x < mm → shift i x < n1 := fun x hx => by unfold shift; split <;> omega
    have hv := vin_list (vin_names hv0 (nm' := ⟨an, mm, cn, fun x => nm0.f (shift i x)⟩) ⟨(HRNG.out.below hb (Nat.le_refl _)).below (Below.refl _ _) hb.size, fun x hx => HSZN.out _ (hsh x hx)⟩) (ch' := fun x => ch1 (shift i x)) ((HRLG.out.below hb (Nat.le_refl _)).below (Below.refl _ _) hb.size) (fun x hx => hv0.2.2 _ (hsh x hx))
    have h := check_ok W.heap.size W d _ ((HD.out W hbw).below (Below.refl _ _) hbw.size) hv (Nat.le_refl _) HSET.out
    have h0 := HC0.out
    rw [HV0.out] at h0
    rw [chk_without h0 (i := i) (by rw [HNE.out]; exact HI.out) (show mm + 1 = nm0.n by rw [HNE.out]; omega) (fun x _ => rfl) (by omega) (fun x _ => rfl), list5, HDA.out] at h
    exact h)
  have HBGm := Lib.hid (HBGD.out.mono (Nat.le_of_lt HLT.out))
  have HP8 := Lib.hid (fun (W : World) (hb : Below wG.heap.size wG W) => HD8.out W (HBGm.out.trans (hb.mono (by have h1 := HBG.out.size; omega))))
  obtain ⟨gx, ox, hix, hnx⟩ := HNI.out
  have HNX := Lib.hid (fun (W : World) (hb : Below wG.heap.size wG W) => hnx W (HBGD.out.trans (hb.mono (by have h1 := HBGD.out.size; have h2 := HBW.out; omega))))
  have HPB := Lib.hid (fun (W : World) (hb : Below wG.heap.size wG W) => HBGm.out.trans (hb.mono (by have h1 := HBG.out.size; omega)))
  obtain ⟨pn, hpn⟩ : ∃ x, (d.f 0).pa.n = x := ⟨_, rfl⟩
  obtain ⟨pa, hpa⟩ : ∃ x, (d.f 0).pa.a = x := ⟨_, rfl⟩
  obtain ⟨pc, hpc⟩ : ∃ x, (d.f 0).pa.cap = x := ⟨_, rfl⟩
  obtain ⟨sn, hsn⟩ : ∃ x, nm0.f i = x := ⟨_, rfl⟩
  rw [hpn] at HPR HCW HP8
  rw [hpa, hpc] at HPR HP8
  rw [hsn] at HCW HNX
  obtain ⟨dn, hdn⟩ : ∃ x, d.n = x := ⟨_, rfl⟩
  have hdn0 : 0 < dn := by rw [← hdn]; exact HHD.out
  have HPK := Lib.hid (show pn ≤ 140737488355328 from HPR.out.2.1)
  rw [hdn] at HCW ⊢
  obtain ⟨R, hR⟩ : ∃ x, d.f 0 = x := ⟨_, rfl⟩
  rw [hR] at HPR HCW
  have q0 : decide ((0 : Int) < (dn : Int)) = true := decide_eq_true (by omega)
  have q0n : decide (0 < dn) = true := decide_eq_true hdn0
  clear hpn hpa hpc hsn hnx hdn hR HD8 HNI HBGD HBGm HRNG HRLG HVD HRN HRV HSZN HPD
  go_wp2_with fail
  go_loopw [10, 11] (fun mv iv wr => RelMu wG R sn pn mv iv wr) (fun _ iv _ => pn - (Lib.intOf iv).toNat)
  case atStart => exact ⟨0, Nat.zero_le _, rfl, rfl, Below.refl _ _⟩
  case round =>
    obtain ⟨j, hj, rfl, rfl, hbel⟩ := hrel
    have HBR := Lib.hid hbel
    clear hbel
    have e8 := HP8.out wr HBR.out
    by_cases hlt : j < pn
    · have q1 : decide ((j : Int) < (pn : Int)) = true := decide_eq_true (by omega)
      have q1n : decide (j < pn) = true := decide_eq_true hlt
      have q3 : IntKind.i64.wrap ((j : Int) + 1) = ((j + 1 : Nat) : Int) := wrap_succ hlt (by have := HPK.out; omega)
      obtain ⟨gy, oy, hiy, hgy, hry⟩ := HPR.out.read 40 45 Tryz.underlying40 (by kernel_rfl) Tryz.sizeOf45 hlt
      have hrw := hry wr ((HPB.out wr HBR.out).block gy hgy)
      have p0 := hrw 0 _ rfl
      have p1 := hrw 1 _ rfl
      have p2 := hrw 2 _ rfl
      have p3 := hrw 3 _ rfl
      have hsu := mustN_succ R sn j
      rw [Nat.add_zero] at p0
      unfold DL.v at p3
      obtain ⟨fd, hfd⟩ : ∃ x, (R.pa.f j).d.n = x := ⟨_, rfl⟩
      rw [hfd] at p3 hsu
      generalize (R.pa.f j).name = fn at *
      generalize (R.pa.f j).t = ft at *
      generalize (R.pa.f j).opt = fo at *
      generalize (R.pa.f j).d.a = fa at *
      generalize (R.pa.f j).d.cap = fc at *
      have HSU := Lib.hid hsu
      clear hry hrw hgy hfd hsu
      go_upto_region 13 with (refine wpList_store_new rfl 45 (.tmp 12) (.tmp 89) rfl 4 _ [.string fn, .int .i64 ft, .bool fo, .slice fa fd fc] rfl (by rfl) info_F4 (by simp [Value.oneCell']) rfl rfl ?_)
      (try dsimp only [Act.put])
      have HY := Lib.hid (Bx.new wr #[.string fn, .int .i64 ft, .bool fo, .slice fa fd fc] 45)
      have HB1 := Lib.hid (HBR.out.alloc HBR.out.size (.cells #[.string fn, .int .i64 ft, .bool fo, .slice fa fd fc] 45))
      generalize wr.alloc (.cells #[.string fn, .int .i64 ft, .bool fo, .slice fa fd fc] 45) = W1 at *
      have g0 := HY.out.cell 0 (v := .string fn) rfl
      have g2 := HY.out.cell 2 (v := .bool fo) rfl
      have g3 := HY.out.cell 3 (v := .slice fa fd fc) rfl
      have k3 := (HXG.out.below HB1.out HXG.out.lt).cell 3 (v := .slice (some ⟨gn, on, none⟩) n1 nc) rfl
      have kx := HNX.out W1 HB1.out
      clear p0 p1 p2 p3 e8 q1 q1n
      have qi : decide ((i : Int) < (n1 : Int)) = true := decide_eq_true (by have := HI.out; omega)
      generalize hmb : mustN R sn j = mb at *
      cases mb with
      | true =>
        go_quiet (fail)
        go_wp2_with fail
        go_roundw
        case rel => exact ⟨j + 1, hlt, rfl, by rw [HSU.out]; rfl, HB1.out.trans ⟨rfl, rfl, rfl, Nat.le_refl _, fun _ _ => rfl⟩⟩
        case measure => simp only [Lib.intOf]; omega
      | false =>
      cases heb : sEq fn sn with
      | false =>
        have r1 : (fn.toList == sn.toList) = false := heb
        go_quiet (fail)
        go_wp2_with fail
        go_roundw
        case rel => exact ⟨j + 1, hlt, rfl, by rw [HSU.out, heb]; rfl, HB1.out.trans ⟨rfl, rfl, rfl, Nat.le_refl _, fun _ _ => rfl⟩⟩
        case measure => simp only [Lib.intOf]; omega
      | true =>
      have r1 : (fn.toList == sn.toList) = true := heb
      cases fo with
      | true =>
        go_quiet (fail)
        go_wp2_with fail
        go_roundw
        case rel => exact ⟨j + 1, hlt, rfl, by rw [HSU.out, heb]; rfl, HB1.out.trans ⟨rfl, rfl, rfl, Nat.le_refl _, fun _ _ => rfl⟩⟩
        case measure => simp only [Lib.intOf]; omega
      | false =>
      by_cases hd0 : fd = 0
      · have r2 : ((fd : Int) == 0) = true := by simp [hd0]
        go_quiet (fail)
        go_wp2_with fail
        go_roundw
        case rel => exact ⟨j + 1, hlt, rfl, by rw [HSU.out, heb, decide_eq_true hd0]; rfl, HB1.out.trans ⟨rfl, rfl, rfl, Nat.le_refl _, fun _ _ => rfl⟩⟩
        case measure => simp only [Lib.intOf]; omega
      · have r2 : ((fd : Int) == 0) = false := beq_eq_false_iff_ne.2 (by omega)
        go_quiet (fail)
        go_wp2_with fail
        go_roundw
        case rel => exact ⟨j + 1, hlt, rfl, by rw [HSU.out, heb, decide_eq_false hd0]; rfl, HB1.out.trans ⟨rfl, rfl, rfl, Nat.le_refl _, fun _ _ => rfl⟩⟩
        case measure => simp only [Lib.intOf]; omega
    · have q1 : decide ((j : Int) < (pn : Int)) = false := decide_eq_false (by omega)
      have q1n : decide (j < pn) = false := decide_eq_false hlt
      obtain rfl : j = pn := by omega
      have HCR := Lib.hid (HCW.out wr HBR.out)
      obtain ⟨c0, c1, c2, c3, c4⟩ := fiveX (HX9G.out.below HBR.out HX9G.out.lt)
      generalize mustN R sn j = mb at *
      cases mb with
      | true =>
        go_wp2_with fail
        refine HCR.out.mono ?_
        rintro e wS ⟨rfl, h2⟩
        have HBZ := Lib.hid (HBG.out.trans ((HBR.out.trans (h2.mono HBR.out.size)).mono HBG.out.size))
        clear h2 c0 c1 c2 c3 c4
        go_wp2_with fail
        go_ret
        exact ⟨rfl, HBZ.out⟩
      | false =>
        go_wp2_with fail
        refine HCR.out.mono ?_
        rintro e wS ⟨rfl, h2⟩
        have HBZ := Lib.hid (HBG.out.trans ((HBR.out.trans (h2.mono HBR.out.size)).mono HBG.out.size))
        clear h2 c0 c1 c2 c3 c4
        go_wp2_with fail
        go_ret
        exact ⟨rfl, HBZ.out⟩

set_option maxRecDepth 100000 in
theorem lifted (os : Os) (started : os.Started) (H : Type) (enc : TypeId × Value → H) :
    ReturnsInHanded {} Tryz.checked os 6 .any (Rows.memberPartsSpec.pre6 enc Tryz.prog Tryz.f6 Rows.memberPartsRow.domain false) (Rows.memberPartsSpec.post enc Tryz.prog Tryz.f6 false true false false) := by
  refine handed_light (C := Tryz.checked) own started (by kernel_rfl) Tryz.func6
    (ChangeSpec.witness6 (enc := enc) (C := Tryz.checked) false ⟨#[], #[.slice none 0 0, .agg #[.int .i64 0, .int .i64 0, .string ByteArray.empty, .slice none 0 0, .slice none 0 0], .int .i64 0], []⟩ 8 (by kernel_rfl) (by kernel_rfl) (by kernel_rfl) (by kernel_rfl)) ?_
  intro W base args ds gs before hval0 hW hsz0
  have hval : ∀ (j : Nat) t v, Tryz.f6.params[j]? = some t → args[j]? = some v → Value.okWide Tryz.prog W .any base t v := hval0
  have hW' := hW
  obtain ⟨p, q, hA0, hV, rfl, hfz, hnd⟩ := hW
  have hA : DataW.TrodAll enc Tryz.prog W 0 (fun _ => true) true Tryz.f6.params.toList args.toList ds p := hA0
  rw [Tryz.params6] at hA hval
  obtain ⟨v0, vs0, d0, ds0, p0, q0, hargs, rfl, rfl, h0, r0⟩ := trodAll_cons hA
  obtain ⟨v1, vs1, d1, ds1, p1, q1, rfl, rfl, rfl, h1, r1⟩ := trodAll_cons r0
  obtain ⟨v2, vs2, d2, ds2, p2, q2, rfl, rfl, rfl, h2, r2⟩ := trodAll_cons r1
  obtain ⟨rfl, rfl, rfl⟩ := trodAll_nil r2
  obtain rfl : args = #[v0, v1, v2] := by cases args; simp_all
  obtain ⟨rfl, rfl⟩ := trodVars_none hV
  obtain ⟨a0, len0, cap0, rfl⟩ := okWide_slice Tryz.underlying22 (hval 0 22 v0 rfl rfl)
  have k0 := h0
  have lt0 : ∀ x ∈ p0, x.block < W.heap.size := by obtain ⟨m, hm⟩ := k0; exact DataW.trod_lt m _ _ _ hm
  have li0 : Light 22 d0 := light_each hsz0 0 _ _ rfl rfl
  have w0 := open_table h0 li0
  obtain ⟨cs1, rfl, _⟩ := okWide_struct Tryz.underlying26 (hval 1 26 v1 rfl rfl)
  have k1 := h1
  have lt1 : ∀ x ∈ p1, x.block < W.heap.size := by obtain ⟨m, hm⟩ := k1; exact DataW.trod_lt m _ _ _ hm
  have li1 : Light 26 d1 := light_each hsz0 1 _ _ rfl rfl
  obtain ⟨fuel1, hf1⟩ := h1
  obtain ⟨x1, hc1, hx1⟩ := open_val (W := W) fuel1 (cs := cs1.toList) hf1 li1
  obtain rfl : cs1 = x1.cells.toArray := by rw [← hc1]
  obtain ⟨a2, rfl, rfl, rfl, w2⟩ := open_int Tryz.underlying3 (hval 2 3 v2 rfl rfl) h2
  clear hA0 hval0
  refine (walk W a0 len0 cap0 w0 x1 hx1 a2 w2).mono fun e W' ⟨he, bel⟩ => ?_
  subst he
  exact ⟨_, rfl, _, _, _, [], _, [], hW', trodAll_mk1 (shut_bool Tryz.underlying4 _), (trodAll_cons_mk (Below.trod laidOut (by kernel_rfl) (of_decide_eq_true (by kernel_rfl)) k0 bel lt0) (trodAll_cons_mk (Below.trod laidOut (by kernel_rfl) (of_decide_eq_true (by kernel_rfl)) k1 bel lt1) (trodAll_cons_mk (shut_int Tryz.underlying3 w2) trodAll_mk0))), rfl, bel.frame _, fun h => by cases h⟩

theorem over : Rows.memberPartsRow.holds Tryz.pinned (OpenSpec.ofChange Rows.memberPartsSpec) :=
  OpenClaim.holds_of_wide 6 Tryz.f6 rfl rfl rfl rfl rfl rfl rfl ⟨rfl, rfl, rfl, rfl, rfl⟩ rfl rfl rfl rfl rfl (by kernel_rfl) Tryz.func6 (by kernel_rfl)
    (of_decide_eq_true (by kernel_rfl)) (by unfold Func.isWrapper; first | (rw [if_pos (by decide +kernel)]; kernel_rfl) | (rw [if_neg (by decide +kernel)]; exact ⟨rfl, rfl⟩))
    (fun os started H enc _ => lifted os started H enc)

theorem proved : Rows.MemberPartsSaid := over
end Go.Proofs.YtmaghmdcagdkhaaGreat.memberParts
