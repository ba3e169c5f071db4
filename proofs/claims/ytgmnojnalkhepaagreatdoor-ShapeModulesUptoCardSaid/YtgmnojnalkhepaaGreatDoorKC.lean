/-
  A bundle of texts, one behind the other: ShZ5, ShZ6.
-/
import Derived.Test.YtgmnojnalkhepaaGreatDoorKB
import Derived.Test.YtgmnojnalkhepaaGreatDoorJU
/-
  The document's typeText at the kinds that make no new rows, and hold no type: printed by gen_shz5.py.
-/
namespace Go.Proofs.YtgmnojnalkhepaaGreatDoor
open Go.RowKit Go.BigFrame
set_option linter.unusedVariables false
set_option linter.unusedSimpArgs false
set_option maxRecDepth 100000

set_option maxHeartbeats 16000000 in
theorem rtypeText_A (kd op lo hi : Int) (tn fr : ByteArray) (lw hg ext : Bool) (ca sa ma pa aa ea : Option Addr) (cn cc sn sc mn mc pn pc an ac en ec : Nat) (cch : Nat → CT) (sf mf : Nat → ByteArray) (pf af : Nat → PD) (ptf atf etf : Nat → TT) (B : Nat) (w : World)
    (hin : TIn B w (TT.mk kd tn (.mk op lo hi lw hg ca cn cc cch) ext fr ⟨sa, sn, sc, sf⟩ ⟨ma, mn, mc, mf⟩ ⟨pa, pn, pc, pf⟩ ptf ⟨aa, an, ac, af⟩ atf ea en ec etf)) (hB : B ≤ w.heap.size) (hok : (CT.mk op lo hi lw hg ca cn cc cch).ok 40 = true) (hex : ext = true ∨ (ext = false → mn = 0))
    (hcl : (CT.mk op lo hi lw hg ca cn cc cch).txt.length ≤ 900000000) (htl : (TT.mk kd tn (.mk op lo hi lw hg ca cn cc cch) ext fr ⟨sa, sn, sc, sf⟩ ⟨ma, mn, mc, mf⟩ ⟨pa, pn, pc, pf⟩ ptf ⟨aa, an, ac, af⟩ atf ea en ec etf).txt.length ≤ 1000000000)
    (hkd : kd = 1 ∨ kd = 4 ∨ kd = 11) :
    Calls Tryz.prog 25 #[.agg (TT.mk kd tn (.mk op lo hi lw hg ca cn cc cch) ext fr ⟨sa, sn, sc, sf⟩ ⟨ma, mn, mc, mf⟩ ⟨pa, pn, pc, pf⟩ ptf ⟨aa, an, ac, af⟩ atf ea en ec etf).cells.toArray] w fun e w' => e = .returned (.string (bs (TT.mk kd tn (.mk op lo hi lw hg ca cn cc cch) ext fr ⟨sa, sn, sc, sf⟩ ⟨ma, mn, mc, mf⟩ ⟨pa, pn, pc, pf⟩ ptf ⟨aa, an, ac, af⟩ atf ea en ec etf).txt)) ∧ Below w.heap.size w w' := by
  have HIN := Lib.hid (fun (W : World) (hb : Below w.heap.size w W) => (hin.below (hb.mono hB) (Nat.le_refl _)).below (Below.refl _ _) (Nat.le_trans hB hb.size))
  have hl := (one_tcells hin).1
  obtain ⟨⟨_, htn, hcon, hfr, hnm, hmo⟩, ⟨hpr, hp⟩, ⟨har, ha⟩, ⟨her, he⟩⟩ := hin
  have HTL := Lib.hid (show (TT.mk kd tn (.mk op lo hi lw hg ca cn cc cch) ext fr ⟨sa, sn, sc, sf⟩ ⟨ma, mn, mc, mf⟩ ⟨pa, pn, pc, pf⟩ ptf ⟨aa, an, ac, af⟩ atf ea en ec etf).txt.length ≤ 1000000000 ∧ (kd = 3 → (braT (fun i => (sf i).data.toList) sn ext (fun i => (mf i).data.toList) mn).length ≤ 1000000000) from ⟨htl, fun h => by
    subst h
    have h2 : ([69, 78, 85, 77, 69, 82, 65, 84, 69, 68, 32] ++ braT (fun i => (sf i).data.toList) sn ext (fun i => (mf i).data.toList) mn : List UInt8).length ≤ 1000000000 := htl
    rw [List.length_append] at h2
    omega⟩)
  obtain ⟨res, hres⟩ : ∃ res, bs (TT.mk kd tn (.mk op lo hi lw hg ca cn cc cch) ext fr ⟨sa, sn, sc, sf⟩ ⟨ma, mn, mc, mf⟩ ⟨pa, pn, pc, pf⟩ ptf ⟨aa, an, ac, af⟩ atf ea en ec etf).txt = res := ⟨_, rfl⟩
  rw [hres]
  have HRES := Lib.hid hres.symm
  obtain ⟨cs, hcs⟩ : ∃ cs, (TT.mk kd tn (.mk op lo hi lw hg ca cn cc cch) ext fr ⟨sa, sn, sc, sf⟩ ⟨ma, mn, mc, mf⟩ ⟨pa, pn, pc, pf⟩ ptf ⟨aa, an, ac, af⟩ atf ea en ec etf).cells = cs := ⟨_, rfl⟩
  have C0 := Lib.hid (show cs[0]? = some (.int .i64 kd) by rw [← hcs]; rfl)
  have C1 := Lib.hid (show cs[1]? = some (.string tn) by rw [← hcs]; rfl)
  have C2 := Lib.hid (show cs[2]? = some (.int .i64 op) by rw [← hcs]; rfl)
  have C8 := Lib.hid (show cs[8]? = some (.bool ext) by rw [← hcs]; rfl)
  have C9 := Lib.hid (show cs[9]? = some (.string fr) by rw [← hcs]; rfl)
  have C10 := Lib.hid (show cs[10]? = some (.slice sa sn sc) by rw [← hcs]; rfl)
  have C11 := Lib.hid (show cs[11]? = some (.slice ma mn mc) by rw [← hcs]; rfl)
  have C14 := Lib.hid (show cs[14]? = some (.slice ea en ec) by rw [← hcs]; rfl)
  rw [hcs]
  have HL := Lib.hid (show cs.length = 15 by rw [← hcs]; exact hl)
  have HX := Lib.hid (Bx.new w cs.toArray 39)
  have HB := Lib.hid ((Below.refl w.heap.size w).alloc (Nat.le_refl _) (.cells cs.toArray 39))
  have HRC := Lib.hid (show (w.alloc (.cells cs.toArray 39)).rangeAt w.heap.size 2 (CT.mk op lo hi lw hg ca cn cc cch).cells from range_con (c := .mk op lo hi lw hg ca cn cc cch) (HIN.out w (Below.refl _ _)) (by intro _ _ _ _ _ _ _ _ _ _ _ _ _ _ _ e; cases e; rfl) (by rw [hcs]; exact HX.out))
  have HCW := Lib.hid (Nat.le_trans hcl (by decide : 900000000 ≤ 1000000000))
  have HLN := Lib.hid (show (bndT (.mk op lo hi lw hg ca cn cc cch) ext szB szC).length ≤ 2000000000 by
    have h := bndT_len (.mk op lo hi lw hg ca cn cc cch) ext szB szC
    have h2 : szB.length = 8 := rfl
    have h3 : szC.length = 2 := rfl
    omega)
  have HCT := Lib.hid (fun (h0 : op ≠ 0) (W : World) (hb : Below w.heap.size w W) => rtext_ok (.mk op lo hi lw hg ca cn cc cch) B W (hcon.below (hb.mono hB) (Nat.le_refl _)) (Nat.le_trans hB hb.size) (CT.ok_wf _ 40 hok h0) HCW.out)
  have HSZ := Lib.hid (fun (W : World) (hb : Below w.heap.size w W) => show Calls Tryz.prog 41 #[.agg cs.toArray] W fun e w' => e = .returned (.string (bs (bndT (.mk op lo hi lw hg ca cn cc cch) ext szB szC))) ∧ Below W.heap.size W w' by
    have h := rsize_ok (TT.mk kd tn (.mk op lo hi lw hg ca cn cc cch) ext fr ⟨sa, sn, sc, sf⟩ ⟨ma, mn, mc, mf⟩ ⟨pa, pn, pc, pf⟩ ptf ⟨aa, an, ac, af⟩ atf ea en ec etf) (.mk op lo hi lw hg ca cn cc cch) ext W.heap.size W (HIN.out W hb) (Nat.le_refl _) (by intro _ _ _ _ _ _ _ _ _ _ _ _ _ _ _ e; cases e; rfl) rfl rfl hok HCW.out
    rw [hcs] at h
    exact h)
  have HNM := Lib.hid (fun (W : World) (hb : Below w.heap.size w W) => show SLIn W.heap.size W ⟨sa, sn, sc, sf⟩ from (hnm.below (hb.mono hB) (Nat.le_refl _)).below (Below.refl _ _) (Nat.le_trans hB hb.size))
  have HMO := Lib.hid (fun (W : World) (hb : Below w.heap.size w W) => show SLIn W.heap.size W ⟨ma, mn, mc, mf⟩ from (hmo.below (hb.mono hB) (Nat.le_refl _)).below (Below.refl _ _) (Nat.le_trans hB hb.size))
  have HM := Lib.hid hB
  have HEX := Lib.hid hex
  obtain ⟨W, hW⟩ : ∃ W, w.alloc (.cells cs.toArray 39) = W := ⟨_, rfl⟩
  rw [hW] at HX HB HRC
  clear hcon hnm hmo hpr hp har ha her he hB hfr htn hl hcs hres hok hex hcl htl HIN
  rcases hkd with hk | hk | hk
  · subst hk
    have d0 : W.cell? ⟨w.heap.size, 0, none⟩ = some (.int .i64 1) := HX.out.cell 0 (by rw [List.getElem?_toArray]; exact C0.out)
    have HR := Lib.hid (show res = bs ([66, 79, 79, 76, 69, 65, 78]) from HRES.out)
    obtain rfl : res = (⟨#[66, 79, 79, 76, 69, 65, 78]⟩ : ByteArray) := HR.out
    clear HSZ HNM HMO HRC HCT HM HEX HLN HTL HCW
    go_enter Tryz.func25, Tryz.ntmps25
    go_wp2_with fail
    go_ret
    exact ⟨rfl, HB.out⟩
  · subst hk
    have d0 : W.cell? ⟨w.heap.size, 0, none⟩ = some (.int .i64 4) := HX.out.cell 0 (by rw [List.getElem?_toArray]; exact C0.out)
    have HR := Lib.hid (show res = bs ([78, 85, 76, 76]) from HRES.out)
    obtain rfl : res = (⟨#[78, 85, 76, 76]⟩ : ByteArray) := HR.out
    clear HSZ HNM HMO HRC HCT HM HEX HLN HTL HCW
    go_enter Tryz.func25, Tryz.ntmps25
    go_wp2_with fail
    go_ret
    exact ⟨rfl, HB.out⟩
  · subst hk
    have d0 : W.cell? ⟨w.heap.size, 0, none⟩ = some (.int .i64 11) := HX.out.cell 0 (by rw [List.getElem?_toArray]; exact C0.out)
    have d1 : W.cell? ⟨w.heap.size, 1, none⟩ = some (.string tn) := HX.out.cell 1 (by rw [List.getElem?_toArray]; exact C1.out)
    have HR := Lib.hid (show res = bs (tn.data.toList) from HRES.out)
    obtain rfl : res = tn := HR.out.trans (bs_data tn)
    clear HSZ HNM HMO HRC HCT HM HEX HLN HTL HCW
    go_enter Tryz.func25, Tryz.ntmps25
    go_wp2_with fail
    go_ret
    exact ⟨rfl, HB.out⟩
set_option maxHeartbeats 16000000 in
theorem rtypeText_B (kd op lo hi : Int) (tn fr : ByteArray) (lw hg ext : Bool) (ca sa ma pa aa ea : Option Addr) (cn cc sn sc mn mc pn pc an ac en ec : Nat) (cch : Nat → CT) (sf mf : Nat → ByteArray) (pf af : Nat → PD) (ptf atf etf : Nat → TT) (B : Nat) (w : World)
    (hin : TIn B w (TT.mk kd tn (.mk op lo hi lw hg ca cn cc cch) ext fr ⟨sa, sn, sc, sf⟩ ⟨ma, mn, mc, mf⟩ ⟨pa, pn, pc, pf⟩ ptf ⟨aa, an, ac, af⟩ atf ea en ec etf)) (hB : B ≤ w.heap.size) (hok : (CT.mk op lo hi lw hg ca cn cc cch).ok 40 = true) (hex : ext = true ∨ (ext = false → mn = 0))
    (hcl : (CT.mk op lo hi lw hg ca cn cc cch).txt.length ≤ 900000000) (htl : (TT.mk kd tn (.mk op lo hi lw hg ca cn cc cch) ext fr ⟨sa, sn, sc, sf⟩ ⟨ma, mn, mc, mf⟩ ⟨pa, pn, pc, pf⟩ ptf ⟨aa, an, ac, af⟩ atf ea en ec etf).txt.length ≤ 1000000000)
    (hkd : kd = 5 ∨ kd = 6) :
    Calls Tryz.prog 25 #[.agg (TT.mk kd tn (.mk op lo hi lw hg ca cn cc cch) ext fr ⟨sa, sn, sc, sf⟩ ⟨ma, mn, mc, mf⟩ ⟨pa, pn, pc, pf⟩ ptf ⟨aa, an, ac, af⟩ atf ea en ec etf).cells.toArray] w fun e w' => e = .returned (.string (bs (TT.mk kd tn (.mk op lo hi lw hg ca cn cc cch) ext fr ⟨sa, sn, sc, sf⟩ ⟨ma, mn, mc, mf⟩ ⟨pa, pn, pc, pf⟩ ptf ⟨aa, an, ac, af⟩ atf ea en ec etf).txt)) ∧ Below w.heap.size w w' := by
  have HIN := Lib.hid (fun (W : World) (hb : Below w.heap.size w W) => (hin.below (hb.mono hB) (Nat.le_refl _)).below (Below.refl _ _) (Nat.le_trans hB hb.size))
  have hl := (one_tcells hin).1
  obtain ⟨⟨_, htn, hcon, hfr, hnm, hmo⟩, ⟨hpr, hp⟩, ⟨har, ha⟩, ⟨her, he⟩⟩ := hin
  have HTL := Lib.hid (show (TT.mk kd tn (.mk op lo hi lw hg ca cn cc cch) ext fr ⟨sa, sn, sc, sf⟩ ⟨ma, mn, mc, mf⟩ ⟨pa, pn, pc, pf⟩ ptf ⟨aa, an, ac, af⟩ atf ea en ec etf).txt.length ≤ 1000000000 ∧ (kd = 3 → (braT (fun i => (sf i).data.toList) sn ext (fun i => (mf i).data.toList) mn).length ≤ 1000000000) from ⟨htl, fun h => by
    subst h
    have h2 : ([69, 78, 85, 77, 69, 82, 65, 84, 69, 68, 32] ++ braT (fun i => (sf i).data.toList) sn ext (fun i => (mf i).data.toList) mn : List UInt8).length ≤ 1000000000 := htl
    rw [List.length_append] at h2
    omega⟩)
  obtain ⟨res, hres⟩ : ∃ res, bs (TT.mk kd tn (.mk op lo hi lw hg ca cn cc cch) ext fr ⟨sa, sn, sc, sf⟩ ⟨ma, mn, mc, mf⟩ ⟨pa, pn, pc, pf⟩ ptf ⟨aa, an, ac, af⟩ atf ea en ec etf).txt = res := ⟨_, rfl⟩
  rw [hres]
  have HRES := Lib.hid hres.symm
  obtain ⟨cs, hcs⟩ : ∃ cs, (TT.mk kd tn (.mk op lo hi lw hg ca cn cc cch) ext fr ⟨sa, sn, sc, sf⟩ ⟨ma, mn, mc, mf⟩ ⟨pa, pn, pc, pf⟩ ptf ⟨aa, an, ac, af⟩ atf ea en ec etf).cells = cs := ⟨_, rfl⟩
  have C0 := Lib.hid (show cs[0]? = some (.int .i64 kd) by rw [← hcs]; rfl)
  have C1 := Lib.hid (show cs[1]? = some (.string tn) by rw [← hcs]; rfl)
  have C2 := Lib.hid (show cs[2]? = some (.int .i64 op) by rw [← hcs]; rfl)
  have C8 := Lib.hid (show cs[8]? = some (.bool ext) by rw [← hcs]; rfl)
  have C9 := Lib.hid (show cs[9]? = some (.string fr) by rw [← hcs]; rfl)
  have C10 := Lib.hid (show cs[10]? = some (.slice sa sn sc) by rw [← hcs]; rfl)
  have C11 := Lib.hid (show cs[11]? = some (.slice ma mn mc) by rw [← hcs]; rfl)
  have C14 := Lib.hid (show cs[14]? = some (.slice ea en ec) by rw [← hcs]; rfl)
  rw [hcs]
  have HL := Lib.hid (show cs.length = 15 by rw [← hcs]; exact hl)
  have HX := Lib.hid (Bx.new w cs.toArray 39)
  have HB := Lib.hid ((Below.refl w.heap.size w).alloc (Nat.le_refl _) (.cells cs.toArray 39))
  have HRC := Lib.hid (show (w.alloc (.cells cs.toArray 39)).rangeAt w.heap.size 2 (CT.mk op lo hi lw hg ca cn cc cch).cells from range_con (c := .mk op lo hi lw hg ca cn cc cch) (HIN.out w (Below.refl _ _)) (by intro _ _ _ _ _ _ _ _ _ _ _ _ _ _ _ e; cases e; rfl) (by rw [hcs]; exact HX.out))
  have HCW := Lib.hid (Nat.le_trans hcl (by decide : 900000000 ≤ 1000000000))
  have HLN := Lib.hid (show (bndT (.mk op lo hi lw hg ca cn cc cch) ext szB szC).length ≤ 2000000000 by
    have h := bndT_len (.mk op lo hi lw hg ca cn cc cch) ext szB szC
    have h2 : szB.length = 8 := rfl
    have h3 : szC.length = 2 := rfl
    omega)
  have HCT := Lib.hid (fun (h0 : op ≠ 0) (W : World) (hb : Below w.heap.size w W) => rtext_ok (.mk op lo hi lw hg ca cn cc cch) B W (hcon.below (hb.mono hB) (Nat.le_refl _)) (Nat.le_trans hB hb.size) (CT.ok_wf _ 40 hok h0) HCW.out)
  have HSZ := Lib.hid (fun (W : World) (hb : Below w.heap.size w W) => show Calls Tryz.prog 41 #[.agg cs.toArray] W fun e w' => e = .returned (.string (bs (bndT (.mk op lo hi lw hg ca cn cc cch) ext szB szC))) ∧ Below W.heap.size W w' by
    have h := rsize_ok (TT.mk kd tn (.mk op lo hi lw hg ca cn cc cch) ext fr ⟨sa, sn, sc, sf⟩ ⟨ma, mn, mc, mf⟩ ⟨pa, pn, pc, pf⟩ ptf ⟨aa, an, ac, af⟩ atf ea en ec etf) (.mk op lo hi lw hg ca cn cc cch) ext W.heap.size W (HIN.out W hb) (Nat.le_refl _) (by intro _ _ _ _ _ _ _ _ _ _ _ _ _ _ _ e; cases e; rfl) rfl rfl hok HCW.out
    rw [hcs] at h
    exact h)
  have HNM := Lib.hid (fun (W : World) (hb : Below w.heap.size w W) => show SLIn W.heap.size W ⟨sa, sn, sc, sf⟩ from (hnm.below (hb.mono hB) (Nat.le_refl _)).below (Below.refl _ _) (Nat.le_trans hB hb.size))
  have HMO := Lib.hid (fun (W : World) (hb : Below w.heap.size w W) => show SLIn W.heap.size W ⟨ma, mn, mc, mf⟩ from (hmo.below (hb.mono hB) (Nat.le_refl _)).below (Below.refl _ _) (Nat.le_trans hB hb.size))
  have HM := Lib.hid hB
  have HEX := Lib.hid hex
  obtain ⟨W, hW⟩ : ∃ W, w.alloc (.cells cs.toArray 39) = W := ⟨_, rfl⟩
  rw [hW] at HX HB HRC
  clear hcon hnm hmo hpr hp har ha her he hB hfr htn hl hcs hres hok hex hcl htl HIN
  rcases hkd with hk | hk
  · subst hk
    have d0 : W.cell? ⟨w.heap.size, 0, none⟩ = some (.int .i64 5) := HX.out.cell 0 (by rw [List.getElem?_toArray]; exact C0.out)
    have HR := Lib.hid (show res = bs ([66, 73, 84, 32, 83, 84, 82, 73, 78, 71] ++ bndT (.mk op lo hi lw hg ca cn cc cch) ext szB szC) from HRES.out)
    have HS := Lib.hid (HSZ.out W HB.out)
    obtain ⟨X, hX⟩ : ∃ X, bs (bndT (.mk op lo hi lw hg ca cn cc cch) ext szB szC) = X := ⟨_, rfl⟩
    have zX : X.size ≤ 2000000000 := by rw [← hX, bs_size]; exact HLN.out
    rw [hX] at HS
    have f1 : ¬ 9223372036854775807 < 10 + X.size := by omega
    obtain rfl : res = (⟨#[66, 73, 84, 32, 83, 84, 82, 73, 78, 71]⟩ : ByteArray) ++ X := by rw [HR.out, ← hX, show (⟨#[66, 73, 84, 32, 83, 84, 82, 73, 78, 71]⟩ : ByteArray) = bs [66, 73, 84, 32, 83, 84, 82, 73, 78, 71] from rfl, bs_append]
    clear HSZ HNM HMO HRC HCT HM HEX HLN HTL HCW hX zX HR HRES
    go_enter Tryz.func25, Tryz.ntmps25
    go_wp2_with (first | (refine wpList_load_mid rfl 39 (.tmp 1) rfl w.heap.size 0 rfl cs _ HX.out.range Tryz.underlying39 rfl (by rw [info_T, HL.out]) ?_) | fail)
    refine HS.out.mono ?_
    rintro e W' ⟨rfl, hb⟩
    have HBn := Lib.hid (HB.out.trans (hb.mono HB.out.size))
    clear d0
    clear hb HB HX
    have HB := HBn
    clear HBn
    obtain ⟨W, rfl⟩ : ∃ W, W = W' := ⟨_, rfl⟩
    go_wp2_with fail
    go_ret
    exact ⟨rfl, HB.out⟩
  · subst hk
    have d0 : W.cell? ⟨w.heap.size, 0, none⟩ = some (.int .i64 6) := HX.out.cell 0 (by rw [List.getElem?_toArray]; exact C0.out)
    have HR := Lib.hid (show res = bs ([79, 67, 84, 69, 84, 32, 83, 84, 82, 73, 78, 71] ++ bndT (.mk op lo hi lw hg ca cn cc cch) ext szB szC) from HRES.out)
    have HS := Lib.hid (HSZ.out W HB.out)
    obtain ⟨X, hX⟩ : ∃ X, bs (bndT (.mk op lo hi lw hg ca cn cc cch) ext szB szC) = X := ⟨_, rfl⟩
    have zX : X.size ≤ 2000000000 := by rw [← hX, bs_size]; exact HLN.out
    rw [hX] at HS
    have f1 : ¬ 9223372036854775807 < 12 + X.size := by omega
    obtain rfl : res = (⟨#[79, 67, 84, 69, 84, 32, 83, 84, 82, 73, 78, 71]⟩ : ByteArray) ++ X := by rw [HR.out, ← hX, show (⟨#[79, 67, 84, 69, 84, 32, 83, 84, 82, 73, 78, 71]⟩ : ByteArray) = bs [79, 67, 84, 69, 84, 32, 83, 84, 82, 73, 78, 71] from rfl, bs_append]
    clear HSZ HNM HMO HRC HCT HM HEX HLN HTL HCW hX zX HR HRES
    go_enter Tryz.func25, Tryz.ntmps25
    go_wp2_with (first | (refine wpList_load_mid rfl 39 (.tmp 1) rfl w.heap.size 0 rfl cs _ HX.out.range Tryz.underlying39 rfl (by rw [info_T, HL.out]) ?_) | fail)
    refine HS.out.mono ?_
    rintro e W' ⟨rfl, hb⟩
    have HBn := Lib.hid (HB.out.trans (hb.mono HB.out.size))
    clear d0
    clear hb HB HX
    have HB := HBn
    clear HBn
    obtain ⟨W, rfl⟩ : ∃ W, W = W' := ⟨_, rfl⟩
    go_wp2_with fail
    go_ret
    exact ⟨rfl, HB.out⟩
set_option maxHeartbeats 16000000 in
theorem rtypeText_I (kd op lo hi : Int) (tn fr : ByteArray) (lw hg ext : Bool) (ca sa ma pa aa ea : Option Addr) (cn cc sn sc mn mc pn pc an ac en ec : Nat) (cch : Nat → CT) (sf mf : Nat → ByteArray) (pf af : Nat → PD) (ptf atf etf : Nat → TT) (B : Nat) (w : World)
    (hin : TIn B w (TT.mk kd tn (.mk op lo hi lw hg ca cn cc cch) ext fr ⟨sa, sn, sc, sf⟩ ⟨ma, mn, mc, mf⟩ ⟨pa, pn, pc, pf⟩ ptf ⟨aa, an, ac, af⟩ atf ea en ec etf)) (hB : B ≤ w.heap.size) (hok : (CT.mk op lo hi lw hg ca cn cc cch).ok 40 = true) (hex : ext = true ∨ (ext = false → mn = 0))
    (hcl : (CT.mk op lo hi lw hg ca cn cc cch).txt.length ≤ 900000000) (htl : (TT.mk kd tn (.mk op lo hi lw hg ca cn cc cch) ext fr ⟨sa, sn, sc, sf⟩ ⟨ma, mn, mc, mf⟩ ⟨pa, pn, pc, pf⟩ ptf ⟨aa, an, ac, af⟩ atf ea en ec etf).txt.length ≤ 1000000000)
    (hkd : kd = 2) :
    Calls Tryz.prog 25 #[.agg (TT.mk kd tn (.mk op lo hi lw hg ca cn cc cch) ext fr ⟨sa, sn, sc, sf⟩ ⟨ma, mn, mc, mf⟩ ⟨pa, pn, pc, pf⟩ ptf ⟨aa, an, ac, af⟩ atf ea en ec etf).cells.toArray] w fun e w' => e = .returned (.string (bs (TT.mk kd tn (.mk op lo hi lw hg ca cn cc cch) ext fr ⟨sa, sn, sc, sf⟩ ⟨ma, mn, mc, mf⟩ ⟨pa, pn, pc, pf⟩ ptf ⟨aa, an, ac, af⟩ atf ea en ec etf).txt)) ∧ Below w.heap.size w w' := by
  have HIN := Lib.hid (fun (W : World) (hb : Below w.heap.size w W) => (hin.below (hb.mono hB) (Nat.le_refl _)).below (Below.refl _ _) (Nat.le_trans hB hb.size))
  have hl := (one_tcells hin).1
  obtain ⟨⟨_, htn, hcon, hfr, hnm, hmo⟩, ⟨hpr, hp⟩, ⟨har, ha⟩, ⟨her, he⟩⟩ := hin
  have HTL := Lib.hid (show (TT.mk kd tn (.mk op lo hi lw hg ca cn cc cch) ext fr ⟨sa, sn, sc, sf⟩ ⟨ma, mn, mc, mf⟩ ⟨pa, pn, pc, pf⟩ ptf ⟨aa, an, ac, af⟩ atf ea en ec etf).txt.length ≤ 1000000000 ∧ (kd = 3 → (braT (fun i => (sf i).data.toList) sn ext (fun i => (mf i).data.toList) mn).length ≤ 1000000000) from ⟨htl, fun h => by
    subst h
    have h2 : ([69, 78, 85, 77, 69, 82, 65, 84, 69, 68, 32] ++ braT (fun i => (sf i).data.toList) sn ext (fun i => (mf i).data.toList) mn : List UInt8).length ≤ 1000000000 := htl
    rw [List.length_append] at h2
    omega⟩)
  obtain ⟨res, hres⟩ : ∃ res, bs (TT.mk kd tn (.mk op lo hi lw hg ca cn cc cch) ext fr ⟨sa, sn, sc, sf⟩ ⟨ma, mn, mc, mf⟩ ⟨pa, pn, pc, pf⟩ ptf ⟨aa, an, ac, af⟩ atf ea en ec etf).txt = res := ⟨_, rfl⟩
  rw [hres]
  have HRES := Lib.hid hres.symm
  obtain ⟨cs, hcs⟩ : ∃ cs, (TT.mk kd tn (.mk op lo hi lw hg ca cn cc cch) ext fr ⟨sa, sn, sc, sf⟩ ⟨ma, mn, mc, mf⟩ ⟨pa, pn, pc, pf⟩ ptf ⟨aa, an, ac, af⟩ atf ea en ec etf).cells = cs := ⟨_, rfl⟩
  have C0 := Lib.hid (show cs[0]? = some (.int .i64 kd) by rw [← hcs]; rfl)
  have C1 := Lib.hid (show cs[1]? = some (.string tn) by rw [← hcs]; rfl)
  have C2 := Lib.hid (show cs[2]? = some (.int .i64 op) by rw [← hcs]; rfl)
  have C8 := Lib.hid (show cs[8]? = some (.bool ext) by rw [← hcs]; rfl)
  have C9 := Lib.hid (show cs[9]? = some (.string fr) by rw [← hcs]; rfl)
  have C10 := Lib.hid (show cs[10]? = some (.slice sa sn sc) by rw [← hcs]; rfl)
  have C11 := Lib.hid (show cs[11]? = some (.slice ma mn mc) by rw [← hcs]; rfl)
  have C14 := Lib.hid (show cs[14]? = some (.slice ea en ec) by rw [← hcs]; rfl)
  rw [hcs]
  have HL := Lib.hid (show cs.length = 15 by rw [← hcs]; exact hl)
  have HX := Lib.hid (Bx.new w cs.toArray 39)
  have HB := Lib.hid ((Below.refl w.heap.size w).alloc (Nat.le_refl _) (.cells cs.toArray 39))
  have HRC := Lib.hid (show (w.alloc (.cells cs.toArray 39)).rangeAt w.heap.size 2 (CT.mk op lo hi lw hg ca cn cc cch).cells from range_con (c := .mk op lo hi lw hg ca cn cc cch) (HIN.out w (Below.refl _ _)) (by intro _ _ _ _ _ _ _ _ _ _ _ _ _ _ _ e; cases e; rfl) (by rw [hcs]; exact HX.out))
  have HCW := Lib.hid (Nat.le_trans hcl (by decide : 900000000 ≤ 1000000000))
  have HLN := Lib.hid (show (bndT (.mk op lo hi lw hg ca cn cc cch) ext szB szC).length ≤ 2000000000 by
    have h := bndT_len (.mk op lo hi lw hg ca cn cc cch) ext szB szC
    have h2 : szB.length = 8 := rfl
    have h3 : szC.length = 2 := rfl
    omega)
  have HCT := Lib.hid (fun (h0 : op ≠ 0) (W : World) (hb : Below w.heap.size w W) => rtext_ok (.mk op lo hi lw hg ca cn cc cch) B W (hcon.below (hb.mono hB) (Nat.le_refl _)) (Nat.le_trans hB hb.size) (CT.ok_wf _ 40 hok h0) HCW.out)
  have HSZ := Lib.hid (fun (W : World) (hb : Below w.heap.size w W) => show Calls Tryz.prog 41 #[.agg cs.toArray] W fun e w' => e = .returned (.string (bs (bndT (.mk op lo hi lw hg ca cn cc cch) ext szB szC))) ∧ Below W.heap.size W w' by
    have h := rsize_ok (TT.mk kd tn (.mk op lo hi lw hg ca cn cc cch) ext fr ⟨sa, sn, sc, sf⟩ ⟨ma, mn, mc, mf⟩ ⟨pa, pn, pc, pf⟩ ptf ⟨aa, an, ac, af⟩ atf ea en ec etf) (.mk op lo hi lw hg ca cn cc cch) ext W.heap.size W (HIN.out W hb) (Nat.le_refl _) (by intro _ _ _ _ _ _ _ _ _ _ _ _ _ _ _ e; cases e; rfl) rfl rfl hok HCW.out
    rw [hcs] at h
    exact h)
  have HNM := Lib.hid (fun (W : World) (hb : Below w.heap.size w W) => show SLIn W.heap.size W ⟨sa, sn, sc, sf⟩ from (hnm.below (hb.mono hB) (Nat.le_refl _)).below (Below.refl _ _) (Nat.le_trans hB hb.size))
  have HMO := Lib.hid (fun (W : World) (hb : Below w.heap.size w W) => show SLIn W.heap.size W ⟨ma, mn, mc, mf⟩ from (hmo.below (hb.mono hB) (Nat.le_refl _)).below (Below.refl _ _) (Nat.le_trans hB hb.size))
  have HM := Lib.hid hB
  have HEX := Lib.hid hex
  obtain ⟨W, hW⟩ : ∃ W, w.alloc (.cells cs.toArray 39) = W := ⟨_, rfl⟩
  rw [hW] at HX HB HRC
  clear hcon hnm hmo hpr hp har ha her he hB hfr htn hl hcs hres hok hex hcl htl HIN
  have hk := hkd
  · subst hk
    have d0 : W.cell? ⟨w.heap.size, 0, none⟩ = some (.int .i64 2) := HX.out.cell 0 (by rw [List.getElem?_toArray]; exact C0.out)
    have d2 : W.cell? ⟨w.heap.size, 2, none⟩ = some (.int .i64 op) := HX.out.cell 2 (by rw [List.getElem?_toArray]; exact C2.out)
    have d8 : W.cell? ⟨w.heap.size, 8, none⟩ = some (.bool ext) := HX.out.cell 8 (by rw [List.getElem?_toArray]; exact C8.out)
    have HR := Lib.hid (show res = bs ([73, 78, 84, 69, 71, 69, 82] ++ bndT (.mk op lo hi lw hg ca cn cc cch) ext [32, 40] [41]) from HRES.out)
    by_cases h0 : op = 0
    · subst h0
      obtain rfl : res = (⟨#[73, 78, 84, 69, 71, 69, 82]⟩ : ByteArray) := HR.out
      clear HSZ HNM HMO HRC HCT HM HEX HLN HTL HCW HR HRES
      go_enter Tryz.func25, Tryz.ntmps25
      go_wp2_with fail
      go_ret
      exact ⟨rfl, HB.out⟩
    have HC0 : ∀ (d : Nat) (os : Array Obj), Calls Tryz.prog 38 #[.agg ((CT.mk op lo hi lw hg ca cn cc cch)).cells.toArray] (Go.Sort.grow (redrawn W d) os) fun e w'' => e = .returned (.string (bs ((CT.mk op lo hi lw hg ca cn cc cch)).txt)) ∧ ∃ p : Regrown, w'' = Go.Sort.grow (redrawn W p.d) p.os := fun d os => Calls.regrown_of (HCT.out h0 _ (HB.out.trans ((below_regrown _ d os).mono HB.out.size)))
    have HM0 : ∀ (d : Nat) (os : Array Obj), Calls Tryz.prog 39 #[.bool ext] (Go.Sort.grow (redrawn W d) os) fun e w'' => e = .returned (.string (bs (moreT ext))) ∧ ∃ p : Regrown, w'' = Go.Sort.grow (redrawn W p.d) p.os := fun d os => Calls.regrown_of ((rmore_ok ext _).mono fun e w' ⟨h1, h2⟩ => ⟨h1, by rw [h2]; exact Below.refl _ _⟩)
    have HC := Lib.hid HC0
    have HMM := Lib.hid HM0
    have HRR := Lib.hid (range_regrown HRC.out)
    have p0 : (op == 0) = false := by simpa using h0
    have d8g := fun d os => cell_regrown d8 d os
    have HLC := Lib.hid (show ((CT.mk op lo hi lw hg ca cn cc cch)).cells.length = 6 from rfl)
    have HCC := Lib.hid HCW.out
    obtain ⟨c, hc⟩ : ∃ c : CT, (CT.mk op lo hi lw hg ca cn cc cch) = c := ⟨_, rfl⟩
    have HOPC := Lib.hid (show c.op ≠ 0 by rw [← hc]; exact h0)
    have HR1 := Lib.hid (show res = bs ([73, 78, 84, 69, 71, 69, 82] ++ bndT c ext [32, 40] [41]) by rw [← hc]; exact HR.out)
    rw [hc] at HC HRR HLC HCC
    obtain ⟨X, hX⟩ : ∃ X, bs c.txt = X := ⟨_, rfl⟩
    obtain ⟨M, hM⟩ : ∃ X, bs (moreT ext) = X := ⟨_, rfl⟩
    have zX : X.size ≤ 1000000000 := by rw [← hX, bs_size]; exact HCC.out
    have zM : M.size ≤ 5 := by rw [← hM, bs_size]; cases ext <;> decide
    obtain ⟨g1, e1⟩ : ∃ g, (⟨#[73, 78, 84, 69, 71, 69, 82, 32, 40]⟩ : ByteArray) ++ X = g := ⟨_, rfl⟩
    obtain ⟨g2, e2⟩ : ∃ g, g1 ++ M = g := ⟨_, rfl⟩
    obtain ⟨g3, e3⟩ : ∃ g, g2 ++ (⟨#[41]⟩ : ByteArray) = g := ⟨_, rfl⟩
    have z1 : g1.size = 9 + X.size := by rw [← e1, ByteArray.size_append]; rfl
    have z2 : g2.size = g1.size + M.size := by rw [← e2, ByteArray.size_append]
    have f1 : ¬ 9223372036854775807 < 9 + X.size := by omega
    have f2 : ¬ 9223372036854775807 < g1.size + M.size := by omega
    have f3 : ¬ 9223372036854775807 < g2.size + 1 := by omega
    obtain rfl : res = g3 := by
      rw [HR1.out]
      unfold bndT
      rw [if_neg HOPC.out, ← e3, ← e2, ← e1, ← hX, ← hM, show (⟨#[73, 78, 84, 69, 71, 69, 82, 32, 40]⟩ : ByteArray) = bs [73, 78, 84, 69, 71, 69, 82, 32, 40] from rfl, show (⟨#[41]⟩ : ByteArray) = bs [41] from rfl, bs_append, bs_append, bs_append]
      simp
    rw [hX] at HC
    rw [hM] at HMM
    clear HSZ HNM HMO HRC HCT HM HEX HLN HTL HCW HR HR1 HRES HC0 HM0 hX hM zX zM z1 z2 HCC hc h0 HOPC HX HL C0 C1 C2 C8 C9 C10 C11 d8
    go_enter Tryz.func25, Tryz.ntmps25
    go_wp2_with fail
    refine wp_region_quiet_below (by kernel_rfl) (by kernel_rfl) ?_
    go_big_quiet_step (fail)
    (go_big_quiet_want; refine quiet_load_mid 34 (.tmp 15) rfl w.heap.size 2 rfl c.cells _ HRR.out Tryz.underlying34 rfl (by rw [info_C, HLC.out]) ?_; simp only [put_mk, List.set_cons_succ, List.set_cons_zero]; go_big_quiet_on)
    go_big_quiet_step (exact HC.out _ _)
    go_big_quiet_step (fail)
    go_big_quiet_step (fail)
    go_big_quiet_step (fail)
    go_big_quiet_step (exact HMM.out _ _)
    go_big_quiet_step (fail)
    go_big_quiet_step (fail)
    go_big_quiet_step (fail)
    refine wpQuiet_nil ?_
    intro _ hw'
    obtain ⟨⟨dq, osq⟩, hw''⟩ := hw'
    subst hw''
    have hb2 := below_regrown W dq osq
    have HB4 := Lib.hid (HB.out.trans (hb2.mono HB.out.size))
    clear HC HMM HRR d8g
    generalize Go.Sort.grow (redrawn W dq) osq = W2 at *
    go_wp2_with fail
    go_ret
    exact ⟨rfl, HB4.out⟩
set_option maxHeartbeats 16000000 in
theorem rtypeText_D (kd op lo hi : Int) (tn fr : ByteArray) (lw hg ext : Bool) (ca sa ma pa aa ea : Option Addr) (cn cc sn sc mn mc pn pc an ac en ec : Nat) (cch : Nat → CT) (sf mf : Nat → ByteArray) (pf af : Nat → PD) (ptf atf etf : Nat → TT) (B : Nat) (w : World)
    (hin : TIn B w (TT.mk kd tn (.mk op lo hi lw hg ca cn cc cch) ext fr ⟨sa, sn, sc, sf⟩ ⟨ma, mn, mc, mf⟩ ⟨pa, pn, pc, pf⟩ ptf ⟨aa, an, ac, af⟩ atf ea en ec etf)) (hB : B ≤ w.heap.size) (hok : (CT.mk op lo hi lw hg ca cn cc cch).ok 40 = true) (hex : ext = true ∨ (ext = false → mn = 0))
    (hcl : (CT.mk op lo hi lw hg ca cn cc cch).txt.length ≤ 900000000) (htl : (TT.mk kd tn (.mk op lo hi lw hg ca cn cc cch) ext fr ⟨sa, sn, sc, sf⟩ ⟨ma, mn, mc, mf⟩ ⟨pa, pn, pc, pf⟩ ptf ⟨aa, an, ac, af⟩ atf ea en ec etf).txt.length ≤ 1000000000)
    (hkd : kd = 3) :
    Calls Tryz.prog 25 #[.agg (TT.mk kd tn (.mk op lo hi lw hg ca cn cc cch) ext fr ⟨sa, sn, sc, sf⟩ ⟨ma, mn, mc, mf⟩ ⟨pa, pn, pc, pf⟩ ptf ⟨aa, an, ac, af⟩ atf ea en ec etf).cells.toArray] w fun e w' => e = .returned (.string (bs (TT.mk kd tn (.mk op lo hi lw hg ca cn cc cch) ext fr ⟨sa, sn, sc, sf⟩ ⟨ma, mn, mc, mf⟩ ⟨pa, pn, pc, pf⟩ ptf ⟨aa, an, ac, af⟩ atf ea en ec etf).txt)) ∧ Below w.heap.size w w' := by
  have HIN := Lib.hid (fun (W : World) (hb : Below w.heap.size w W) => (hin.below (hb.mono hB) (Nat.le_refl _)).below (Below.refl _ _) (Nat.le_trans hB hb.size))
  have hl := (one_tcells hin).1
  obtain ⟨⟨_, htn, hcon, hfr, hnm, hmo⟩, ⟨hpr, hp⟩, ⟨har, ha⟩, ⟨her, he⟩⟩ := hin
  have HTL := Lib.hid (show (TT.mk kd tn (.mk op lo hi lw hg ca cn cc cch) ext fr ⟨sa, sn, sc, sf⟩ ⟨ma, mn, mc, mf⟩ ⟨pa, pn, pc, pf⟩ ptf ⟨aa, an, ac, af⟩ atf ea en ec etf).txt.length ≤ 1000000000 ∧ (kd = 3 → (braT (fun i => (sf i).data.toList) sn ext (fun i => (mf i).data.toList) mn).length ≤ 1000000000) from ⟨htl, fun h => by
    subst h
    have h2 : ([69, 78, 85, 77, 69, 82, 65, 84, 69, 68, 32] ++ braT (fun i => (sf i).data.toList) sn ext (fun i => (mf i).data.toList) mn : List UInt8).length ≤ 1000000000 := htl
    rw [List.length_append] at h2
    omega⟩)
  obtain ⟨res, hres⟩ : ∃ res, bs (TT.mk kd tn (.mk op lo hi lw hg ca cn cc cch) ext fr ⟨sa, sn, sc, sf⟩ ⟨ma, mn, mc, mf⟩ ⟨pa, pn, pc, pf⟩ ptf ⟨aa, an, ac, af⟩ atf ea en ec etf).txt = res := ⟨_, rfl⟩
  rw [hres]
  have HRES := Lib.hid hres.symm
  obtain ⟨cs, hcs⟩ : ∃ cs, (TT.mk kd tn (.mk op lo hi lw hg ca cn cc cch) ext fr ⟨sa, sn, sc, sf⟩ ⟨ma, mn, mc, mf⟩ ⟨pa, pn, pc, pf⟩ ptf ⟨aa, an, ac, af⟩ atf ea en ec etf).cells = cs := ⟨_, rfl⟩
  have C0 := Lib.hid (show cs[0]? = some (.int .i64 kd) by rw [← hcs]; rfl)
  have C1 := Lib.hid (show cs[1]? = some (.string tn) by rw [← hcs]; rfl)
  have C2 := Lib.hid (show cs[2]? = some (.int .i64 op) by rw [← hcs]; rfl)
  have C8 := Lib.hid (show cs[8]? = some (.bool ext) by rw [← hcs]; rfl)
  have C9 := Lib.hid (show cs[9]? = some (.string fr) by rw [← hcs]; rfl)
  have C10 := Lib.hid (show cs[10]? = some (.slice sa sn sc) by rw [← hcs]; rfl)
  have C11 := Lib.hid (show cs[11]? = some (.slice ma mn mc) by rw [← hcs]; rfl)
  have C14 := Lib.hid (show cs[14]? = some (.slice ea en ec) by rw [← hcs]; rfl)
  rw [hcs]
  have HL := Lib.hid (show cs.length = 15 by rw [← hcs]; exact hl)
  have HX := Lib.hid (Bx.new w cs.toArray 39)
  have HB := Lib.hid ((Below.refl w.heap.size w).alloc (Nat.le_refl _) (.cells cs.toArray 39))
  have HRC := Lib.hid (show (w.alloc (.cells cs.toArray 39)).rangeAt w.heap.size 2 (CT.mk op lo hi lw hg ca cn cc cch).cells from range_con (c := .mk op lo hi lw hg ca cn cc cch) (HIN.out w (Below.refl _ _)) (by intro _ _ _ _ _ _ _ _ _ _ _ _ _ _ _ e; cases e; rfl) (by rw [hcs]; exact HX.out))
  have HCW := Lib.hid (Nat.le_trans hcl (by decide : 900000000 ≤ 1000000000))
  have HLN := Lib.hid (show (bndT (.mk op lo hi lw hg ca cn cc cch) ext szB szC).length ≤ 2000000000 by
    have h := bndT_len (.mk op lo hi lw hg ca cn cc cch) ext szB szC
    have h2 : szB.length = 8 := rfl
    have h3 : szC.length = 2 := rfl
    omega)
  have HCT := Lib.hid (fun (h0 : op ≠ 0) (W : World) (hb : Below w.heap.size w W) => rtext_ok (.mk op lo hi lw hg ca cn cc cch) B W (hcon.below (hb.mono hB) (Nat.le_refl _)) (Nat.le_trans hB hb.size) (CT.ok_wf _ 40 hok h0) HCW.out)
  have HSZ := Lib.hid (fun (W : World) (hb : Below w.heap.size w W) => show Calls Tryz.prog 41 #[.agg cs.toArray] W fun e w' => e = .returned (.string (bs (bndT (.mk op lo hi lw hg ca cn cc cch) ext szB szC))) ∧ Below W.heap.size W w' by
    have h := rsize_ok (TT.mk kd tn (.mk op lo hi lw hg ca cn cc cch) ext fr ⟨sa, sn, sc, sf⟩ ⟨ma, mn, mc, mf⟩ ⟨pa, pn, pc, pf⟩ ptf ⟨aa, an, ac, af⟩ atf ea en ec etf) (.mk op lo hi lw hg ca cn cc cch) ext W.heap.size W (HIN.out W hb) (Nat.le_refl _) (by intro _ _ _ _ _ _ _ _ _ _ _ _ _ _ _ e; cases e; rfl) rfl rfl hok HCW.out
    rw [hcs] at h
    exact h)
  have HNM := Lib.hid (fun (W : World) (hb : Below w.heap.size w W) => show SLIn W.heap.size W ⟨sa, sn, sc, sf⟩ from (hnm.below (hb.mono hB) (Nat.le_refl _)).below (Below.refl _ _) (Nat.le_trans hB hb.size))
  have HMO := Lib.hid (fun (W : World) (hb : Below w.heap.size w W) => show SLIn W.heap.size W ⟨ma, mn, mc, mf⟩ from (hmo.below (hb.mono hB) (Nat.le_refl _)).below (Below.refl _ _) (Nat.le_trans hB hb.size))
  have HM := Lib.hid hB
  have HEX := Lib.hid hex
  obtain ⟨W, hW⟩ : ∃ W, w.alloc (.cells cs.toArray 39) = W := ⟨_, rfl⟩
  rw [hW] at HX HB HRC
  clear hcon hnm hmo hpr hp har ha her he hB hfr htn hl hcs hres hok hex hcl htl HIN
  have hk := hkd
  · subst hk
    have d0 : W.cell? ⟨w.heap.size, 0, none⟩ = some (.int .i64 3) := HX.out.cell 0 (by rw [List.getElem?_toArray]; exact C0.out)
    have d8 : W.cell? ⟨w.heap.size, 8, none⟩ = some (.bool ext) := HX.out.cell 8 (by rw [List.getElem?_toArray]; exact C8.out)
    have d10 : W.cell? ⟨w.heap.size, 10, none⟩ = some (.slice sa sn sc) := HX.out.cell 10 (by rw [List.getElem?_toArray]; exact C10.out)
    have d11 : W.cell? ⟨w.heap.size, 11, none⟩ = some (.slice ma mn mc) := HX.out.cell 11 (by rw [List.getElem?_toArray]; exact C11.out)
    have HR := Lib.hid (show res = bs ([69, 78, 85, 77, 69, 82, 65, 84, 69, 68, 32] ++ braT (fun i => (sf i).data.toList) sn ext (fun i => (mf i).data.toList) mn) from HRES.out)
    have HL0 := Lib.hid (HTL.out.2 rfl)
    have HS := Lib.hid (show Calls Tryz.prog 40 #[.slice sa sn sc, .bool ext, .slice ma mn mc] W fun e w' => e = .returned (.string (bs (braT (fun i => (sf i).data.toList) sn ext (fun i => (mf i).data.toList) mn))) ∧ Below W.heap.size W w' by
      have hs := HNM.out W HB.out
      have hs' := HMO.out W HB.out
      have hl := HL0.out
      cases ext with
      | true => exact rlist_ext W.heap.size W sa sn sc sf ma mn mc mf (Nat.le_refl _) hs.srow hs'.srow hl
      | false =>
        have h0 : mn = 0 := (HEX.out.resolve_left (by decide)) rfl
        subst h0
        exact rlist_no W.heap.size W sa sn sc sf ma 0 mc (fun i => (mf i).data.toList) (Nat.le_refl _) hs.srow hl)
    obtain ⟨X, hX⟩ : ∃ X, bs (braT (fun i => (sf i).data.toList) sn ext (fun i => (mf i).data.toList) mn) = X := ⟨_, rfl⟩
    have zX : X.size ≤ 1000000000 := by rw [← hX, bs_size]; exact HL0.out
    rw [hX] at HS
    have f1 : ¬ 9223372036854775807 < 11 + X.size := by omega
    obtain rfl : res = (⟨#[69, 78, 85, 77, 69, 82, 65, 84, 69, 68, 32]⟩ : ByteArray) ++ X := by rw [HR.out, ← hX, show (⟨#[69, 78, 85, 77, 69, 82, 65, 84, 69, 68, 32]⟩ : ByteArray) = bs [69, 78, 85, 77, 69, 82, 65, 84, 69, 68, 32] from rfl, bs_append]
    clear HSZ HNM HMO HRC HCT HM HEX HLN HTL HCW HL0 hX zX HR HRES
    go_enter Tryz.func25, Tryz.ntmps25
    go_wp2_with fail
    refine HS.out.mono ?_
    rintro e W' ⟨rfl, hb⟩
    have HBn := Lib.hid (HB.out.trans (hb.mono HB.out.size))
    clear d0 d8 d10 d11
    clear hb HB HX
    have HB := HBn
    clear HBn
    obtain ⟨W, rfl⟩ : ∃ W, W = W' := ⟨_, rfl⟩
    go_wp2_with fail
    go_ret
    exact ⟨rfl, HB.out⟩
end Go.Proofs.YtgmnojnalkhepaaGreatDoor

/-
  The document's typeText at the kinds 7 and 9: printed by gen_shz5.py.
-/
namespace Go.Proofs.YtgmnojnalkhepaaGreatDoor
open Go.RowKit Go.BigFrame
set_option linter.unusedVariables false
set_option linter.unusedSimpArgs false
set_option maxRecDepth 100000

set_option maxHeartbeats 16000000 in
theorem rtypeText_F (kd op lo hi : Int) (tn fr : ByteArray) (lw hg ext : Bool) (ca sa ma pa aa ea : Option Addr) (cn cc sn sc mn mc pn pc an ac en ec : Nat) (cch : Nat → CT) (sf mf : Nat → ByteArray) (pf af : Nat → PD) (ptf atf etf : Nat → TT) (B : Nat) (w : World)
    (hin : TIn B w (TT.mk kd tn (.mk op lo hi lw hg ca cn cc cch) ext fr ⟨sa, sn, sc, sf⟩ ⟨ma, mn, mc, mf⟩ ⟨pa, pn, pc, pf⟩ ptf ⟨aa, an, ac, af⟩ atf ea en ec etf)) (hB : B ≤ w.heap.size) (hok : (CT.mk op lo hi lw hg ca cn cc cch).ok 40 = true) (hex : ext = true ∨ (ext = false → mn = 0))
    (hcl : (CT.mk op lo hi lw hg ca cn cc cch).txt.length ≤ 900000000) (htl : (TT.mk kd tn (.mk op lo hi lw hg ca cn cc cch) ext fr ⟨sa, sn, sc, sf⟩ ⟨ma, mn, mc, mf⟩ ⟨pa, pn, pc, pf⟩ ptf ⟨aa, an, ac, af⟩ atf ea en ec etf).txt.length ≤ 1000000000)
    (hfz : fr.size ≤ 1000000000) (he1 : kd = 9 → en = 1) (hrec : kd = 9 → ∀ w' : World, Below w.heap.size w w' → Calls Tryz.prog 25 #[.agg (etf 0).cells.toArray] w' fun e w'' => e = .returned (.string (bs (etf 0).txt)) ∧ Below w'.heap.size w' w'')
    (hkd : kd = 7) :
    Calls Tryz.prog 25 #[.agg (TT.mk kd tn (.mk op lo hi lw hg ca cn cc cch) ext fr ⟨sa, sn, sc, sf⟩ ⟨ma, mn, mc, mf⟩ ⟨pa, pn, pc, pf⟩ ptf ⟨aa, an, ac, af⟩ atf ea en ec etf).cells.toArray] w fun e w' => e = .returned (.string (bs (TT.mk kd tn (.mk op lo hi lw hg ca cn cc cch) ext fr ⟨sa, sn, sc, sf⟩ ⟨ma, mn, mc, mf⟩ ⟨pa, pn, pc, pf⟩ ptf ⟨aa, an, ac, af⟩ atf ea en ec etf).txt)) ∧ Below w.heap.size w w' := by
  have HIN := Lib.hid (fun (W : World) (hb : Below w.heap.size w W) => (hin.below (hb.mono hB) (Nat.le_refl _)).below (Below.refl _ _) (Nat.le_trans hB hb.size))
  have hl := (one_tcells hin).1
  obtain ⟨⟨_, htn, hcon, hfr, hnm, hmo⟩, ⟨hpr, hp⟩, ⟨har, ha⟩, ⟨her, he⟩⟩ := hin
  have HTL := Lib.hid (show (TT.mk kd tn (.mk op lo hi lw hg ca cn cc cch) ext fr ⟨sa, sn, sc, sf⟩ ⟨ma, mn, mc, mf⟩ ⟨pa, pn, pc, pf⟩ ptf ⟨aa, an, ac, af⟩ atf ea en ec etf).txt.length ≤ 1000000000 ∧ (kd = 3 → (braT (fun i => (sf i).data.toList) sn ext (fun i => (mf i).data.toList) mn).length ≤ 1000000000) from ⟨htl, fun h => by
    subst h
    have h2 : ([69, 78, 85, 77, 69, 82, 65, 84, 69, 68, 32] ++ braT (fun i => (sf i).data.toList) sn ext (fun i => (mf i).data.toList) mn : List UInt8).length ≤ 1000000000 := htl
    rw [List.length_append] at h2
    omega⟩)
  obtain ⟨res, hres⟩ : ∃ res, bs (TT.mk kd tn (.mk op lo hi lw hg ca cn cc cch) ext fr ⟨sa, sn, sc, sf⟩ ⟨ma, mn, mc, mf⟩ ⟨pa, pn, pc, pf⟩ ptf ⟨aa, an, ac, af⟩ atf ea en ec etf).txt = res := ⟨_, rfl⟩
  rw [hres]
  have HRES := Lib.hid hres.symm
  obtain ⟨cs, hcs⟩ : ∃ cs, (TT.mk kd tn (.mk op lo hi lw hg ca cn cc cch) ext fr ⟨sa, sn, sc, sf⟩ ⟨ma, mn, mc, mf⟩ ⟨pa, pn, pc, pf⟩ ptf ⟨aa, an, ac, af⟩ atf ea en ec etf).cells = cs := ⟨_, rfl⟩
  have C0 := Lib.hid (show cs[0]? = some (.int .i64 kd) by rw [← hcs]; rfl)
  have C1 := Lib.hid (show cs[1]? = some (.string tn) by rw [← hcs]; rfl)
  have C2 := Lib.hid (show cs[2]? = some (.int .i64 op) by rw [← hcs]; rfl)
  have C8 := Lib.hid (show cs[8]? = some (.bool ext) by rw [← hcs]; rfl)
  have C9 := Lib.hid (show cs[9]? = some (.string fr) by rw [← hcs]; rfl)
  have C10 := Lib.hid (show cs[10]? = some (.slice sa sn sc) by rw [← hcs]; rfl)
  have C11 := Lib.hid (show cs[11]? = some (.slice ma mn mc) by rw [← hcs]; rfl)
  have C14 := Lib.hid (show cs[14]? = some (.slice ea en ec) by rw [← hcs]; rfl)
  rw [hcs]
  have HL := Lib.hid (show cs.length = 15 by rw [← hcs]; exact hl)
  have HX := Lib.hid (Bx.new w cs.toArray 39)
  have HB := Lib.hid ((Below.refl w.heap.size w).alloc (Nat.le_refl _) (.cells cs.toArray 39))
  have HRC := Lib.hid (show (w.alloc (.cells cs.toArray 39)).rangeAt w.heap.size 2 (CT.mk op lo hi lw hg ca cn cc cch).cells from range_con (c := .mk op lo hi lw hg ca cn cc cch) (HIN.out w (Below.refl _ _)) (by intro _ _ _ _ _ _ _ _ _ _ _ _ _ _ _ e; cases e; rfl) (by rw [hcs]; exact HX.out))
  have HCW := Lib.hid (Nat.le_trans hcl (by decide : 900000000 ≤ 1000000000))
  have HLN := Lib.hid (show (bndT (.mk op lo hi lw hg ca cn cc cch) ext szB szC).length ≤ 2000000000 by
    have h := bndT_len (.mk op lo hi lw hg ca cn cc cch) ext szB szC
    have h2 : szB.length = 8 := rfl
    have h3 : szC.length = 2 := rfl
    omega)
  have HCT := Lib.hid (fun (h0 : op ≠ 0) (W : World) (hb : Below w.heap.size w W) => rtext_ok (.mk op lo hi lw hg ca cn cc cch) B W (hcon.below (hb.mono hB) (Nat.le_refl _)) (Nat.le_trans hB hb.size) (CT.ok_wf _ 40 hok h0) HCW.out)
  have HSZ := Lib.hid (fun (W : World) (hb : Below w.heap.size w W) => show Calls Tryz.prog 41 #[.agg cs.toArray] W fun e w' => e = .returned (.string (bs (bndT (.mk op lo hi lw hg ca cn cc cch) ext szB szC))) ∧ Below W.heap.size W w' by
    have h := rsize_ok (TT.mk kd tn (.mk op lo hi lw hg ca cn cc cch) ext fr ⟨sa, sn, sc, sf⟩ ⟨ma, mn, mc, mf⟩ ⟨pa, pn, pc, pf⟩ ptf ⟨aa, an, ac, af⟩ atf ea en ec etf) (.mk op lo hi lw hg ca cn cc cch) ext W.heap.size W (HIN.out W hb) (Nat.le_refl _) (by intro _ _ _ _ _ _ _ _ _ _ _ _ _ _ _ e; cases e; rfl) rfl rfl hok HCW.out
    rw [hcs] at h
    exact h)
  have HNM := Lib.hid (fun (W : World) (hb : Below w.heap.size w W) => show SLIn W.heap.size W ⟨sa, sn, sc, sf⟩ from (hnm.below (hb.mono hB) (Nat.le_refl _)).below (Below.refl _ _) (Nat.le_trans hB hb.size))
  have HMO := Lib.hid (fun (W : World) (hb : Below w.heap.size w W) => show SLIn W.heap.size W ⟨ma, mn, mc, mf⟩ from (hmo.below (hb.mono hB) (Nat.le_refl _)).below (Below.refl _ _) (Nat.le_trans hB hb.size))
  have HM := Lib.hid hB
  have HFZ := Lib.hid hfz
  have HE1 := Lib.hid he1
  have HER := Lib.hid her
  have HEC := Lib.hid (And.intro he hrec)
  clear hfz he1 hrec
  have HEX := Lib.hid hex
  obtain ⟨W, hW⟩ : ∃ W, w.alloc (.cells cs.toArray 39) = W := ⟨_, rfl⟩
  rw [hW] at HX HB HRC
  clear hcon hnm hmo hpr hp har ha her he hB hfr htn hl hcs hres hok hex hcl htl HIN
  have hk := hkd
  · subst hk
    have d0 : W.cell? ⟨w.heap.size, 0, none⟩ = some (.int .i64 7) := HX.out.cell 0 (by rw [List.getElem?_toArray]; exact C0.out)
    have d9 : W.cell? ⟨w.heap.size, 9, none⟩ = some (.string fr) := HX.out.cell 9 (by rw [List.getElem?_toArray]; exact C9.out)
    have HR := Lib.hid (show res = bs ([73, 65, 53, 83, 116, 114, 105, 110, 103] ++ ((if fr.size = 0 then [] else [32, 40, 70, 82, 79, 77, 32, 40] ++ (quoT fr ++ [41, 41])) ++ bndT (.mk op lo hi lw hg ca cn cc cch) ext szB szC)) from HRES.out)
    obtain ⟨X, hX⟩ : ∃ X, bs (bndT (.mk op lo hi lw hg ca cn cc cch) ext szB szC) = X := ⟨_, rfl⟩
    have zX : X.size ≤ 2000000000 := by rw [← hX, bs_size]; exact HLN.out
    by_cases hz : fr.size = 0
    · have p3 : fr.toList.isEmpty = true := by rw [← Bool.not_not fr.toList.isEmpty, empty_size]; simp [hz]
      have HS := Lib.hid (HSZ.out W HB.out)
      rw [hX] at HS
      have f1 : ¬ 9223372036854775807 < 9 + X.size := by omega
      obtain rfl : res = (⟨#[73, 65, 53, 83, 116, 114, 105, 110, 103]⟩ : ByteArray) ++ X := by rw [HR.out, if_pos hz, ← hX, show (⟨#[73, 65, 53, 83, 116, 114, 105, 110, 103]⟩ : ByteArray) = bs [73, 65, 53, 83, 116, 114, 105, 110, 103] from rfl, bs_append]; rfl
      clear HSZ HNM HMO HRC HCT HM HEX HLN HTL HCW hX zX HR HRES HFZ HE1 HER HEC
      go_enter Tryz.func25, Tryz.ntmps25
      go_wp2_with (first | (refine wpList_load_mid rfl 39 (.tmp 1) rfl w.heap.size 0 rfl cs _ HX.out.range Tryz.underlying39 rfl (by rw [info_T, HL.out]) ?_) | fail)
      refine HS.out.mono ?_
      rintro e W' ⟨rfl, hb⟩
      have HBn := Lib.hid (HB.out.trans (hb.mono HB.out.size))
      clear d0 d9
      clear hb HB HX
      have HB := HBn
      clear HBn
      obtain ⟨W, rfl⟩ : ∃ W, W = W' := ⟨_, rfl⟩
      go_wp2_with fail
      go_ret
      exact ⟨rfl, HB.out⟩
    have p3 : fr.toList.isEmpty = false := by rw [← Bool.not_not fr.toList.isEmpty, empty_size]; simp [hz]
    have HC0 : ∀ (d : Nat) (os : Array Obj), Calls Tryz.prog 41 #[.agg cs.toArray] (Go.Sort.grow (redrawn W d) os) fun e w'' => e = .returned (.string (bs (bndT (.mk op lo hi lw hg ca cn cc cch) ext szB szC))) ∧ ∃ p : Regrown, w'' = Go.Sort.grow (redrawn W p.d) p.os := fun d os => Calls.regrown_of (HSZ.out _ (HB.out.trans ((below_regrown _ d os).mono HB.out.size)))
    have HM0 : ∀ (d : Nat) (os : Array Obj), Calls Tryz.prog 42 #[.string fr] (Go.Sort.grow (redrawn W d) os) fun e w'' => e = .returned (.string (bs (quoT fr))) ∧ ∃ p : Regrown, w'' = Go.Sort.grow (redrawn W p.d) p.os := fun d os => Calls.regrown_of (rquoted_ok fr _ HFZ.out)
    have HC := Lib.hid HC0
    have HMM := Lib.hid HM0
    have HRR := Lib.hid (range_regrown HX.out.range)
    have d9g := fun d os => cell_regrown d9 d os
    rw [hX] at HC
    obtain ⟨M, hM⟩ : ∃ X, bs (quoT fr) = X := ⟨_, rfl⟩
    have zM : M.size ≤ 2000000002 := by rw [← hM, bs_size]; have := quoT_len fr; have := HFZ.out; omega
    rw [hM] at HMM
    obtain ⟨g1, e1⟩ : ∃ g, (⟨#[73, 65, 53, 83, 116, 114, 105, 110, 103, 32, 40, 70, 82, 79, 77, 32, 40]⟩ : ByteArray) ++ M = g := ⟨_, rfl⟩
    obtain ⟨g2, e2⟩ : ∃ g, g1 ++ (⟨#[41, 41]⟩ : ByteArray) = g := ⟨_, rfl⟩
    obtain ⟨g3, e3⟩ : ∃ g, g2 ++ X = g := ⟨_, rfl⟩
    have z1 : g1.size = 17 + M.size := by rw [← e1, ByteArray.size_append]; rfl
    have z2 : g2.size = g1.size + 2 := by rw [← e2, ByteArray.size_append]; rfl
    have f1 : ¬ 9223372036854775807 < 17 + M.size := by omega
    have f2 : ¬ 9223372036854775807 < g1.size + 2 := by omega
    have f3 : ¬ 9223372036854775807 < g2.size + X.size := by omega
    obtain rfl : res = g3 := by
      rw [HR.out, if_neg hz, ← e3, ← e2, ← e1, ← hX, ← hM, show (⟨#[73, 65, 53, 83, 116, 114, 105, 110, 103, 32, 40, 70, 82, 79, 77, 32, 40]⟩ : ByteArray) = bs [73, 65, 53, 83, 116, 114, 105, 110, 103, 32, 40, 70, 82, 79, 77, 32, 40] from rfl, show (⟨#[41, 41]⟩ : ByteArray) = bs [41, 41] from rfl, bs_append, bs_append, bs_append]
      simp
    clear HSZ HNM HMO HRC HCT HM HEX HLN HTL HCW HR HRES HC0 HM0 hX hM zX zM z1 z2 hz HX C0 C1 C2 C8 C9 C10 C11 C14 HFZ HE1 HER HEC
    go_enter Tryz.func25, Tryz.ntmps25
    go_wp2_with fail
    refine wp_region_quiet_below (by kernel_rfl) (by kernel_rfl) ?_
    go_big_quiet_step (fail)
    go_big_quiet_step (fail)
    go_big_quiet_step (exact HMM.out _ _)
    go_big_quiet_step (fail)
    go_big_quiet_step (fail)
    (go_big_quiet_want; refine quiet_load_mid 39 (.tmp 1) rfl w.heap.size 0 rfl cs _ HRR.out Tryz.underlying39 rfl (by rw [info_T, HL.out]) ?_; simp only [put_mk, List.set_cons_succ, List.set_cons_zero]; go_big_quiet_on)
    go_big_quiet_step (exact HC.out _ _)
    go_big_quiet_step (fail)
    go_big_quiet_step (fail)
    refine wpQuiet_nil ?_
    intro _ hw'
    obtain ⟨⟨dq, osq⟩, hw''⟩ := hw'
    subst hw''
    have hb2 := below_regrown W dq osq
    have HB4 := Lib.hid (HB.out.trans (hb2.mono HB.out.size))
    clear HC HMM HRR d9g
    generalize Go.Sort.grow (redrawn W dq) osq = W2 at *
    go_wp2_with fail
    go_ret
    exact ⟨rfl, HB4.out⟩
set_option maxHeartbeats 16000000 in
theorem rtypeText_E (kd op lo hi : Int) (tn fr : ByteArray) (lw hg ext : Bool) (ca sa ma pa aa ea : Option Addr) (cn cc sn sc mn mc pn pc an ac en ec : Nat) (cch : Nat → CT) (sf mf : Nat → ByteArray) (pf af : Nat → PD) (ptf atf etf : Nat → TT) (B : Nat) (w : World)
    (hin : TIn B w (TT.mk kd tn (.mk op lo hi lw hg ca cn cc cch) ext fr ⟨sa, sn, sc, sf⟩ ⟨ma, mn, mc, mf⟩ ⟨pa, pn, pc, pf⟩ ptf ⟨aa, an, ac, af⟩ atf ea en ec etf)) (hB : B ≤ w.heap.size) (hok : (CT.mk op lo hi lw hg ca cn cc cch).ok 40 = true) (hex : ext = true ∨ (ext = false → mn = 0))
    (hcl : (CT.mk op lo hi lw hg ca cn cc cch).txt.length ≤ 900000000) (htl : (TT.mk kd tn (.mk op lo hi lw hg ca cn cc cch) ext fr ⟨sa, sn, sc, sf⟩ ⟨ma, mn, mc, mf⟩ ⟨pa, pn, pc, pf⟩ ptf ⟨aa, an, ac, af⟩ atf ea en ec etf).txt.length ≤ 1000000000)
    (hfz : fr.size ≤ 1000000000) (he1 : kd = 9 → en = 1) (hrec : kd = 9 → ∀ w' : World, Below w.heap.size w w' → Calls Tryz.prog 25 #[.agg (etf 0).cells.toArray] w' fun e w'' => e = .returned (.string (bs (etf 0).txt)) ∧ Below w'.heap.size w' w'')
    (hkd : kd = 9) :
    Calls Tryz.prog 25 #[.agg (TT.mk kd tn (.mk op lo hi lw hg ca cn cc cch) ext fr ⟨sa, sn, sc, sf⟩ ⟨ma, mn, mc, mf⟩ ⟨pa, pn, pc, pf⟩ ptf ⟨aa, an, ac, af⟩ atf ea en ec etf).cells.toArray] w fun e w' => e = .returned (.string (bs (TT.mk kd tn (.mk op lo hi lw hg ca cn cc cch) ext fr ⟨sa, sn, sc, sf⟩ ⟨ma, mn, mc, mf⟩ ⟨pa, pn, pc, pf⟩ ptf ⟨aa, an, ac, af⟩ atf ea en ec etf).txt)) ∧ Below w.heap.size w w' := by
  have HIN := Lib.hid (fun (W : World) (hb : Below w.heap.size w W) => (hin.below (hb.mono hB) (Nat.le_refl _)).below (Below.refl _ _) (Nat.le_trans hB hb.size))
  have hl := (one_tcells hin).1
  obtain ⟨⟨_, htn, hcon, hfr, hnm, hmo⟩, ⟨hpr, hp⟩, ⟨har, ha⟩, ⟨her, he⟩⟩ := hin
  have HTL := Lib.hid (show (TT.mk kd tn (.mk op lo hi lw hg ca cn cc cch) ext fr ⟨sa, sn, sc, sf⟩ ⟨ma, mn, mc, mf⟩ ⟨pa, pn, pc, pf⟩ ptf ⟨aa, an, ac, af⟩ atf ea en ec etf).txt.length ≤ 1000000000 ∧ (kd = 3 → (braT (fun i => (sf i).data.toList) sn ext (fun i => (mf i).data.toList) mn).length ≤ 1000000000) from ⟨htl, fun h => by
    subst h
    have h2 : ([69, 78, 85, 77, 69, 82, 65, 84, 69, 68, 32] ++ braT (fun i => (sf i).data.toList) sn ext (fun i => (mf i).data.toList) mn : List UInt8).length ≤ 1000000000 := htl
    rw [List.length_append] at h2
    omega⟩)
  obtain ⟨res, hres⟩ : ∃ res, bs (TT.mk kd tn (.mk op lo hi lw hg ca cn cc cch) ext fr ⟨sa, sn, sc, sf⟩ ⟨ma, mn, mc, mf⟩ ⟨pa, pn, pc, pf⟩ ptf ⟨aa, an, ac, af⟩ atf ea en ec etf).txt = res := ⟨_, rfl⟩
  rw [hres]
  have HRES := Lib.hid hres.symm
  obtain ⟨cs, hcs⟩ : ∃ cs, (TT.mk kd tn (.mk op lo hi lw hg ca cn cc cch) ext fr ⟨sa, sn, sc, sf⟩ ⟨ma, mn, mc, mf⟩ ⟨pa, pn, pc, pf⟩ ptf ⟨aa, an, ac, af⟩ atf ea en ec etf).cells = cs := ⟨_, rfl⟩
  have C0 := Lib.hid (show cs[0]? = some (.int .i64 kd) by rw [← hcs]; rfl)
  have C1 := Lib.hid (show cs[1]? = some (.string tn) by rw [← hcs]; rfl)
  have C2 := Lib.hid (show cs[2]? = some (.int .i64 op) by rw [← hcs]; rfl)
  have C8 := Lib.hid (show cs[8]? = some (.bool ext) by rw [← hcs]; rfl)
  have C9 := Lib.hid (show cs[9]? = some (.string fr) by rw [← hcs]; rfl)
  have C10 := Lib.hid (show cs[10]? = some (.slice sa sn sc) by rw [← hcs]; rfl)
  have C11 := Lib.hid (show cs[11]? = some (.slice ma mn mc) by rw [← hcs]; rfl)
  have C14 := Lib.hid (show cs[14]? = some (.slice ea en ec) by rw [← hcs]; rfl)
  rw [hcs]
  have HL := Lib.hid (show cs.length = 15 by rw [← hcs]; exact hl)
  have HX := Lib.hid (Bx.new w cs.toArray 39)
  have HB := Lib.hid ((Below.refl w.heap.size w).alloc (Nat.le_refl _) (.cells cs.toArray 39))
  have HRC := Lib.hid (show (w.alloc (.cells cs.toArray 39)).rangeAt w.heap.size 2 (CT.mk op lo hi lw hg ca cn cc cch).cells from range_con (c := .mk op lo hi lw hg ca cn cc cch) (HIN.out w (Below.refl _ _)) (by intro _ _ _ _ _ _ _ _ _ _ _ _ _ _ _ e; cases e; rfl) (by rw [hcs]; exact HX.out))
  have HCW := Lib.hid (Nat.le_trans hcl (by decide : 900000000 ≤ 1000000000))
  have HLN := Lib.hid (show (bndT (.mk op lo hi lw hg ca cn cc cch) ext szB szC).length ≤ 2000000000 by
    have h := bndT_len (.mk op lo hi lw hg ca cn cc cch) ext szB szC
    have h2 : szB.length = 8 := rfl
    have h3 : szC.length = 2 := rfl
    omega)
  have HCT := Lib.hid (fun (h0 : op ≠ 0) (W : World) (hb : Below w.heap.size w W) => rtext_ok (.mk op lo hi lw hg ca cn cc cch) B W (hcon.below (hb.mono hB) (Nat.le_refl _)) (Nat.le_trans hB hb.size) (CT.ok_wf _ 40 hok h0) HCW.out)
  have HSZ := Lib.hid (fun (W : World) (hb : Below w.heap.size w W) => show Calls Tryz.prog 41 #[.agg cs.toArray] W fun e w' => e = .returned (.string (bs (bndT (.mk op lo hi lw hg ca cn cc cch) ext szB szC))) ∧ Below W.heap.size W w' by
    have h := rsize_ok (TT.mk kd tn (.mk op lo hi lw hg ca cn cc cch) ext fr ⟨sa, sn, sc, sf⟩ ⟨ma, mn, mc, mf⟩ ⟨pa, pn, pc, pf⟩ ptf ⟨aa, an, ac, af⟩ atf ea en ec etf) (.mk op lo hi lw hg ca cn cc cch) ext W.heap.size W (HIN.out W hb) (Nat.le_refl _) (by intro _ _ _ _ _ _ _ _ _ _ _ _ _ _ _ e; cases e; rfl) rfl rfl hok HCW.out
    rw [hcs] at h
    exact h)
  have HNM := Lib.hid (fun (W : World) (hb : Below w.heap.size w W) => show SLIn W.heap.size W ⟨sa, sn, sc, sf⟩ from (hnm.below (hb.mono hB) (Nat.le_refl _)).below (Below.refl _ _) (Nat.le_trans hB hb.size))
  have HMO := Lib.hid (fun (W : World) (hb : Below w.heap.size w W) => show SLIn W.heap.size W ⟨ma, mn, mc, mf⟩ from (hmo.below (hb.mono hB) (Nat.le_refl _)).below (Below.refl _ _) (Nat.le_trans hB hb.size))
  have HM := Lib.hid hB
  have HFZ := Lib.hid hfz
  have HE1 := Lib.hid he1
  have HER := Lib.hid her
  have HEC := Lib.hid (And.intro he hrec)
  clear hfz he1 hrec
  have HEX := Lib.hid hex
  obtain ⟨W, hW⟩ : ∃ W, w.alloc (.cells cs.toArray 39) = W := ⟨_, rfl⟩
  rw [hW] at HX HB HRC
  clear hcon hnm hmo hpr hp har ha her he hB hfr htn hl hcs hres hok hex hcl htl HIN
  have hk := hkd
  · subst hk
    have d0 : W.cell? ⟨w.heap.size, 0, none⟩ = some (.int .i64 9) := HX.out.cell 0 (by rw [List.getElem?_toArray]; exact C0.out)
    obtain rfl := HE1.out rfl
    obtain ⟨gy, oy, rfl, hgy, hry⟩ := HER.out.2.2.2 (by omega)
    have HRV : Hid (W.rangeAt gy oy (etf 0).cells) := Lib.hid (fun j u hj => by
      have h := hry 0 (by omega) j u hj
      rw [Nat.zero_mul, Nat.add_zero] at h
      exact (World.cell?_of_block (w := w) (a := ⟨gy, oy + j, none⟩) (HB.out.block gy (Nat.lt_of_lt_of_le hgy HM.out))).trans h)
    have HLE := Lib.hid (one_tcells (HEC.out.1 0 (by omega))).1
    have d14 : W.cell? ⟨w.heap.size, 14, none⟩ = some (.slice (some ⟨gy, oy, none⟩) 1 ec) := HX.out.cell 14 (by rw [List.getElem?_toArray]; exact C14.out)
    have HR := Lib.hid (show res = bs ([83, 69, 81, 85, 69, 78, 67, 69] ++ (bndT (.mk op lo hi lw hg ca cn cc cch) ext szB szC ++ ([32, 79, 70, 32] ++ (etf 0).txt))) from HRES.out)
    obtain ⟨X, hX⟩ : ∃ X, bs (bndT (.mk op lo hi lw hg ca cn cc cch) ext szB szC) = X := ⟨_, rfl⟩
    have zX : X.size ≤ 2000000000 := by rw [← hX, bs_size]; exact HLN.out
    have HC0 : ∀ (d : Nat) (os : Array Obj), Calls Tryz.prog 41 #[.agg cs.toArray] (Go.Sort.grow (redrawn W d) os) fun e w'' => e = .returned (.string (bs (bndT (.mk op lo hi lw hg ca cn cc cch) ext szB szC))) ∧ ∃ p : Regrown, w'' = Go.Sort.grow (redrawn W p.d) p.os := fun d os => Calls.regrown_of (HSZ.out _ (HB.out.trans ((below_regrown _ d os).mono HB.out.size)))
    have HM0 : ∀ (d : Nat) (os : Array Obj), Calls Tryz.prog 25 #[.agg (etf 0).cells.toArray] (Go.Sort.grow (redrawn W d) os) fun e w'' => e = .returned (.string (bs (etf 0).txt)) ∧ ∃ p : Regrown, w'' = Go.Sort.grow (redrawn W p.d) p.os := fun d os => Calls.regrown_of (HEC.out.2 rfl _ (HB.out.trans ((below_regrown _ d os).mono HB.out.size)))
    have HC := Lib.hid HC0
    have HMM := Lib.hid HM0
    have HRR := Lib.hid (range_regrown HX.out.range)
    have HRE := Lib.hid (range_regrown HRV.out)
    have d14g := fun d os => cell_regrown d14 d os
    rw [hX] at HC
    obtain ⟨M, hM⟩ : ∃ X, bs (etf 0).txt = X := ⟨_, rfl⟩
    have zM : M.size ≤ 1000000000 := by
      rw [← hM, bs_size]
      have h2 : ([83, 69, 81, 85, 69, 78, 67, 69] ++ (bndT (.mk op lo hi lw hg ca cn cc cch) ext szB szC ++ ([32, 79, 70, 32] ++ (etf 0).txt)) : List UInt8).length ≤ 1000000000 := HTL.out.1
      simp only [List.length_append] at h2
      omega
    rw [hM] at HMM
    obtain ⟨ce, hce⟩ : ∃ c, (etf 0).cells = c := ⟨_, rfl⟩
    rw [hce] at HMM HRE HLE
    obtain ⟨g1, e1⟩ : ∃ g, (⟨#[83, 69, 81, 85, 69, 78, 67, 69]⟩ : ByteArray) ++ X = g := ⟨_, rfl⟩
    obtain ⟨g2, e2⟩ : ∃ g, g1 ++ (⟨#[32, 79, 70, 32]⟩ : ByteArray) = g := ⟨_, rfl⟩
    obtain ⟨g3, e3⟩ : ∃ g, g2 ++ M = g := ⟨_, rfl⟩
    have z1 : g1.size = 8 + X.size := by rw [← e1, ByteArray.size_append]; rfl
    have z2 : g2.size = g1.size + 4 := by rw [← e2, ByteArray.size_append]; rfl
    have f1 : ¬ 9223372036854775807 < 8 + X.size := by omega
    have f2 : ¬ 9223372036854775807 < g1.size + 4 := by omega
    have f3 : ¬ 9223372036854775807 < g2.size + M.size := by omega
    obtain rfl : res = g3 := by
      rw [HR.out, ← e3, ← e2, ← e1, ← hX, ← hM, show (⟨#[83, 69, 81, 85, 69, 78, 67, 69]⟩ : ByteArray) = bs [83, 69, 81, 85, 69, 78, 67, 69] from rfl, show (⟨#[32, 79, 70, 32]⟩ : ByteArray) = bs [32, 79, 70, 32] from rfl, bs_append, bs_append, bs_append]
      simp
    clear HSZ HNM HMO HRC HCT HM HEX HLN HTL HCW HR HRES HC0 HM0 hX hM zX zM z1 z2 HX C0 C1 C2 C8 C9 C10 C11 C14 HFZ HE1 HER HEC HRV hce hry
    go_enter Tryz.func25, Tryz.ntmps25
    go_wp2_with fail
    refine wp_region_quiet_below (by kernel_rfl) (by kernel_rfl) ?_
    (go_big_quiet_want; refine quiet_load_mid 39 (.tmp 1) rfl w.heap.size 0 rfl cs _ HRR.out Tryz.underlying39 rfl (by rw [info_T, HL.out]) ?_; simp only [put_mk, List.set_cons_succ, List.set_cons_zero]; go_big_quiet_on)
    go_big_quiet_step (exact HC.out _ _)
    go_big_quiet_step (fail)
    go_big_quiet_step (fail)
    go_big_quiet_step (fail)
    go_big_quiet_step (fail)
    go_big_quiet_step (fail)
    (go_big_quiet_want; refine quiet_load_mid 39 (.tmp 92) rfl gy oy rfl ce _ HRE.out Tryz.underlying39 rfl (by rw [info_T, HLE.out]) ?_; simp only [put_mk, List.set_cons_succ, List.set_cons_zero]; go_big_quiet_on)
    go_big_quiet_step (exact HMM.out _ _)
    go_big_quiet_step (fail)
    go_big_quiet_step (fail)
    refine wpQuiet_nil ?_
    intro _ hw'
    obtain ⟨⟨dq, osq⟩, hw''⟩ := hw'
    subst hw''
    have hb2 := below_regrown W dq osq
    have HB4 := Lib.hid (HB.out.trans (hb2.mono HB.out.size))
    clear HC HMM HRR d14g
    generalize Go.Sort.grow (redrawn W dq) osq = W2 at *
    go_wp2_with fail
    go_ret
    exact ⟨rfl, HB4.out⟩
end Go.Proofs.YtgmnojnalkhepaaGreatDoor
