/-
  A bundle of texts, one behind the other: ShY8A, ShY8B, ShY8C, ShY8D, ShY8E, ShY8F, ShY8G, ShY8H, ShY8O, ShY9.
-/
import Derived.Test.YtgmnojnalkhepaaGreatDoorJY
import Derived.Test.YtgmnojnalkhepaaGreatDoorJX
/-
  The document's whether a type is shaped: 'shaped', by kinds.
-/
namespace Go.Proofs.YtgmnojnalkhepaaGreatDoor
open Go.RowKit
set_option linter.unusedVariables false
set_option linter.unusedSimpArgs false
set_option maxRecDepth 100000

set_option maxHeartbeats 16000000 in
theorem rshaped_A (kd op lo hi : Int) (tn fr : ByteArray) (lw hg ext : Bool) (ca sa ma pa aa ea : Option Addr) (cn cc sn sc mn mc pn pc an ac en ec : Nat) (cch : Nat → CT) (sf mf : Nat → ByteArray) (pf af : Nat → PD) (ptf atf etf : Nat → TT) (B d : Nat) (w : World)
    (hin : TIn B w (TT.mk kd tn (.mk op lo hi lw hg ca cn cc cch) ext fr ⟨sa, sn, sc, sf⟩ ⟨ma, mn, mc, mf⟩ ⟨pa, pn, pc, pf⟩ ptf ⟨aa, an, ac, af⟩ atf ea en ec etf)) (hB : B ≤ w.heap.size) (hd : d ≤ 40)
    (RP : ∀ i, i < pn → ∀ w' : World, Below w.heap.size w w' → Calls Tryz.prog 35 #[.agg (ptf i).cells.toArray, .int .i64 (d + 1 : Nat)] w' fun e w'' => e = .returned (.bool (shV (d + 1) (ptf i))) ∧ Below w'.heap.size w' w'')
    (RA : ∀ i, i < an → ∀ w' : World, Below w.heap.size w w' → Calls Tryz.prog 35 #[.agg (atf i).cells.toArray, .int .i64 (d + 1 : Nat)] w' fun e w'' => e = .returned (.bool (shV (d + 1) (atf i))) ∧ Below w'.heap.size w' w'')
    (RE : ∀ i, i < en → ∀ w' : World, Below w.heap.size w w' → Calls Tryz.prog 35 #[.agg (etf i).cells.toArray, .int .i64 (d + 1 : Nat)] w' fun e w'' => e = .returned (.bool (shV (d + 1) (etf i))) ∧ Below w'.heap.size w' w'')
    (hkd : kd = 1 ∨ kd = 4) :
    Calls Tryz.prog 35 #[.agg (TT.mk kd tn (.mk op lo hi lw hg ca cn cc cch) ext fr ⟨sa, sn, sc, sf⟩ ⟨ma, mn, mc, mf⟩ ⟨pa, pn, pc, pf⟩ ptf ⟨aa, an, ac, af⟩ atf ea en ec etf).cells.toArray, .int .i64 (d : Nat)] w fun e w' => e = .returned (.bool (shV d (TT.mk kd tn (.mk op lo hi lw hg ca cn cc cch) ext fr ⟨sa, sn, sc, sf⟩ ⟨ma, mn, mc, mf⟩ ⟨pa, pn, pc, pf⟩ ptf ⟨aa, an, ac, af⟩ atf ea en ec etf))) ∧ Below w.heap.size w w' := by
  have HIN := Lib.hid (fun (W : World) (hb : Below w.heap.size w W) => (hin.below (hb.mono hB) (Nat.le_refl _)).below (Below.refl _ _) (Nat.le_trans hB hb.size))
  have hl := (one_tcells hin).1
  obtain ⟨⟨_, htn, hcon, hfr, hnm, hmo⟩, ⟨hpr, hp⟩, ⟨har, ha⟩, ⟨her, he⟩⟩ := hin
  obtain ⟨res, hres⟩ : ∃ res, shV d (TT.mk kd tn (.mk op lo hi lw hg ca cn cc cch) ext fr ⟨sa, sn, sc, sf⟩ ⟨ma, mn, mc, mf⟩ ⟨pa, pn, pc, pf⟩ ptf ⟨aa, an, ac, af⟩ atf ea en ec etf) = res := ⟨_, rfl⟩
  rw [hres]
  have HRES := Lib.hid hres.symm
  obtain ⟨cs, hcs⟩ : ∃ cs, (TT.mk kd tn (.mk op lo hi lw hg ca cn cc cch) ext fr ⟨sa, sn, sc, sf⟩ ⟨ma, mn, mc, mf⟩ ⟨pa, pn, pc, pf⟩ ptf ⟨aa, an, ac, af⟩ atf ea en ec etf).cells = cs := ⟨_, rfl⟩
  have HCS := Lib.hid hcs
  have C0 := Lib.hid (show cs[0]? = some (.int .i64 kd) by rw [← hcs]; rfl)
  have C1 := Lib.hid (show cs[1]? = some (.string tn) by rw [← hcs]; rfl)
  have C2 := Lib.hid (show cs[2]? = some (.int .i64 op) by rw [← hcs]; rfl)
  have C8 := Lib.hid (show cs[8]? = some (.bool ext) by rw [← hcs]; rfl)
  have C9 := Lib.hid (show cs[9]? = some (.string fr) by rw [← hcs]; rfl)
  have C10 := Lib.hid (show cs[10]? = some (.slice sa sn sc) by rw [← hcs]; rfl)
  have C11 := Lib.hid (show cs[11]? = some (.slice ma mn mc) by rw [← hcs]; rfl)
  have C12 := Lib.hid (show cs[12]? = some (.slice pa pn pc) by rw [← hcs]; rfl)
  have C13 := Lib.hid (show cs[13]? = some (.slice aa an ac) by rw [← hcs]; rfl)
  have C14 := Lib.hid (show cs[14]? = some (.slice ea en ec) by rw [← hcs]; rfl)
  rw [hcs]
  have HL := Lib.hid (show cs.length = 15 by rw [← hcs]; exact hl)
  have HX := Lib.hid (Bx.new w cs.toArray 39)
  have HB := Lib.hid ((Below.refl w.heap.size w).alloc (Nat.le_refl _) (.cells cs.toArray 39))
  have HRC := Lib.hid (show (w.alloc (.cells cs.toArray 39)).rangeAt w.heap.size 2 (CT.mk op lo hi lw hg ca cn cc cch).cells from range_con (c := .mk op lo hi lw hg ca cn cc cch) (HIN.out w (Below.refl _ _)) (by intro _ _ _ _ _ _ _ _ _ _ _ _ _ _ _ e; cases e; rfl) (by rw [hcs]; exact HX.out))
  have HC := Lib.hid (rCon_ok (.mk op lo hi lw hg ca cn cc cch) B (w.alloc (.cells cs.toArray 39)) (hcon.below (HB.out.mono hB) (Nat.le_refl _)) (Nat.le_trans hB HB.out.size))
  obtain ⟨k, hk0⟩ : ∃ k, (CT.mk op lo hi lw hg ca cn cc cch).ok 40 = k := ⟨_, rfl⟩
  rw [hk0] at HC
  have HK0 := Lib.hid hk0
  have HSZ := Lib.hid (fun (hk : (CT.mk op lo hi lw hg ca cn cc cch).ok 40 = true) (W : World) (hb : Below w.heap.size w W) => show Calls Tryz.prog 68 #[.agg cs.toArray] W fun e w' => e = .returned (.bool (!(ext && decide (op = 0)))) ∧ Below W.heap.size W w' by
    have h := rsized_ok (TT.mk kd tn (.mk op lo hi lw hg ca cn cc cch) ext fr ⟨sa, sn, sc, sf⟩ ⟨ma, mn, mc, mf⟩ ⟨pa, pn, pc, pf⟩ ptf ⟨aa, an, ac, af⟩ atf ea en ec etf) (.mk op lo hi lw hg ca cn cc cch) ext W.heap.size W (HIN.out W hb) (Nat.le_refl _) (by intro _ _ _ _ _ _ _ _ _ _ _ _ _ _ _ e; cases e; rfl) rfl rfl
    rw [hk, Bool.true_and, hcs] at h
    exact h)
  have H4 := Lib.hid (show sn + mn ≤ 1000000000000000 by have h1 : sn ≤ sc := hnm.1.1; have h2 : sc ≤ 140737488355328 := hnm.1.2.1; have h3 : mn ≤ mc := hmo.1.1; have h4 : mc ≤ 140737488355328 := hmo.1.2.1; omega)
  have H5 := Lib.hid (show pn + an ≤ 1000000000000000 by have h1 : pn ≤ pc := hpr.1; have h2 : pc ≤ 140737488355328 := hpr.2.1; have h3 : an ≤ ac := har.1; have h4 : ac ≤ 140737488355328 := har.2.1; omega)
  have HNM := Lib.hid (fun (W : World) (hb : Below w.heap.size w W) => show SLIn W.heap.size W ⟨sa, sn, sc, sf⟩ from (hnm.below (hb.mono hB) (Nat.le_refl _)).below (Below.refl _ _) (Nat.le_trans hB hb.size))
  have HMO := Lib.hid (fun (W : World) (hb : Below w.heap.size w W) => show SLIn W.heap.size W ⟨ma, mn, mc, mf⟩ from (hmo.below (hb.mono hB) (Nat.le_refl _)).below (Below.refl _ _) (Nat.le_trans hB hb.size))
  have HPA := Lib.hid (fun (ch : Bool) (W : World) (hb : Below w.heap.size w W) => rparts_ok B W pa pn pc pf ptf ch (d + 1 : Nat) (fun i => shV (d + 1) (ptf i)) (Nat.le_trans hB hb.size) (hpr.below (hb.mono hB) (Nat.le_refl _)) (fun i hi => ⟨(hp i hi).1.below (hb.mono hB) (Nat.le_refl _), (hp i hi).2.below (hb.mono hB) (Nat.le_refl _)⟩) (fun i hi w' hb' => RP i hi w' (hb.trans (hb'.mono hb.size))))
  have HAA := Lib.hid (fun (ch : Bool) (W : World) (hb : Below w.heap.size w W) => rparts_ok B W aa an ac af atf ch (d + 1 : Nat) (fun i => shV (d + 1) (atf i)) (Nat.le_trans hB hb.size) (har.below (hb.mono hB) (Nat.le_refl _)) (fun i hi => ⟨(ha i hi).1.below (hb.mono hB) (Nat.le_refl _), (ha i hi).2.below (hb.mono hB) (Nat.le_refl _)⟩) (fun i hi w' hb' => RA i hi w' (hb.trans (hb'.mono hb.size))))
  have HEREC := Lib.hid RE
  have HE := Lib.hid he
  have HER := Lib.hid her
  have HBB := Lib.hid hB
  have HD := Lib.hid hd
  have HFR := Lib.hid hfr
  have HTN := Lib.hid htn
  obtain ⟨D, hD⟩ : ∃ D : Int, ((d : Nat) : Int) = D := ⟨_, rfl⟩
  obtain ⟨D1, hD1⟩ : ∃ D : Int, ((d + 1 : Nat) : Int) = D := ⟨_, rfl⟩
  rw [hD]
  rw [hD1] at HPA HAA HEREC
  have q40 : decide ((40 : Int) < D) = false := decide_eq_false (by omega)
  have qD : IntKind.i64.wrap (D + 1) = D1 := (wrap_ok (x := D + 1) (by unfold I64; omega)).trans (by omega)
  have HLC := Lib.hid (show (CT.mk op lo hi lw hg ca cn cc cch).cells.length = 6 from rfl)
  clear RP RA RE hcon hnm hmo hpr hp har ha her he hB hd hfr htn hl hcs hres hk0 hD hD1
  go_enter Tryz.func35, Tryz.ntmps35
  go_wp2_with (first | (refine wpList_load_midG (by rfl) 34 (.tmp 9) rfl w.heap.size 2 rfl (CT.mk op lo hi lw hg ca cn cc cch).cells _ HRC.out Tryz.underlying34 rfl (by rw [info_C, HLC.out]) ?_) | fail)
  refine HC.out.mono ?_
  rintro e W' ⟨rfl, hb⟩
  have HBn := Lib.hid (HB.out.trans (hb.mono HB.out.size))
  have HXn := Lib.hid (HX.out.below hb HX.out.lt)
  clear hb HB HX
  have HB := HBn
  have HX := HXn
  clear HBn HXn
  obtain ⟨W, rfl⟩ : ∃ W, W = W' := ⟨_, rfl⟩
  clear HC HRC q40
  cases k with
  | false =>
    obtain rfl : res = false := HRES.out.trans (shV_con HK0.out)
    clear HRES
    go_wp2_with fail
    go_ret
    exact ⟨rfl, HB.out⟩
  | true =>
    have HK := HK0
    have HSZ2 := Lib.hid (HSZ.out HK.out)
    clear HSZ
    have HSZ := HSZ2
    have HREF := Lib.hid trivial
    clear HSZ2 HK0
    rcases hkd with hk | hk
    · subst hk
      have d0 : W.cell? ⟨w.heap.size, 0, none⟩ = some (.int .i64 1) := HX.out.cell 0 (by rw [List.getElem?_toArray]; exact C0.out)
      have HR := Lib.hid (show res = (onlyV false false false false false false false tn op ext fr (sn + mn) (pn + an) en) from HRES.out.trans (shV_A (kd := 1) (by omega) HD.out HK.out))
      have HO := Lib.hid (show Calls Tryz.prog 67 #[.agg cs.toArray, .bool false, .bool false, .bool false, .bool false, .bool false, .bool false, .bool false] W fun e w' => e = .returned (.bool (onlyV false false false false false false false tn op ext fr (sn + mn) (pn + an) en)) ∧ Below W.heap.size W w' from only_A cs op tn fr ext sa ma pa aa ea sn sc mn mc pn pc an ac en ec W C1.out C2.out C8.out C9.out C10.out C11.out C12.out C13.out C14.out H4.out H5.out)
      obtain ⟨o, ho⟩ : ∃ o, onlyV false false false false false false false tn op ext fr (sn + mn) (pn + an) en = o := ⟨_, rfl⟩
      rw [ho] at HO HR
      clear ho
      clear HRES HREF
      go_wp2_with (first | (refine wpList_load_mid rfl 39 (.tmp 2) rfl w.heap.size 0 rfl cs _ HX.out.range Tryz.underlying39 rfl (by rw [info_T, HL.out]) ?_) | fail)
      refine HO.out.mono ?_
      rintro e W' ⟨rfl, hb⟩
      have HBn := Lib.hid (HB.out.trans (hb.mono HB.out.size))
      have HXn := Lib.hid (HX.out.below hb HX.out.lt)
      clear d0
      clear hb HB HX
      have HB := HBn
      have HX := HXn
      clear HBn HXn
      obtain ⟨W, rfl⟩ : ∃ W, W = W' := ⟨_, rfl⟩
      clear HO
      obtain rfl : res = o := HR.out
      go_wp2_with fail
      go_ret
      exact ⟨rfl, HB.out⟩
    · subst hk
      have d0 : W.cell? ⟨w.heap.size, 0, none⟩ = some (.int .i64 4) := HX.out.cell 0 (by rw [List.getElem?_toArray]; exact C0.out)
      have HR := Lib.hid (show res = (onlyV false false false false false false false tn op ext fr (sn + mn) (pn + an) en) from HRES.out.trans (shV_A (kd := 4) (by omega) HD.out HK.out))
      have HO := Lib.hid (show Calls Tryz.prog 67 #[.agg cs.toArray, .bool false, .bool false, .bool false, .bool false, .bool false, .bool false, .bool false] W fun e w' => e = .returned (.bool (onlyV false false false false false false false tn op ext fr (sn + mn) (pn + an) en)) ∧ Below W.heap.size W w' from only_A cs op tn fr ext sa ma pa aa ea sn sc mn mc pn pc an ac en ec W C1.out C2.out C8.out C9.out C10.out C11.out C12.out C13.out C14.out H4.out H5.out)
      obtain ⟨o, ho⟩ : ∃ o, onlyV false false false false false false false tn op ext fr (sn + mn) (pn + an) en = o := ⟨_, rfl⟩
      rw [ho] at HO HR
      clear ho
      clear HRES HREF
      go_wp2_with (first | (refine wpList_load_mid rfl 39 (.tmp 2) rfl w.heap.size 0 rfl cs _ HX.out.range Tryz.underlying39 rfl (by rw [info_T, HL.out]) ?_) | fail)
      refine HO.out.mono ?_
      rintro e W' ⟨rfl, hb⟩
      have HBn := Lib.hid (HB.out.trans (hb.mono HB.out.size))
      have HXn := Lib.hid (HX.out.below hb HX.out.lt)
      clear d0
      clear hb HB HX
      have HB := HBn
      have HX := HXn
      clear HBn HXn
      obtain ⟨W, rfl⟩ : ∃ W, W = W' := ⟨_, rfl⟩
      clear HO
      obtain rfl : res = o := HR.out
      go_wp2_with fail
      go_ret
      exact ⟨rfl, HB.out⟩
end Go.Proofs.YtgmnojnalkhepaaGreatDoor

/-
  The document's whether a type is shaped: 'shaped', by kinds.
-/
namespace Go.Proofs.YtgmnojnalkhepaaGreatDoor
open Go.RowKit
set_option linter.unusedVariables false
set_option linter.unusedSimpArgs false
set_option maxRecDepth 100000

set_option maxHeartbeats 16000000 in
theorem rshaped_B (kd op lo hi : Int) (tn fr : ByteArray) (lw hg ext : Bool) (ca sa ma pa aa ea : Option Addr) (cn cc sn sc mn mc pn pc an ac en ec : Nat) (cch : Nat → CT) (sf mf : Nat → ByteArray) (pf af : Nat → PD) (ptf atf etf : Nat → TT) (B d : Nat) (w : World)
    (hin : TIn B w (TT.mk kd tn (.mk op lo hi lw hg ca cn cc cch) ext fr ⟨sa, sn, sc, sf⟩ ⟨ma, mn, mc, mf⟩ ⟨pa, pn, pc, pf⟩ ptf ⟨aa, an, ac, af⟩ atf ea en ec etf)) (hB : B ≤ w.heap.size) (hd : d ≤ 40)
    (RP : ∀ i, i < pn → ∀ w' : World, Below w.heap.size w w' → Calls Tryz.prog 35 #[.agg (ptf i).cells.toArray, .int .i64 (d + 1 : Nat)] w' fun e w'' => e = .returned (.bool (shV (d + 1) (ptf i))) ∧ Below w'.heap.size w' w'')
    (RA : ∀ i, i < an → ∀ w' : World, Below w.heap.size w w' → Calls Tryz.prog 35 #[.agg (atf i).cells.toArray, .int .i64 (d + 1 : Nat)] w' fun e w'' => e = .returned (.bool (shV (d + 1) (atf i))) ∧ Below w'.heap.size w' w'')
    (RE : ∀ i, i < en → ∀ w' : World, Below w.heap.size w w' → Calls Tryz.prog 35 #[.agg (etf i).cells.toArray, .int .i64 (d + 1 : Nat)] w' fun e w'' => e = .returned (.bool (shV (d + 1) (etf i))) ∧ Below w'.heap.size w' w'')
    (hkd : kd = 2 ∨ kd = 5 ∨ kd = 6) :
    Calls Tryz.prog 35 #[.agg (TT.mk kd tn (.mk op lo hi lw hg ca cn cc cch) ext fr ⟨sa, sn, sc, sf⟩ ⟨ma, mn, mc, mf⟩ ⟨pa, pn, pc, pf⟩ ptf ⟨aa, an, ac, af⟩ atf ea en ec etf).cells.toArray, .int .i64 (d : Nat)] w fun e w' => e = .returned (.bool (shV d (TT.mk kd tn (.mk op lo hi lw hg ca cn cc cch) ext fr ⟨sa, sn, sc, sf⟩ ⟨ma, mn, mc, mf⟩ ⟨pa, pn, pc, pf⟩ ptf ⟨aa, an, ac, af⟩ atf ea en ec etf))) ∧ Below w.heap.size w w' := by
  have HIN := Lib.hid (fun (W : World) (hb : Below w.heap.size w W) => (hin.below (hb.mono hB) (Nat.le_refl _)).below (Below.refl _ _) (Nat.le_trans hB hb.size))
  have hl := (one_tcells hin).1
  obtain ⟨⟨_, htn, hcon, hfr, hnm, hmo⟩, ⟨hpr, hp⟩, ⟨har, ha⟩, ⟨her, he⟩⟩ := hin
  obtain ⟨res, hres⟩ : ∃ res, shV d (TT.mk kd tn (.mk op lo hi lw hg ca cn cc cch) ext fr ⟨sa, sn, sc, sf⟩ ⟨ma, mn, mc, mf⟩ ⟨pa, pn, pc, pf⟩ ptf ⟨aa, an, ac, af⟩ atf ea en ec etf) = res := ⟨_, rfl⟩
  rw [hres]
  have HRES := Lib.hid hres.symm
  obtain ⟨cs, hcs⟩ : ∃ cs, (TT.mk kd tn (.mk op lo hi lw hg ca cn cc cch) ext fr ⟨sa, sn, sc, sf⟩ ⟨ma, mn, mc, mf⟩ ⟨pa, pn, pc, pf⟩ ptf ⟨aa, an, ac, af⟩ atf ea en ec etf).cells = cs := ⟨_, rfl⟩
  have HCS := Lib.hid hcs
  have C0 := Lib.hid (show cs[0]? = some (.int .i64 kd) by rw [← hcs]; rfl)
  have C1 := Lib.hid (show cs[1]? = some (.string tn) by rw [← hcs]; rfl)
  have C2 := Lib.hid (show cs[2]? = some (.int .i64 op) by rw [← hcs]; rfl)
  have C8 := Lib.hid (show cs[8]? = some (.bool ext) by rw [← hcs]; rfl)
  have C9 := Lib.hid (show cs[9]? = some (.string fr) by rw [← hcs]; rfl)
  have C10 := Lib.hid (show cs[10]? = some (.slice sa sn sc) by rw [← hcs]; rfl)
  have C11 := Lib.hid (show cs[11]? = some (.slice ma mn mc) by rw [← hcs]; rfl)
  have C12 := Lib.hid (show cs[12]? = some (.slice pa pn pc) by rw [← hcs]; rfl)
  have C13 := Lib.hid (show cs[13]? = some (.slice aa an ac) by rw [← hcs]; rfl)
  have C14 := Lib.hid (show cs[14]? = some (.slice ea en ec) by rw [← hcs]; rfl)
  rw [hcs]
  have HL := Lib.hid (show cs.length = 15 by rw [← hcs]; exact hl)
  have HX := Lib.hid (Bx.new w cs.toArray 39)
  have HB := Lib.hid ((Below.refl w.heap.size w).alloc (Nat.le_refl _) (.cells cs.toArray 39))
  have HRC := Lib.hid (show (w.alloc (.cells cs.toArray 39)).rangeAt w.heap.size 2 (CT.mk op lo hi lw hg ca cn cc cch).cells from range_con (c := .mk op lo hi lw hg ca cn cc cch) (HIN.out w (Below.refl _ _)) (by intro _ _ _ _ _ _ _ _ _ _ _ _ _ _ _ e; cases e; rfl) (by rw [hcs]; exact HX.out))
  have HC := Lib.hid (rCon_ok (.mk op lo hi lw hg ca cn cc cch) B (w.alloc (.cells cs.toArray 39)) (hcon.below (HB.out.mono hB) (Nat.le_refl _)) (Nat.le_trans hB HB.out.size))
  obtain ⟨k, hk0⟩ : ∃ k, (CT.mk op lo hi lw hg ca cn cc cch).ok 40 = k := ⟨_, rfl⟩
  rw [hk0] at HC
  have HK0 := Lib.hid hk0
  have HSZ := Lib.hid (fun (hk : (CT.mk op lo hi lw hg ca cn cc cch).ok 40 = true) (W : World) (hb : Below w.heap.size w W) => show Calls Tryz.prog 68 #[.agg cs.toArray] W fun e w' => e = .returned (.bool (!(ext && decide (op = 0)))) ∧ Below W.heap.size W w' by
    have h := rsized_ok (TT.mk kd tn (.mk op lo hi lw hg ca cn cc cch) ext fr ⟨sa, sn, sc, sf⟩ ⟨ma, mn, mc, mf⟩ ⟨pa, pn, pc, pf⟩ ptf ⟨aa, an, ac, af⟩ atf ea en ec etf) (.mk op lo hi lw hg ca cn cc cch) ext W.heap.size W (HIN.out W hb) (Nat.le_refl _) (by intro _ _ _ _ _ _ _ _ _ _ _ _ _ _ _ e; cases e; rfl) rfl rfl
    rw [hk, Bool.true_and, hcs] at h
    exact h)
  have H4 := Lib.hid (show sn + mn ≤ 1000000000000000 by have h1 : sn ≤ sc := hnm.1.1; have h2 : sc ≤ 140737488355328 := hnm.1.2.1; have h3 : mn ≤ mc := hmo.1.1; have h4 : mc ≤ 140737488355328 := hmo.1.2.1; omega)
  have H5 := Lib.hid (show pn + an ≤ 1000000000000000 by have h1 : pn ≤ pc := hpr.1; have h2 : pc ≤ 140737488355328 := hpr.2.1; have h3 : an ≤ ac := har.1; have h4 : ac ≤ 140737488355328 := har.2.1; omega)
  have HNM := Lib.hid (fun (W : World) (hb : Below w.heap.size w W) => show SLIn W.heap.size W ⟨sa, sn, sc, sf⟩ from (hnm.below (hb.mono hB) (Nat.le_refl _)).below (Below.refl _ _) (Nat.le_trans hB hb.size))
  have HMO := Lib.hid (fun (W : World) (hb : Below w.heap.size w W) => show SLIn W.heap.size W ⟨ma, mn, mc, mf⟩ from (hmo.below (hb.mono hB) (Nat.le_refl _)).below (Below.refl _ _) (Nat.le_trans hB hb.size))
  have HPA := Lib.hid (fun (ch : Bool) (W : World) (hb : Below w.heap.size w W) => rparts_ok B W pa pn pc pf ptf ch (d + 1 : Nat) (fun i => shV (d + 1) (ptf i)) (Nat.le_trans hB hb.size) (hpr.below (hb.mono hB) (Nat.le_refl _)) (fun i hi => ⟨(hp i hi).1.below (hb.mono hB) (Nat.le_refl _), (hp i hi).2.below (hb.mono hB) (Nat.le_refl _)⟩) (fun i hi w' hb' => RP i hi w' (hb.trans (hb'.mono hb.size))))
  have HAA := Lib.hid (fun (ch : Bool) (W : World) (hb : Below w.heap.size w W) => rparts_ok B W aa an ac af atf ch (d + 1 : Nat) (fun i => shV (d + 1) (atf i)) (Nat.le_trans hB hb.size) (har.below (hb.mono hB) (Nat.le_refl _)) (fun i hi => ⟨(ha i hi).1.below (hb.mono hB) (Nat.le_refl _), (ha i hi).2.below (hb.mono hB) (Nat.le_refl _)⟩) (fun i hi w' hb' => RA i hi w' (hb.trans (hb'.mono hb.size))))
  have HEREC := Lib.hid RE
  have HE := Lib.hid he
  have HER := Lib.hid her
  have HBB := Lib.hid hB
  have HD := Lib.hid hd
  have HFR := Lib.hid hfr
  have HTN := Lib.hid htn
  obtain ⟨D, hD⟩ : ∃ D : Int, ((d : Nat) : Int) = D := ⟨_, rfl⟩
  obtain ⟨D1, hD1⟩ : ∃ D : Int, ((d + 1 : Nat) : Int) = D := ⟨_, rfl⟩
  rw [hD]
  rw [hD1] at HPA HAA HEREC
  have q40 : decide ((40 : Int) < D) = false := decide_eq_false (by omega)
  have qD : IntKind.i64.wrap (D + 1) = D1 := (wrap_ok (x := D + 1) (by unfold I64; omega)).trans (by omega)
  have HLC := Lib.hid (show (CT.mk op lo hi lw hg ca cn cc cch).cells.length = 6 from rfl)
  clear RP RA RE hcon hnm hmo hpr hp har ha her he hB hd hfr htn hl hcs hres hk0 hD hD1
  go_enter Tryz.func35, Tryz.ntmps35
  go_wp2_with (first | (refine wpList_load_midG (by rfl) 34 (.tmp 9) rfl w.heap.size 2 rfl (CT.mk op lo hi lw hg ca cn cc cch).cells _ HRC.out Tryz.underlying34 rfl (by rw [info_C, HLC.out]) ?_) | fail)
  refine HC.out.mono ?_
  rintro e W' ⟨rfl, hb⟩
  have HBn := Lib.hid (HB.out.trans (hb.mono HB.out.size))
  have HXn := Lib.hid (HX.out.below hb HX.out.lt)
  clear hb HB HX
  have HB := HBn
  have HX := HXn
  clear HBn HXn
  obtain ⟨W, rfl⟩ : ∃ W, W = W' := ⟨_, rfl⟩
  clear HC HRC q40
  cases k with
  | false =>
    obtain rfl : res = false := HRES.out.trans (shV_con HK0.out)
    clear HRES
    go_wp2_with fail
    go_ret
    exact ⟨rfl, HB.out⟩
  | true =>
    have HK := HK0
    have HSZ2 := Lib.hid (HSZ.out HK.out)
    clear HSZ
    have HSZ := HSZ2
    have HREF := Lib.hid trivial
    clear HSZ2 HK0
    rcases hkd with hk | hk | hk
    · subst hk
      have d0 : W.cell? ⟨w.heap.size, 0, none⟩ = some (.int .i64 2) := HX.out.cell 0 (by rw [List.getElem?_toArray]; exact C0.out)
      have HR := Lib.hid (show res = ((onlyV false true true false false false false tn op ext fr (sn + mn) (pn + an) en) && !(ext && decide (op = 0))) from HRES.out.trans (shV_B (kd := 2) (by omega) HD.out HK.out))
      have HO := Lib.hid (show Calls Tryz.prog 67 #[.agg cs.toArray, .bool false, .bool true, .bool true, .bool false, .bool false, .bool false, .bool false] W fun e w' => e = .returned (.bool (onlyV false true true false false false false tn op ext fr (sn + mn) (pn + an) en)) ∧ Below W.heap.size W w' from only_B cs op tn fr ext sa ma pa aa ea sn sc mn mc pn pc an ac en ec W C1.out C2.out C8.out C9.out C10.out C11.out C12.out C13.out C14.out H4.out H5.out)
      obtain ⟨o, ho⟩ : ∃ o, onlyV false true true false false false false tn op ext fr (sn + mn) (pn + an) en = o := ⟨_, rfl⟩
      rw [ho] at HO HR
      clear ho
      clear HRES HREF
      go_wp2_with (first | (refine wpList_load_mid rfl 39 (.tmp 2) rfl w.heap.size 0 rfl cs _ HX.out.range Tryz.underlying39 rfl (by rw [info_T, HL.out]) ?_) | fail)
      refine HO.out.mono ?_
      rintro e W' ⟨rfl, hb⟩
      have HBn := Lib.hid (HB.out.trans (hb.mono HB.out.size))
      have HXn := Lib.hid (HX.out.below hb HX.out.lt)
      clear d0
      clear hb HB HX
      have HB := HBn
      have HX := HXn
      clear HBn HXn
      obtain ⟨W, rfl⟩ : ∃ W, W = W' := ⟨_, rfl⟩
      clear HO
      cases o with
      | false =>
        obtain rfl : res = false := by rw [HR.out]; simp
        go_wp2_with fail
        go_ret
        exact ⟨rfl, HB.out⟩
      | true =>
        obtain ⟨z, hz⟩ : ∃ z, (!(ext && decide (op = 0))) = z := ⟨_, rfl⟩
        have HS := Lib.hid (HSZ.out W HB.out)
        rw [hz] at HS HR
        clear hz
        go_wp2_with (first | (refine wpList_load_midG (by rfl) 39 (.tmp 2) rfl w.heap.size 0 rfl cs _ HX.out.range Tryz.underlying39 rfl (by rw [info_T, HL.out]) ?_) | fail)
        refine HS.out.mono ?_
        rintro e W' ⟨rfl, hb⟩
        have HBn := Lib.hid (HB.out.trans (hb.mono HB.out.size))
        have HXn := Lib.hid (HX.out.below hb HX.out.lt)
        clear hb HB HX
        have HB := HBn
        have HX := HXn
        clear HBn HXn
        obtain ⟨W, rfl⟩ : ∃ W, W = W' := ⟨_, rfl⟩
        clear HS
        obtain rfl : res = z := HR.out.trans (by simp)
        go_wp2_with fail
        go_ret
        exact ⟨rfl, HB.out⟩
    · subst hk
      have d0 : W.cell? ⟨w.heap.size, 0, none⟩ = some (.int .i64 5) := HX.out.cell 0 (by rw [List.getElem?_toArray]; exact C0.out)
      have HR := Lib.hid (show res = ((onlyV false true true false false false false tn op ext fr (sn + mn) (pn + an) en) && !(ext && decide (op = 0))) from HRES.out.trans (shV_B (kd := 5) (by omega) HD.out HK.out))
      have HO := Lib.hid (show Calls Tryz.prog 67 #[.agg cs.toArray, .bool false, .bool true, .bool true, .bool false, .bool false, .bool false, .bool false] W fun e w' => e = .returned (.bool (onlyV false true true false false false false tn op ext fr (sn + mn) (pn + an) en)) ∧ Below W.heap.size W w' from only_B cs op tn fr ext sa ma pa aa ea sn sc mn mc pn pc an ac en ec W C1.out C2.out C8.out C9.out C10.out C11.out C12.out C13.out C14.out H4.out H5.out)
      obtain ⟨o, ho⟩ : ∃ o, onlyV false true true false false false false tn op ext fr (sn + mn) (pn + an) en = o := ⟨_, rfl⟩
      rw [ho] at HO HR
      clear ho
      clear HRES HREF
      go_wp2_with (first | (refine wpList_load_mid rfl 39 (.tmp 2) rfl w.heap.size 0 rfl cs _ HX.out.range Tryz.underlying39 rfl (by rw [info_T, HL.out]) ?_) | fail)
      refine HO.out.mono ?_
      rintro e W' ⟨rfl, hb⟩
      have HBn := Lib.hid (HB.out.trans (hb.mono HB.out.size))
      have HXn := Lib.hid (HX.out.below hb HX.out.lt)
      clear d0
      clear hb HB HX
      have HB := HBn
      have HX := HXn
      clear HBn HXn
      obtain ⟨W, rfl⟩ : ∃ W, W = W' := ⟨_, rfl⟩
      clear HO
      cases o with
      | false =>
        obtain rfl : res = false := by rw [HR.out]; simp
        go_wp2_with fail
        go_ret
        exact ⟨rfl, HB.out⟩
      | true =>
        obtain ⟨z, hz⟩ : ∃ z, (!(ext && decide (op = 0))) = z := ⟨_, rfl⟩
        have HS := Lib.hid (HSZ.out W HB.out)
        rw [hz] at HS HR
        clear hz
        go_wp2_with (first | (refine wpList_load_midG (by rfl) 39 (.tmp 2) rfl w.heap.size 0 rfl cs _ HX.out.range Tryz.underlying39 rfl (by rw [info_T, HL.out]) ?_) | fail)
        refine HS.out.mono ?_
        rintro e W' ⟨rfl, hb⟩
        have HBn := Lib.hid (HB.out.trans (hb.mono HB.out.size))
        have HXn := Lib.hid (HX.out.below hb HX.out.lt)
        clear hb HB HX
        have HB := HBn
        have HX := HXn
        clear HBn HXn
        obtain ⟨W, rfl⟩ : ∃ W, W = W' := ⟨_, rfl⟩
        clear HS
        obtain rfl : res = z := HR.out.trans (by simp)
        go_wp2_with fail
        go_ret
        exact ⟨rfl, HB.out⟩
    · subst hk
      have d0 : W.cell? ⟨w.heap.size, 0, none⟩ = some (.int .i64 6) := HX.out.cell 0 (by rw [List.getElem?_toArray]; exact C0.out)
      have HR := Lib.hid (show res = ((onlyV false true true false false false false tn op ext fr (sn + mn) (pn + an) en) && !(ext && decide (op = 0))) from HRES.out.trans (shV_B (kd := 6) (by omega) HD.out HK.out))
      have HO := Lib.hid (show Calls Tryz.prog 67 #[.agg cs.toArray, .bool false, .bool true, .bool true, .bool false, .bool false, .bool false, .bool false] W fun e w' => e = .returned (.bool (onlyV false true true false false false false tn op ext fr (sn + mn) (pn + an) en)) ∧ Below W.heap.size W w' from only_B cs op tn fr ext sa ma pa aa ea sn sc mn mc pn pc an ac en ec W C1.out C2.out C8.out C9.out C10.out C11.out C12.out C13.out C14.out H4.out H5.out)
      obtain ⟨o, ho⟩ : ∃ o, onlyV false true true false false false false tn op ext fr (sn + mn) (pn + an) en = o := ⟨_, rfl⟩
      rw [ho] at HO HR
      clear ho
      clear HRES HREF
      go_wp2_with (first | (refine wpList_load_mid rfl 39 (.tmp 2) rfl w.heap.size 0 rfl cs _ HX.out.range Tryz.underlying39 rfl (by rw [info_T, HL.out]) ?_) | fail)
      refine HO.out.mono ?_
      rintro e W' ⟨rfl, hb⟩
      have HBn := Lib.hid (HB.out.trans (hb.mono HB.out.size))
      have HXn := Lib.hid (HX.out.below hb HX.out.lt)
      clear d0
      clear hb HB HX
      have HB := HBn
      have HX := HXn
      clear HBn HXn
      obtain ⟨W, rfl⟩ : ∃ W, W = W' := ⟨_, rfl⟩
      clear HO
      cases o with
      | false =>
        obtain rfl : res = false := by rw [HR.out]; simp
        go_wp2_with fail
        go_ret
        exact ⟨rfl, HB.out⟩
      | true =>
        obtain ⟨z, hz⟩ : ∃ z, (!(ext && decide (op = 0))) = z := ⟨_, rfl⟩
        have HS := Lib.hid (HSZ.out W HB.out)
        rw [hz] at HS HR
        clear hz
        go_wp2_with (first | (refine wpList_load_midG (by rfl) 39 (.tmp 2) rfl w.heap.size 0 rfl cs _ HX.out.range Tryz.underlying39 rfl (by rw [info_T, HL.out]) ?_) | fail)
        refine HS.out.mono ?_
        rintro e W' ⟨rfl, hb⟩
        have HBn := Lib.hid (HB.out.trans (hb.mono HB.out.size))
        have HXn := Lib.hid (HX.out.below hb HX.out.lt)
        clear hb HB HX
        have HB := HBn
        have HX := HXn
        clear HBn HXn
        obtain ⟨W, rfl⟩ : ∃ W, W = W' := ⟨_, rfl⟩
        clear HS
        obtain rfl : res = z := HR.out.trans (by simp)
        go_wp2_with fail
        go_ret
        exact ⟨rfl, HB.out⟩
end Go.Proofs.YtgmnojnalkhepaaGreatDoor

/-
  The document's whether a type is shaped: 'shaped', by kinds.
-/
namespace Go.Proofs.YtgmnojnalkhepaaGreatDoor
open Go.RowKit
set_option linter.unusedVariables false
set_option linter.unusedSimpArgs false
set_option maxRecDepth 100000

set_option maxHeartbeats 16000000 in
theorem rshaped_C (kd op lo hi : Int) (tn fr : ByteArray) (lw hg ext : Bool) (ca sa ma pa aa ea : Option Addr) (cn cc sn sc mn mc pn pc an ac en ec : Nat) (cch : Nat → CT) (sf mf : Nat → ByteArray) (pf af : Nat → PD) (ptf atf etf : Nat → TT) (B d : Nat) (w : World)
    (hin : TIn B w (TT.mk kd tn (.mk op lo hi lw hg ca cn cc cch) ext fr ⟨sa, sn, sc, sf⟩ ⟨ma, mn, mc, mf⟩ ⟨pa, pn, pc, pf⟩ ptf ⟨aa, an, ac, af⟩ atf ea en ec etf)) (hB : B ≤ w.heap.size) (hd : d ≤ 40)
    (RP : ∀ i, i < pn → ∀ w' : World, Below w.heap.size w w' → Calls Tryz.prog 35 #[.agg (ptf i).cells.toArray, .int .i64 (d + 1 : Nat)] w' fun e w'' => e = .returned (.bool (shV (d + 1) (ptf i))) ∧ Below w'.heap.size w' w'')
    (RA : ∀ i, i < an → ∀ w' : World, Below w.heap.size w w' → Calls Tryz.prog 35 #[.agg (atf i).cells.toArray, .int .i64 (d + 1 : Nat)] w' fun e w'' => e = .returned (.bool (shV (d + 1) (atf i))) ∧ Below w'.heap.size w' w'')
    (RE : ∀ i, i < en → ∀ w' : World, Below w.heap.size w w' → Calls Tryz.prog 35 #[.agg (etf i).cells.toArray, .int .i64 (d + 1 : Nat)] w' fun e w'' => e = .returned (.bool (shV (d + 1) (etf i))) ∧ Below w'.heap.size w' w'')
    (hkd : kd = 7) :
    Calls Tryz.prog 35 #[.agg (TT.mk kd tn (.mk op lo hi lw hg ca cn cc cch) ext fr ⟨sa, sn, sc, sf⟩ ⟨ma, mn, mc, mf⟩ ⟨pa, pn, pc, pf⟩ ptf ⟨aa, an, ac, af⟩ atf ea en ec etf).cells.toArray, .int .i64 (d : Nat)] w fun e w' => e = .returned (.bool (shV d (TT.mk kd tn (.mk op lo hi lw hg ca cn cc cch) ext fr ⟨sa, sn, sc, sf⟩ ⟨ma, mn, mc, mf⟩ ⟨pa, pn, pc, pf⟩ ptf ⟨aa, an, ac, af⟩ atf ea en ec etf))) ∧ Below w.heap.size w w' := by
  have HIN := Lib.hid (fun (W : World) (hb : Below w.heap.size w W) => (hin.below (hb.mono hB) (Nat.le_refl _)).below (Below.refl _ _) (Nat.le_trans hB hb.size))
  have hl := (one_tcells hin).1
  obtain ⟨⟨_, htn, hcon, hfr, hnm, hmo⟩, ⟨hpr, hp⟩, ⟨har, ha⟩, ⟨her, he⟩⟩ := hin
  obtain ⟨res, hres⟩ : ∃ res, shV d (TT.mk kd tn (.mk op lo hi lw hg ca cn cc cch) ext fr ⟨sa, sn, sc, sf⟩ ⟨ma, mn, mc, mf⟩ ⟨pa, pn, pc, pf⟩ ptf ⟨aa, an, ac, af⟩ atf ea en ec etf) = res := ⟨_, rfl⟩
  rw [hres]
  have HRES := Lib.hid hres.symm
  obtain ⟨cs, hcs⟩ : ∃ cs, (TT.mk kd tn (.mk op lo hi lw hg ca cn cc cch) ext fr ⟨sa, sn, sc, sf⟩ ⟨ma, mn, mc, mf⟩ ⟨pa, pn, pc, pf⟩ ptf ⟨aa, an, ac, af⟩ atf ea en ec etf).cells = cs := ⟨_, rfl⟩
  have HCS := Lib.hid hcs
  have C0 := Lib.hid (show cs[0]? = some (.int .i64 kd) by rw [← hcs]; rfl)
  have C1 := Lib.hid (show cs[1]? = some (.string tn) by rw [← hcs]; rfl)
  have C2 := Lib.hid (show cs[2]? = some (.int .i64 op) by rw [← hcs]; rfl)
  have C8 := Lib.hid (show cs[8]? = some (.bool ext) by rw [← hcs]; rfl)
  have C9 := Lib.hid (show cs[9]? = some (.string fr) by rw [← hcs]; rfl)
  have C10 := Lib.hid (show cs[10]? = some (.slice sa sn sc) by rw [← hcs]; rfl)
  have C11 := Lib.hid (show cs[11]? = some (.slice ma mn mc) by rw [← hcs]; rfl)
  have C12 := Lib.hid (show cs[12]? = some (.slice pa pn pc) by rw [← hcs]; rfl)
  have C13 := Lib.hid (show cs[13]? = some (.slice aa an ac) by rw [← hcs]; rfl)
  have C14 := Lib.hid (show cs[14]? = some (.slice ea en ec) by rw [← hcs]; rfl)
  rw [hcs]
  have HL := Lib.hid (show cs.length = 15 by rw [← hcs]; exact hl)
  have HX := Lib.hid (Bx.new w cs.toArray 39)
  have HB := Lib.hid ((Below.refl w.heap.size w).alloc (Nat.le_refl _) (.cells cs.toArray 39))
  have HRC := Lib.hid (show (w.alloc (.cells cs.toArray 39)).rangeAt w.heap.size 2 (CT.mk op lo hi lw hg ca cn cc cch).cells from range_con (c := .mk op lo hi lw hg ca cn cc cch) (HIN.out w (Below.refl _ _)) (by intro _ _ _ _ _ _ _ _ _ _ _ _ _ _ _ e; cases e; rfl) (by rw [hcs]; exact HX.out))
  have HC := Lib.hid (rCon_ok (.mk op lo hi lw hg ca cn cc cch) B (w.alloc (.cells cs.toArray 39)) (hcon.below (HB.out.mono hB) (Nat.le_refl _)) (Nat.le_trans hB HB.out.size))
  obtain ⟨k, hk0⟩ : ∃ k, (CT.mk op lo hi lw hg ca cn cc cch).ok 40 = k := ⟨_, rfl⟩
  rw [hk0] at HC
  have HK0 := Lib.hid hk0
  have HSZ := Lib.hid (fun (hk : (CT.mk op lo hi lw hg ca cn cc cch).ok 40 = true) (W : World) (hb : Below w.heap.size w W) => show Calls Tryz.prog 68 #[.agg cs.toArray] W fun e w' => e = .returned (.bool (!(ext && decide (op = 0)))) ∧ Below W.heap.size W w' by
    have h := rsized_ok (TT.mk kd tn (.mk op lo hi lw hg ca cn cc cch) ext fr ⟨sa, sn, sc, sf⟩ ⟨ma, mn, mc, mf⟩ ⟨pa, pn, pc, pf⟩ ptf ⟨aa, an, ac, af⟩ atf ea en ec etf) (.mk op lo hi lw hg ca cn cc cch) ext W.heap.size W (HIN.out W hb) (Nat.le_refl _) (by intro _ _ _ _ _ _ _ _ _ _ _ _ _ _ _ e; cases e; rfl) rfl rfl
    rw [hk, Bool.true_and, hcs] at h
    exact h)
  have H4 := Lib.hid (show sn + mn ≤ 1000000000000000 by have h1 : sn ≤ sc := hnm.1.1; have h2 : sc ≤ 140737488355328 := hnm.1.2.1; have h3 : mn ≤ mc := hmo.1.1; have h4 : mc ≤ 140737488355328 := hmo.1.2.1; omega)
  have H5 := Lib.hid (show pn + an ≤ 1000000000000000 by have h1 : pn ≤ pc := hpr.1; have h2 : pc ≤ 140737488355328 := hpr.2.1; have h3 : an ≤ ac := har.1; have h4 : ac ≤ 140737488355328 := har.2.1; omega)
  have HNM := Lib.hid (fun (W : World) (hb : Below w.heap.size w W) => show SLIn W.heap.size W ⟨sa, sn, sc, sf⟩ from (hnm.below (hb.mono hB) (Nat.le_refl _)).below (Below.refl _ _) (Nat.le_trans hB hb.size))
  have HMO := Lib.hid (fun (W : World) (hb : Below w.heap.size w W) => show SLIn W.heap.size W ⟨ma, mn, mc, mf⟩ from (hmo.below (hb.mono hB) (Nat.le_refl _)).below (Below.refl _ _) (Nat.le_trans hB hb.size))
  have HPA := Lib.hid (fun (ch : Bool) (W : World) (hb : Below w.heap.size w W) => rparts_ok B W pa pn pc pf ptf ch (d + 1 : Nat) (fun i => shV (d + 1) (ptf i)) (Nat.le_trans hB hb.size) (hpr.below (hb.mono hB) (Nat.le_refl _)) (fun i hi => ⟨(hp i hi).1.below (hb.mono hB) (Nat.le_refl _), (hp i hi).2.below (hb.mono hB) (Nat.le_refl _)⟩) (fun i hi w' hb' => RP i hi w' (hb.trans (hb'.mono hb.size))))
  have HAA := Lib.hid (fun (ch : Bool) (W : World) (hb : Below w.heap.size w W) => rparts_ok B W aa an ac af atf ch (d + 1 : Nat) (fun i => shV (d + 1) (atf i)) (Nat.le_trans hB hb.size) (har.below (hb.mono hB) (Nat.le_refl _)) (fun i hi => ⟨(ha i hi).1.below (hb.mono hB) (Nat.le_refl _), (ha i hi).2.below (hb.mono hB) (Nat.le_refl _)⟩) (fun i hi w' hb' => RA i hi w' (hb.trans (hb'.mono hb.size))))
  have HEREC := Lib.hid RE
  have HE := Lib.hid he
  have HER := Lib.hid her
  have HBB := Lib.hid hB
  have HD := Lib.hid hd
  have HFR := Lib.hid hfr
  have HTN := Lib.hid htn
  obtain ⟨D, hD⟩ : ∃ D : Int, ((d : Nat) : Int) = D := ⟨_, rfl⟩
  obtain ⟨D1, hD1⟩ : ∃ D : Int, ((d + 1 : Nat) : Int) = D := ⟨_, rfl⟩
  rw [hD]
  rw [hD1] at HPA HAA HEREC
  have q40 : decide ((40 : Int) < D) = false := decide_eq_false (by omega)
  have qD : IntKind.i64.wrap (D + 1) = D1 := (wrap_ok (x := D + 1) (by unfold I64; omega)).trans (by omega)
  have HLC := Lib.hid (show (CT.mk op lo hi lw hg ca cn cc cch).cells.length = 6 from rfl)
  clear RP RA RE hcon hnm hmo hpr hp har ha her he hB hd hfr htn hl hcs hres hk0 hD hD1
  go_enter Tryz.func35, Tryz.ntmps35
  go_wp2_with (first | (refine wpList_load_midG (by rfl) 34 (.tmp 9) rfl w.heap.size 2 rfl (CT.mk op lo hi lw hg ca cn cc cch).cells _ HRC.out Tryz.underlying34 rfl (by rw [info_C, HLC.out]) ?_) | fail)
  refine HC.out.mono ?_
  rintro e W' ⟨rfl, hb⟩
  have HBn := Lib.hid (HB.out.trans (hb.mono HB.out.size))
  have HXn := Lib.hid (HX.out.below hb HX.out.lt)
  clear hb HB HX
  have HB := HBn
  have HX := HXn
  clear HBn HXn
  obtain ⟨W, rfl⟩ : ∃ W, W = W' := ⟨_, rfl⟩
  clear HC HRC q40
  cases k with
  | false =>
    obtain rfl : res = false := HRES.out.trans (shV_con HK0.out)
    clear HRES
    go_wp2_with fail
    go_ret
    exact ⟨rfl, HB.out⟩
  | true =>
    have HK := HK0
    have HSZ2 := Lib.hid (HSZ.out HK.out)
    clear HSZ
    have HSZ := HSZ2
    have HREF := Lib.hid trivial
    clear HSZ2 HK0
    have hk := hkd
    clear hkd
    subst hk
    have d0 : W.cell? ⟨w.heap.size, 0, none⟩ = some (.int .i64 7) := HX.out.cell 0 (by rw [List.getElem?_toArray]; exact C0.out)
    have HR := Lib.hid (show res = ((onlyV false true true true false false false tn op ext fr (sn + mn) (pn + an) en) && (!(ext && decide (op = 0)) && alph fr)) from HRES.out.trans (shV_C HD.out HK.out))
    have HO := Lib.hid (show Calls Tryz.prog 67 #[.agg cs.toArray, .bool false, .bool true, .bool true, .bool true, .bool false, .bool false, .bool false] W fun e w' => e = .returned (.bool (onlyV false true true true false false false tn op ext fr (sn + mn) (pn + an) en)) ∧ Below W.heap.size W w' from only_C cs op tn fr ext sa ma pa aa ea sn sc mn mc pn pc an ac en ec W C1.out C2.out C8.out C9.out C10.out C11.out C12.out C13.out C14.out H4.out H5.out)
    obtain ⟨o, ho⟩ : ∃ o, onlyV false true true true false false false tn op ext fr (sn + mn) (pn + an) en = o := ⟨_, rfl⟩
    rw [ho] at HO HR
    clear ho
    clear HRES HREF
    go_wp2_with (first | (refine wpList_load_mid rfl 39 (.tmp 2) rfl w.heap.size 0 rfl cs _ HX.out.range Tryz.underlying39 rfl (by rw [info_T, HL.out]) ?_) | fail)
    refine HO.out.mono ?_
    rintro e W' ⟨rfl, hb⟩
    have HBn := Lib.hid (HB.out.trans (hb.mono HB.out.size))
    have HXn := Lib.hid (HX.out.below hb HX.out.lt)
    clear d0
    clear hb HB HX
    have HB := HBn
    have HX := HXn
    clear HBn HXn
    obtain ⟨W, rfl⟩ : ∃ W, W = W' := ⟨_, rfl⟩
    clear HO
    cases o with
    | false =>
      obtain rfl : res = false := by rw [HR.out]; simp
      go_wp2_with fail
      go_ret
      exact ⟨rfl, HB.out⟩
    | true =>
      obtain ⟨z, hz⟩ : ∃ z, (!(ext && decide (op = 0))) = z := ⟨_, rfl⟩
      have HS := Lib.hid (HSZ.out W HB.out)
      rw [hz] at HS HR
      clear hz
      go_wp2_with (first | (refine wpList_load_midG (by rfl) 39 (.tmp 2) rfl w.heap.size 0 rfl cs _ HX.out.range Tryz.underlying39 rfl (by rw [info_T, HL.out]) ?_) | fail)
      refine HS.out.mono ?_
      rintro e W' ⟨rfl, hb⟩
      have HBn := Lib.hid (HB.out.trans (hb.mono HB.out.size))
      have HXn := Lib.hid (HX.out.below hb HX.out.lt)
      clear hb HB HX
      have HB := HBn
      have HX := HXn
      clear HBn HXn
      obtain ⟨W, rfl⟩ : ∃ W, W = W' := ⟨_, rfl⟩
      clear HS
      cases z with
      | false =>
        obtain rfl : res = false := by rw [HR.out]; simp
        go_wp2_with fail
        go_ret
        exact ⟨rfl, HB.out⟩
      | true =>
        have d9 : W.cell? ⟨w.heap.size, 9, none⟩ = some (.string fr) := HX.out.cell 9 (by rw [List.getElem?_toArray]; exact C9.out)
        have HP := Lib.hid (rprint_ok fr true W HFR.out)
        rw [prP_alph] at HP
        obtain ⟨y, hy⟩ : ∃ y, alph fr = y := ⟨_, rfl⟩
        rw [hy] at HP HR
        obtain rfl : res = y := HR.out.trans (by simp)
        clear hy
        go_wp2_with fail
        refine HP.out.mono ?_
        rintro e W' ⟨rfl, hb⟩
        have HBn := Lib.hid (HB.out.trans (hb.mono HB.out.size))
        have HXn := Lib.hid (HX.out.below hb HX.out.lt)
        clear d9
        clear hb HB HX
        have HB := HBn
        have HX := HXn
        clear HBn HXn
        obtain ⟨W, rfl⟩ : ∃ W, W = W' := ⟨_, rfl⟩
        go_wp2_with fail
        go_ret
        exact ⟨rfl, HB.out⟩
end Go.Proofs.YtgmnojnalkhepaaGreatDoor

/-
  The document's whether a type is shaped: 'shaped', by kinds.
-/
namespace Go.Proofs.YtgmnojnalkhepaaGreatDoor
open Go.RowKit
set_option linter.unusedVariables false
set_option linter.unusedSimpArgs false
set_option maxRecDepth 100000

set_option maxHeartbeats 16000000 in
theorem rshaped_D (kd op lo hi : Int) (tn fr : ByteArray) (lw hg ext : Bool) (ca sa ma pa aa ea : Option Addr) (cn cc sn sc mn mc pn pc an ac en ec : Nat) (cch : Nat → CT) (sf mf : Nat → ByteArray) (pf af : Nat → PD) (ptf atf etf : Nat → TT) (B d : Nat) (w : World)
    (hin : TIn B w (TT.mk kd tn (.mk op lo hi lw hg ca cn cc cch) ext fr ⟨sa, sn, sc, sf⟩ ⟨ma, mn, mc, mf⟩ ⟨pa, pn, pc, pf⟩ ptf ⟨aa, an, ac, af⟩ atf ea en ec etf)) (hB : B ≤ w.heap.size) (hd : d ≤ 40)
    (RP : ∀ i, i < pn → ∀ w' : World, Below w.heap.size w w' → Calls Tryz.prog 35 #[.agg (ptf i).cells.toArray, .int .i64 (d + 1 : Nat)] w' fun e w'' => e = .returned (.bool (shV (d + 1) (ptf i))) ∧ Below w'.heap.size w' w'')
    (RA : ∀ i, i < an → ∀ w' : World, Below w.heap.size w w' → Calls Tryz.prog 35 #[.agg (atf i).cells.toArray, .int .i64 (d + 1 : Nat)] w' fun e w'' => e = .returned (.bool (shV (d + 1) (atf i))) ∧ Below w'.heap.size w' w'')
    (RE : ∀ i, i < en → ∀ w' : World, Below w.heap.size w w' → Calls Tryz.prog 35 #[.agg (etf i).cells.toArray, .int .i64 (d + 1 : Nat)] w' fun e w'' => e = .returned (.bool (shV (d + 1) (etf i))) ∧ Below w'.heap.size w' w'')
    (hkd : kd = 3) :
    Calls Tryz.prog 35 #[.agg (TT.mk kd tn (.mk op lo hi lw hg ca cn cc cch) ext fr ⟨sa, sn, sc, sf⟩ ⟨ma, mn, mc, mf⟩ ⟨pa, pn, pc, pf⟩ ptf ⟨aa, an, ac, af⟩ atf ea en ec etf).cells.toArray, .int .i64 (d : Nat)] w fun e w' => e = .returned (.bool (shV d (TT.mk kd tn (.mk op lo hi lw hg ca cn cc cch) ext fr ⟨sa, sn, sc, sf⟩ ⟨ma, mn, mc, mf⟩ ⟨pa, pn, pc, pf⟩ ptf ⟨aa, an, ac, af⟩ atf ea en ec etf))) ∧ Below w.heap.size w w' := by
  have HIN := Lib.hid (fun (W : World) (hb : Below w.heap.size w W) => (hin.below (hb.mono hB) (Nat.le_refl _)).below (Below.refl _ _) (Nat.le_trans hB hb.size))
  have hl := (one_tcells hin).1
  obtain ⟨⟨_, htn, hcon, hfr, hnm, hmo⟩, ⟨hpr, hp⟩, ⟨har, ha⟩, ⟨her, he⟩⟩ := hin
  obtain ⟨res, hres⟩ : ∃ res, shV d (TT.mk kd tn (.mk op lo hi lw hg ca cn cc cch) ext fr ⟨sa, sn, sc, sf⟩ ⟨ma, mn, mc, mf⟩ ⟨pa, pn, pc, pf⟩ ptf ⟨aa, an, ac, af⟩ atf ea en ec etf) = res := ⟨_, rfl⟩
  rw [hres]
  have HRES := Lib.hid hres.symm
  obtain ⟨cs, hcs⟩ : ∃ cs, (TT.mk kd tn (.mk op lo hi lw hg ca cn cc cch) ext fr ⟨sa, sn, sc, sf⟩ ⟨ma, mn, mc, mf⟩ ⟨pa, pn, pc, pf⟩ ptf ⟨aa, an, ac, af⟩ atf ea en ec etf).cells = cs := ⟨_, rfl⟩
  have HCS := Lib.hid hcs
  have C0 := Lib.hid (show cs[0]? = some (.int .i64 kd) by rw [← hcs]; rfl)
  have C1 := Lib.hid (show cs[1]? = some (.string tn) by rw [← hcs]; rfl)
  have C2 := Lib.hid (show cs[2]? = some (.int .i64 op) by rw [← hcs]; rfl)
  have C8 := Lib.hid (show cs[8]? = some (.bool ext) by rw [← hcs]; rfl)
  have C9 := Lib.hid (show cs[9]? = some (.string fr) by rw [← hcs]; rfl)
  have C10 := Lib.hid (show cs[10]? = some (.slice sa sn sc) by rw [← hcs]; rfl)
  have C11 := Lib.hid (show cs[11]? = some (.slice ma mn mc) by rw [← hcs]; rfl)
  have C12 := Lib.hid (show cs[12]? = some (.slice pa pn pc) by rw [← hcs]; rfl)
  have C13 := Lib.hid (show cs[13]? = some (.slice aa an ac) by rw [← hcs]; rfl)
  have C14 := Lib.hid (show cs[14]? = some (.slice ea en ec) by rw [← hcs]; rfl)
  rw [hcs]
  have HL := Lib.hid (show cs.length = 15 by rw [← hcs]; exact hl)
  have HX := Lib.hid (Bx.new w cs.toArray 39)
  have HB := Lib.hid ((Below.refl w.heap.size w).alloc (Nat.le_refl _) (.cells cs.toArray 39))
  have HRC := Lib.hid (show (w.alloc (.cells cs.toArray 39)).rangeAt w.heap.size 2 (CT.mk op lo hi lw hg ca cn cc cch).cells from range_con (c := .mk op lo hi lw hg ca cn cc cch) (HIN.out w (Below.refl _ _)) (by intro _ _ _ _ _ _ _ _ _ _ _ _ _ _ _ e; cases e; rfl) (by rw [hcs]; exact HX.out))
  have HC := Lib.hid (rCon_ok (.mk op lo hi lw hg ca cn cc cch) B (w.alloc (.cells cs.toArray 39)) (hcon.below (HB.out.mono hB) (Nat.le_refl _)) (Nat.le_trans hB HB.out.size))
  obtain ⟨k, hk0⟩ : ∃ k, (CT.mk op lo hi lw hg ca cn cc cch).ok 40 = k := ⟨_, rfl⟩
  rw [hk0] at HC
  have HK0 := Lib.hid hk0
  have HSZ := Lib.hid (fun (hk : (CT.mk op lo hi lw hg ca cn cc cch).ok 40 = true) (W : World) (hb : Below w.heap.size w W) => show Calls Tryz.prog 68 #[.agg cs.toArray] W fun e w' => e = .returned (.bool (!(ext && decide (op = 0)))) ∧ Below W.heap.size W w' by
    have h := rsized_ok (TT.mk kd tn (.mk op lo hi lw hg ca cn cc cch) ext fr ⟨sa, sn, sc, sf⟩ ⟨ma, mn, mc, mf⟩ ⟨pa, pn, pc, pf⟩ ptf ⟨aa, an, ac, af⟩ atf ea en ec etf) (.mk op lo hi lw hg ca cn cc cch) ext W.heap.size W (HIN.out W hb) (Nat.le_refl _) (by intro _ _ _ _ _ _ _ _ _ _ _ _ _ _ _ e; cases e; rfl) rfl rfl
    rw [hk, Bool.true_and, hcs] at h
    exact h)
  have H4 := Lib.hid (show sn + mn ≤ 1000000000000000 by have h1 : sn ≤ sc := hnm.1.1; have h2 : sc ≤ 140737488355328 := hnm.1.2.1; have h3 : mn ≤ mc := hmo.1.1; have h4 : mc ≤ 140737488355328 := hmo.1.2.1; omega)
  have H5 := Lib.hid (show pn + an ≤ 1000000000000000 by have h1 : pn ≤ pc := hpr.1; have h2 : pc ≤ 140737488355328 := hpr.2.1; have h3 : an ≤ ac := har.1; have h4 : ac ≤ 140737488355328 := har.2.1; omega)
  have HNM := Lib.hid (fun (W : World) (hb : Below w.heap.size w W) => show SLIn W.heap.size W ⟨sa, sn, sc, sf⟩ from (hnm.below (hb.mono hB) (Nat.le_refl _)).below (Below.refl _ _) (Nat.le_trans hB hb.size))
  have HMO := Lib.hid (fun (W : World) (hb : Below w.heap.size w W) => show SLIn W.heap.size W ⟨ma, mn, mc, mf⟩ from (hmo.below (hb.mono hB) (Nat.le_refl _)).below (Below.refl _ _) (Nat.le_trans hB hb.size))
  have HPA := Lib.hid (fun (ch : Bool) (W : World) (hb : Below w.heap.size w W) => rparts_ok B W pa pn pc pf ptf ch (d + 1 : Nat) (fun i => shV (d + 1) (ptf i)) (Nat.le_trans hB hb.size) (hpr.below (hb.mono hB) (Nat.le_refl _)) (fun i hi => ⟨(hp i hi).1.below (hb.mono hB) (Nat.le_refl _), (hp i hi).2.below (hb.mono hB) (Nat.le_refl _)⟩) (fun i hi w' hb' => RP i hi w' (hb.trans (hb'.mono hb.size))))
  have HAA := Lib.hid (fun (ch : Bool) (W : World) (hb : Below w.heap.size w W) => rparts_ok B W aa an ac af atf ch (d + 1 : Nat) (fun i => shV (d + 1) (atf i)) (Nat.le_trans hB hb.size) (har.below (hb.mono hB) (Nat.le_refl _)) (fun i hi => ⟨(ha i hi).1.below (hb.mono hB) (Nat.le_refl _), (ha i hi).2.below (hb.mono hB) (Nat.le_refl _)⟩) (fun i hi w' hb' => RA i hi w' (hb.trans (hb'.mono hb.size))))
  have HEREC := Lib.hid RE
  have HE := Lib.hid he
  have HER := Lib.hid her
  have HBB := Lib.hid hB
  have HD := Lib.hid hd
  have HFR := Lib.hid hfr
  have HTN := Lib.hid htn
  obtain ⟨D, hD⟩ : ∃ D : Int, ((d : Nat) : Int) = D := ⟨_, rfl⟩
  obtain ⟨D1, hD1⟩ : ∃ D : Int, ((d + 1 : Nat) : Int) = D := ⟨_, rfl⟩
  rw [hD]
  rw [hD1] at HPA HAA HEREC
  have q40 : decide ((40 : Int) < D) = false := decide_eq_false (by omega)
  have qD : IntKind.i64.wrap (D + 1) = D1 := (wrap_ok (x := D + 1) (by unfold I64; omega)).trans (by omega)
  have HLC := Lib.hid (show (CT.mk op lo hi lw hg ca cn cc cch).cells.length = 6 from rfl)
  clear RP RA RE hcon hnm hmo hpr hp har ha her he hB hd hfr htn hl hcs hres hk0 hD hD1
  go_enter Tryz.func35, Tryz.ntmps35
  go_wp2_with (first | (refine wpList_load_midG (by rfl) 34 (.tmp 9) rfl w.heap.size 2 rfl (CT.mk op lo hi lw hg ca cn cc cch).cells _ HRC.out Tryz.underlying34 rfl (by rw [info_C, HLC.out]) ?_) | fail)
  refine HC.out.mono ?_
  rintro e W' ⟨rfl, hb⟩
  have HBn := Lib.hid (HB.out.trans (hb.mono HB.out.size))
  have HXn := Lib.hid (HX.out.below hb HX.out.lt)
  clear hb HB HX
  have HB := HBn
  have HX := HXn
  clear HBn HXn
  obtain ⟨W, rfl⟩ : ∃ W, W = W' := ⟨_, rfl⟩
  clear HC HRC q40
  cases k with
  | false =>
    obtain rfl : res = false := HRES.out.trans (shV_con HK0.out)
    clear HRES
    go_wp2_with fail
    go_ret
    exact ⟨rfl, HB.out⟩
  | true =>
    have HK := HK0
    have HSZ2 := Lib.hid (HSZ.out HK.out)
    clear HSZ
    have HSZ := HSZ2
    have HREF := Lib.hid trivial
    clear HSZ2 HK0
    have hk := hkd
    clear hkd
    subst hk
    have d0 : W.cell? ⟨w.heap.size, 0, none⟩ = some (.int .i64 3) := HX.out.cell 0 (by rw [List.getElem?_toArray]; exact C0.out)
    have HR := Lib.hid (show res = ((onlyV false false true false true false false tn op ext fr (sn + mn) (pn + an) en) && (decide (0 < sn) && (fewOk (fun i => lowd (sf i)) sn && (fewOk (fun i => lowd (mf i)) mn && (ext || decide (mn = 0)))))) from HRES.out.trans (shV_D HD.out HK.out))
    have HO := Lib.hid (show Calls Tryz.prog 67 #[.agg cs.toArray, .bool false, .bool false, .bool true, .bool false, .bool true, .bool false, .bool false] W fun e w' => e = .returned (.bool (onlyV false false true false true false false tn op ext fr (sn + mn) (pn + an) en)) ∧ Below W.heap.size W w' from only_D cs op tn fr ext sa ma pa aa ea sn sc mn mc pn pc an ac en ec W C1.out C2.out C8.out C9.out C10.out C11.out C12.out C13.out C14.out H4.out H5.out)
    obtain ⟨o, ho⟩ : ∃ o, onlyV false false true false true false false tn op ext fr (sn + mn) (pn + an) en = o := ⟨_, rfl⟩
    rw [ho] at HO HR
    clear ho
    clear HRES HREF
    go_wp2_with (first | (refine wpList_load_mid rfl 39 (.tmp 2) rfl w.heap.size 0 rfl cs _ HX.out.range Tryz.underlying39 rfl (by rw [info_T, HL.out]) ?_) | fail)
    refine HO.out.mono ?_
    rintro e W' ⟨rfl, hb⟩
    have HBn := Lib.hid (HB.out.trans (hb.mono HB.out.size))
    have HXn := Lib.hid (HX.out.below hb HX.out.lt)
    clear d0
    clear hb HB HX
    have HB := HBn
    have HX := HXn
    clear HBn HXn
    obtain ⟨W, rfl⟩ : ∃ W, W = W' := ⟨_, rfl⟩
    clear HO
    cases o with
    | false =>
      obtain rfl : res = false := by rw [HR.out]; simp
      go_wp2_with fail
      go_ret
      exact ⟨rfl, HB.out⟩
    | true =>
      have d10 : W.cell? ⟨w.heap.size, 10, none⟩ = some (.slice sa sn sc) := HX.out.cell 10 (by rw [List.getElem?_toArray]; exact C10.out)
      by_cases hs0 : 0 < sn
      rotate_left
      · have q1 : decide ((0 : Int) < (sn : Int)) = false := decide_eq_false (by omega)
        have q1n : decide (0 < sn) = false := decide_eq_false hs0
        rw [q1n] at HR
        obtain rfl : res = false := by rw [HR.out]; simp
        go_wp2_with fail
        go_ret
        exact ⟨rfl, HB.out⟩
      have q1 : decide ((0 : Int) < (sn : Int)) = true := decide_eq_true (by omega)
      have q1n : decide (0 < sn) = true := decide_eq_true hs0
      have HN := Lib.hid (rnames_ok W.heap.size W sa sn sc sf (Nat.le_refl _) (HNM.out W HB.out))
      obtain ⟨y, hy⟩ : ∃ y, fewOk (fun i => lowd (sf i)) sn = y := ⟨_, rfl⟩
      rw [hy] at HN HR
      rw [q1n] at HR
      clear hy hs0
      go_wp2_with fail
      refine HN.out.mono ?_
      rintro e W' ⟨rfl, hb⟩
      have HBn := Lib.hid (HB.out.trans (hb.mono HB.out.size))
      have HXn := Lib.hid (HX.out.below hb HX.out.lt)
      clear d10
      clear hb HB HX
      have HB := HBn
      have HX := HXn
      clear HBn HXn
      obtain ⟨W, rfl⟩ : ∃ W, W = W' := ⟨_, rfl⟩
      clear HN q1 q1n
      cases y with
      | false =>
        obtain rfl : res = false := by rw [HR.out]; simp
        go_wp2_with fail
        go_ret
        exact ⟨rfl, HB.out⟩
      | true =>
        have d11 : W.cell? ⟨w.heap.size, 11, none⟩ = some (.slice ma mn mc) := HX.out.cell 11 (by rw [List.getElem?_toArray]; exact C11.out)
        have HN := Lib.hid (rnames_ok W.heap.size W ma mn mc mf (Nat.le_refl _) (HMO.out W HB.out))
        obtain ⟨y, hy⟩ : ∃ y, fewOk (fun i => lowd (mf i)) mn = y := ⟨_, rfl⟩
        rw [hy] at HN HR
        clear hy
        go_wp2_with fail
        refine HN.out.mono ?_
        rintro e W' ⟨rfl, hb⟩
        have HBn := Lib.hid (HB.out.trans (hb.mono HB.out.size))
        have HXn := Lib.hid (HX.out.below hb HX.out.lt)
        clear d11
        clear hb HB HX
        have HB := HBn
        have HX := HXn
        clear HBn HXn
        obtain ⟨W, rfl⟩ : ∃ W, W = W' := ⟨_, rfl⟩
        clear HN
        cases y with
        | false =>
          obtain rfl : res = false := by rw [HR.out]; simp
          go_wp2_with fail
          go_ret
          exact ⟨rfl, HB.out⟩
        | true =>
          have d8 : W.cell? ⟨w.heap.size, 8, none⟩ = some (.bool ext) := HX.out.cell 8 (by rw [List.getElem?_toArray]; exact C8.out)
          have d11 : W.cell? ⟨w.heap.size, 11, none⟩ = some (.slice ma mn mc) := HX.out.cell 11 (by rw [List.getElem?_toArray]; exact C11.out)
          cases ext with
          | true =>
            obtain rfl : res = true := by rw [HR.out]; simp
            go_wp2_with fail
            go_ret
            exact ⟨rfl, HB.out⟩
          | false =>
            obtain ⟨y, hy⟩ : ∃ y, decide (mn = 0) = y := ⟨_, rfl⟩
            have p0 : ((mn : Int) == 0) = y := by rw [← hy]; by_cases e : mn = 0 <;> simp [e]
            rw [hy] at HR
            obtain rfl : res = y := HR.out.trans (by simp)
            clear hy
            go_wp2_with fail
            go_ret
            exact ⟨rfl, HB.out⟩
end Go.Proofs.YtgmnojnalkhepaaGreatDoor

/-
  The document's whether a type is shaped: 'shaped', by kinds.
-/
namespace Go.Proofs.YtgmnojnalkhepaaGreatDoor
open Go.RowKit
set_option linter.unusedVariables false
set_option linter.unusedSimpArgs false
set_option maxRecDepth 100000

set_option maxHeartbeats 16000000 in
theorem rshaped_E (kd op lo hi : Int) (tn fr : ByteArray) (lw hg ext : Bool) (ca sa ma pa aa ea : Option Addr) (cn cc sn sc mn mc pn pc an ac en ec : Nat) (cch : Nat → CT) (sf mf : Nat → ByteArray) (pf af : Nat → PD) (ptf atf etf : Nat → TT) (B d : Nat) (w : World)
    (hin : TIn B w (TT.mk kd tn (.mk op lo hi lw hg ca cn cc cch) ext fr ⟨sa, sn, sc, sf⟩ ⟨ma, mn, mc, mf⟩ ⟨pa, pn, pc, pf⟩ ptf ⟨aa, an, ac, af⟩ atf ea en ec etf)) (hB : B ≤ w.heap.size) (hd : d ≤ 40)
    (RP : ∀ i, i < pn → ∀ w' : World, Below w.heap.size w w' → Calls Tryz.prog 35 #[.agg (ptf i).cells.toArray, .int .i64 (d + 1 : Nat)] w' fun e w'' => e = .returned (.bool (shV (d + 1) (ptf i))) ∧ Below w'.heap.size w' w'')
    (RA : ∀ i, i < an → ∀ w' : World, Below w.heap.size w w' → Calls Tryz.prog 35 #[.agg (atf i).cells.toArray, .int .i64 (d + 1 : Nat)] w' fun e w'' => e = .returned (.bool (shV (d + 1) (atf i))) ∧ Below w'.heap.size w' w'')
    (RE : ∀ i, i < en → ∀ w' : World, Below w.heap.size w w' → Calls Tryz.prog 35 #[.agg (etf i).cells.toArray, .int .i64 (d + 1 : Nat)] w' fun e w'' => e = .returned (.bool (shV (d + 1) (etf i))) ∧ Below w'.heap.size w' w'')
    (hkd : kd = 8) :
    Calls Tryz.prog 35 #[.agg (TT.mk kd tn (.mk op lo hi lw hg ca cn cc cch) ext fr ⟨sa, sn, sc, sf⟩ ⟨ma, mn, mc, mf⟩ ⟨pa, pn, pc, pf⟩ ptf ⟨aa, an, ac, af⟩ atf ea en ec etf).cells.toArray, .int .i64 (d : Nat)] w fun e w' => e = .returned (.bool (shV d (TT.mk kd tn (.mk op lo hi lw hg ca cn cc cch) ext fr ⟨sa, sn, sc, sf⟩ ⟨ma, mn, mc, mf⟩ ⟨pa, pn, pc, pf⟩ ptf ⟨aa, an, ac, af⟩ atf ea en ec etf))) ∧ Below w.heap.size w w' := by
  have HIN := Lib.hid (fun (W : World) (hb : Below w.heap.size w W) => (hin.below (hb.mono hB) (Nat.le_refl _)).below (Below.refl _ _) (Nat.le_trans hB hb.size))
  have hl := (one_tcells hin).1
  obtain ⟨⟨_, htn, hcon, hfr, hnm, hmo⟩, ⟨hpr, hp⟩, ⟨har, ha⟩, ⟨her, he⟩⟩ := hin
  obtain ⟨res, hres⟩ : ∃ res, shV d (TT.mk kd tn (.mk op lo hi lw hg ca cn cc cch) ext fr ⟨sa, sn, sc, sf⟩ ⟨ma, mn, mc, mf⟩ ⟨pa, pn, pc, pf⟩ ptf ⟨aa, an, ac, af⟩ atf ea en ec etf) = res := ⟨_, rfl⟩
  rw [hres]
  have HRES := Lib.hid hres.symm
  obtain ⟨cs, hcs⟩ : ∃ cs, (TT.mk kd tn (.mk op lo hi lw hg ca cn cc cch) ext fr ⟨sa, sn, sc, sf⟩ ⟨ma, mn, mc, mf⟩ ⟨pa, pn, pc, pf⟩ ptf ⟨aa, an, ac, af⟩ atf ea en ec etf).cells = cs := ⟨_, rfl⟩
  have HCS := Lib.hid hcs
  have C0 := Lib.hid (show cs[0]? = some (.int .i64 kd) by rw [← hcs]; rfl)
  have C1 := Lib.hid (show cs[1]? = some (.string tn) by rw [← hcs]; rfl)
  have C2 := Lib.hid (show cs[2]? = some (.int .i64 op) by rw [← hcs]; rfl)
  have C8 := Lib.hid (show cs[8]? = some (.bool ext) by rw [← hcs]; rfl)
  have C9 := Lib.hid (show cs[9]? = some (.string fr) by rw [← hcs]; rfl)
  have C10 := Lib.hid (show cs[10]? = some (.slice sa sn sc) by rw [← hcs]; rfl)
  have C11 := Lib.hid (show cs[11]? = some (.slice ma mn mc) by rw [← hcs]; rfl)
  have C12 := Lib.hid (show cs[12]? = some (.slice pa pn pc) by rw [← hcs]; rfl)
  have C13 := Lib.hid (show cs[13]? = some (.slice aa an ac) by rw [← hcs]; rfl)
  have C14 := Lib.hid (show cs[14]? = some (.slice ea en ec) by rw [← hcs]; rfl)
  rw [hcs]
  have HL := Lib.hid (show cs.length = 15 by rw [← hcs]; exact hl)
  have HX := Lib.hid (Bx.new w cs.toArray 39)
  have HB := Lib.hid ((Below.refl w.heap.size w).alloc (Nat.le_refl _) (.cells cs.toArray 39))
  have HRC := Lib.hid (show (w.alloc (.cells cs.toArray 39)).rangeAt w.heap.size 2 (CT.mk op lo hi lw hg ca cn cc cch).cells from range_con (c := .mk op lo hi lw hg ca cn cc cch) (HIN.out w (Below.refl _ _)) (by intro _ _ _ _ _ _ _ _ _ _ _ _ _ _ _ e; cases e; rfl) (by rw [hcs]; exact HX.out))
  have HC := Lib.hid (rCon_ok (.mk op lo hi lw hg ca cn cc cch) B (w.alloc (.cells cs.toArray 39)) (hcon.below (HB.out.mono hB) (Nat.le_refl _)) (Nat.le_trans hB HB.out.size))
  obtain ⟨k, hk0⟩ : ∃ k, (CT.mk op lo hi lw hg ca cn cc cch).ok 40 = k := ⟨_, rfl⟩
  rw [hk0] at HC
  have HK0 := Lib.hid hk0
  have HSZ := Lib.hid (fun (hk : (CT.mk op lo hi lw hg ca cn cc cch).ok 40 = true) (W : World) (hb : Below w.heap.size w W) => show Calls Tryz.prog 68 #[.agg cs.toArray] W fun e w' => e = .returned (.bool (!(ext && decide (op = 0)))) ∧ Below W.heap.size W w' by
    have h := rsized_ok (TT.mk kd tn (.mk op lo hi lw hg ca cn cc cch) ext fr ⟨sa, sn, sc, sf⟩ ⟨ma, mn, mc, mf⟩ ⟨pa, pn, pc, pf⟩ ptf ⟨aa, an, ac, af⟩ atf ea en ec etf) (.mk op lo hi lw hg ca cn cc cch) ext W.heap.size W (HIN.out W hb) (Nat.le_refl _) (by intro _ _ _ _ _ _ _ _ _ _ _ _ _ _ _ e; cases e; rfl) rfl rfl
    rw [hk, Bool.true_and, hcs] at h
    exact h)
  have H4 := Lib.hid (show sn + mn ≤ 1000000000000000 by have h1 : sn ≤ sc := hnm.1.1; have h2 : sc ≤ 140737488355328 := hnm.1.2.1; have h3 : mn ≤ mc := hmo.1.1; have h4 : mc ≤ 140737488355328 := hmo.1.2.1; omega)
  have H5 := Lib.hid (show pn + an ≤ 1000000000000000 by have h1 : pn ≤ pc := hpr.1; have h2 : pc ≤ 140737488355328 := hpr.2.1; have h3 : an ≤ ac := har.1; have h4 : ac ≤ 140737488355328 := har.2.1; omega)
  have HNM := Lib.hid (fun (W : World) (hb : Below w.heap.size w W) => show SLIn W.heap.size W ⟨sa, sn, sc, sf⟩ from (hnm.below (hb.mono hB) (Nat.le_refl _)).below (Below.refl _ _) (Nat.le_trans hB hb.size))
  have HMO := Lib.hid (fun (W : World) (hb : Below w.heap.size w W) => show SLIn W.heap.size W ⟨ma, mn, mc, mf⟩ from (hmo.below (hb.mono hB) (Nat.le_refl _)).below (Below.refl _ _) (Nat.le_trans hB hb.size))
  have HPA := Lib.hid (fun (ch : Bool) (W : World) (hb : Below w.heap.size w W) => rparts_ok B W pa pn pc pf ptf ch (d + 1 : Nat) (fun i => shV (d + 1) (ptf i)) (Nat.le_trans hB hb.size) (hpr.below (hb.mono hB) (Nat.le_refl _)) (fun i hi => ⟨(hp i hi).1.below (hb.mono hB) (Nat.le_refl _), (hp i hi).2.below (hb.mono hB) (Nat.le_refl _)⟩) (fun i hi w' hb' => RP i hi w' (hb.trans (hb'.mono hb.size))))
  have HAA := Lib.hid (fun (ch : Bool) (W : World) (hb : Below w.heap.size w W) => rparts_ok B W aa an ac af atf ch (d + 1 : Nat) (fun i => shV (d + 1) (atf i)) (Nat.le_trans hB hb.size) (har.below (hb.mono hB) (Nat.le_refl _)) (fun i hi => ⟨(ha i hi).1.below (hb.mono hB) (Nat.le_refl _), (ha i hi).2.below (hb.mono hB) (Nat.le_refl _)⟩) (fun i hi w' hb' => RA i hi w' (hb.trans (hb'.mono hb.size))))
  have HEREC := Lib.hid RE
  have HE := Lib.hid he
  have HER := Lib.hid her
  have HBB := Lib.hid hB
  have HD := Lib.hid hd
  have HFR := Lib.hid hfr
  have HTN := Lib.hid htn
  obtain ⟨D, hD⟩ : ∃ D : Int, ((d : Nat) : Int) = D := ⟨_, rfl⟩
  obtain ⟨D1, hD1⟩ : ∃ D : Int, ((d + 1 : Nat) : Int) = D := ⟨_, rfl⟩
  rw [hD]
  rw [hD1] at HPA HAA HEREC
  have q40 : decide ((40 : Int) < D) = false := decide_eq_false (by omega)
  have qD : IntKind.i64.wrap (D + 1) = D1 := (wrap_ok (x := D + 1) (by unfold I64; omega)).trans (by omega)
  have HLC := Lib.hid (show (CT.mk op lo hi lw hg ca cn cc cch).cells.length = 6 from rfl)
  clear RP RA RE hcon hnm hmo hpr hp har ha her he hB hd hfr htn hl hcs hres hk0 hD hD1
  go_enter Tryz.func35, Tryz.ntmps35
  go_wp2_with (first | (refine wpList_load_midG (by rfl) 34 (.tmp 9) rfl w.heap.size 2 rfl (CT.mk op lo hi lw hg ca cn cc cch).cells _ HRC.out Tryz.underlying34 rfl (by rw [info_C, HLC.out]) ?_) | fail)
  refine HC.out.mono ?_
  rintro e W' ⟨rfl, hb⟩
  have HBn := Lib.hid (HB.out.trans (hb.mono HB.out.size))
  have HXn := Lib.hid (HX.out.below hb HX.out.lt)
  clear hb HB HX
  have HB := HBn
  have HX := HXn
  clear HBn HXn
  obtain ⟨W, rfl⟩ : ∃ W, W = W' := ⟨_, rfl⟩
  clear HC HRC q40
  cases k with
  | false =>
    obtain rfl : res = false := HRES.out.trans (shV_con HK0.out)
    clear HRES
    go_wp2_with fail
    go_ret
    exact ⟨rfl, HB.out⟩
  | true =>
    have HK := HK0
    have HSZ2 := Lib.hid (HSZ.out HK.out)
    clear HSZ
    have HSZ := HSZ2
    have HREF := Lib.hid trivial
    clear HSZ2 HK0
    have hk := hkd
    clear hkd
    subst hk
    have d0 : W.cell? ⟨w.heap.size, 0, none⟩ = some (.int .i64 8) := HX.out.cell 0 (by rw [List.getElem?_toArray]; exact C0.out)
    have HR := Lib.hid (show res = ((onlyV false false true false false true false tn op ext fr (sn + mn) (pn + an) en) && ((ext || decide (an = 0)) && ((!false || decide (0 < pn)) && (fewOk (fun i => prtOk false (pf i) (shV (d + 1) (ptf i))) pn && fewOk (fun i => prtOk false (af i) (shV (d + 1) (atf i))) an)))) from HRES.out.trans (shV_E false HD.out HK.out))
    have HO := Lib.hid (show Calls Tryz.prog 67 #[.agg cs.toArray, .bool false, .bool false, .bool true, .bool false, .bool false, .bool true, .bool false] W fun e w' => e = .returned (.bool (onlyV false false true false false true false tn op ext fr (sn + mn) (pn + an) en)) ∧ Below W.heap.size W w' from only_E cs op tn fr ext sa ma pa aa ea sn sc mn mc pn pc an ac en ec W C1.out C2.out C8.out C9.out C10.out C11.out C12.out C13.out C14.out H4.out H5.out)
    obtain ⟨o, ho⟩ : ∃ o, onlyV false false true false false true false tn op ext fr (sn + mn) (pn + an) en = o := ⟨_, rfl⟩
    rw [ho] at HO HR
    clear ho
    clear HRES HREF
    go_wp2_with (first | (refine wpList_load_mid rfl 39 (.tmp 2) rfl w.heap.size 0 rfl cs _ HX.out.range Tryz.underlying39 rfl (by rw [info_T, HL.out]) ?_) | fail)
    refine HO.out.mono ?_
    rintro e W' ⟨rfl, hb⟩
    have HBn := Lib.hid (HB.out.trans (hb.mono HB.out.size))
    have HXn := Lib.hid (HX.out.below hb HX.out.lt)
    clear d0
    clear hb HB HX
    have HB := HBn
    have HX := HXn
    clear HBn HXn
    obtain ⟨W, rfl⟩ : ∃ W, W = W' := ⟨_, rfl⟩
    clear HO
    cases o with
    | false =>
      obtain rfl : res = false := by rw [HR.out]; simp
      go_wp2_with fail
      go_ret
      exact ⟨rfl, HB.out⟩
    | true =>
      have d8 : W.cell? ⟨w.heap.size, 8, none⟩ = some (.bool ext) := HX.out.cell 8 (by rw [List.getElem?_toArray]; exact C8.out)
      cases ext with
      | true =>
        have d12 : W.cell? ⟨w.heap.size, 12, none⟩ = some (.slice pa pn pc) := HX.out.cell 12 (by rw [List.getElem?_toArray]; exact C12.out)
        have HN := Lib.hid (HPA.out false W HB.out)
        obtain ⟨y, hy⟩ : ∃ y, fewOk (fun i => prtOk false (pf i) (shV (d + 1) (ptf i))) pn = y := ⟨_, rfl⟩
        rw [hy] at HN HR
        clear hy
        go_wp2_with fail
        refine HN.out.mono ?_
        rintro e W' ⟨rfl, hb⟩
        have HBn := Lib.hid (HB.out.trans (hb.mono HB.out.size))
        have HXn := Lib.hid (HX.out.below hb HX.out.lt)
        clear d12
        clear hb HB HX
        have HB := HBn
        have HX := HXn
        clear HBn HXn
        obtain ⟨W, rfl⟩ : ∃ W, W = W' := ⟨_, rfl⟩
        clear HN
        cases y with
        | false =>
          obtain rfl : res = false := by rw [HR.out]; simp
          go_wp2_with fail
          go_ret
          exact ⟨rfl, HB.out⟩
        | true =>
          have d13 : W.cell? ⟨w.heap.size, 13, none⟩ = some (.slice aa an ac) := HX.out.cell 13 (by rw [List.getElem?_toArray]; exact C13.out)
          have HN := Lib.hid (HAA.out false W HB.out)
          obtain ⟨y, hy⟩ : ∃ y, fewOk (fun i => prtOk false (af i) (shV (d + 1) (atf i))) an = y := ⟨_, rfl⟩
          rw [hy] at HN HR
          clear hy
          obtain rfl : res = y := HR.out.trans (by simp)
          go_wp2_with fail
          refine HN.out.mono ?_
          rintro e W' ⟨rfl, hb⟩
          have HBn := Lib.hid (HB.out.trans (hb.mono HB.out.size))
          have HXn := Lib.hid (HX.out.below hb HX.out.lt)
          clear d13
          clear hb HB HX
          have HB := HBn
          have HX := HXn
          clear HBn HXn
          obtain ⟨W, rfl⟩ : ∃ W, W = W' := ⟨_, rfl⟩
          go_wp2_with fail
          go_ret
          exact ⟨rfl, HB.out⟩
      | false =>
        have d13 : W.cell? ⟨w.heap.size, 13, none⟩ = some (.slice aa an ac) := HX.out.cell 13 (by rw [List.getElem?_toArray]; exact C13.out)
        by_cases ha0 : an = 0
        · subst ha0
          have d12 : W.cell? ⟨w.heap.size, 12, none⟩ = some (.slice pa pn pc) := HX.out.cell 12 (by rw [List.getElem?_toArray]; exact C12.out)
          have HN := Lib.hid (HPA.out false W HB.out)
          obtain ⟨y, hy⟩ : ∃ y, fewOk (fun i => prtOk false (pf i) (shV (d + 1) (ptf i))) pn = y := ⟨_, rfl⟩
          rw [hy] at HN HR
          clear hy
          go_wp2_with fail
          refine HN.out.mono ?_
          rintro e W' ⟨rfl, hb⟩
          have HBn := Lib.hid (HB.out.trans (hb.mono HB.out.size))
          have HXn := Lib.hid (HX.out.below hb HX.out.lt)
          clear d12
          clear hb HB HX
          have HB := HBn
          have HX := HXn
          clear HBn HXn
          obtain ⟨W, rfl⟩ : ∃ W, W = W' := ⟨_, rfl⟩
          clear HN
          cases y with
          | false =>
            obtain rfl : res = false := by rw [HR.out]; simp
            go_wp2_with fail
            go_ret
            exact ⟨rfl, HB.out⟩
          | true =>
            have d13 : W.cell? ⟨w.heap.size, 13, none⟩ = some (.slice aa 0 ac) := HX.out.cell 13 (by rw [List.getElem?_toArray]; exact C13.out)
            have HN := Lib.hid (HAA.out false W HB.out)
            obtain ⟨y, hy⟩ : ∃ y, fewOk (fun i => prtOk false (af i) (shV (d + 1) (atf i))) 0 = y := ⟨_, rfl⟩
            rw [hy] at HN HR
            clear hy
            obtain rfl : res = y := HR.out.trans (by simp)
            go_wp2_with fail
            refine HN.out.mono ?_
            rintro e W' ⟨rfl, hb⟩
            have HBn := Lib.hid (HB.out.trans (hb.mono HB.out.size))
            have HXn := Lib.hid (HX.out.below hb HX.out.lt)
            clear d13
            clear hb HB HX
            have HB := HBn
            have HX := HXn
            clear HBn HXn
            obtain ⟨W, rfl⟩ : ∃ W, W = W' := ⟨_, rfl⟩
            go_wp2_with fail
            go_ret
            exact ⟨rfl, HB.out⟩
        · have p0 : ((an : Int) == 0) = false := by simpa using ha0
          rw [decide_eq_false ha0] at HR
          obtain rfl : res = false := by rw [HR.out]; simp
          go_wp2_with fail
          go_ret
          exact ⟨rfl, HB.out⟩
end Go.Proofs.YtgmnojnalkhepaaGreatDoor

/-
  The document's whether a type is shaped: 'shaped', by kinds.
-/
namespace Go.Proofs.YtgmnojnalkhepaaGreatDoor
open Go.RowKit
set_option linter.unusedVariables false
set_option linter.unusedSimpArgs false
set_option maxRecDepth 100000

set_option maxHeartbeats 16000000 in
theorem rshaped_F (kd op lo hi : Int) (tn fr : ByteArray) (lw hg ext : Bool) (ca sa ma pa aa ea : Option Addr) (cn cc sn sc mn mc pn pc an ac en ec : Nat) (cch : Nat → CT) (sf mf : Nat → ByteArray) (pf af : Nat → PD) (ptf atf etf : Nat → TT) (B d : Nat) (w : World)
    (hin : TIn B w (TT.mk kd tn (.mk op lo hi lw hg ca cn cc cch) ext fr ⟨sa, sn, sc, sf⟩ ⟨ma, mn, mc, mf⟩ ⟨pa, pn, pc, pf⟩ ptf ⟨aa, an, ac, af⟩ atf ea en ec etf)) (hB : B ≤ w.heap.size) (hd : d ≤ 40)
    (RP : ∀ i, i < pn → ∀ w' : World, Below w.heap.size w w' → Calls Tryz.prog 35 #[.agg (ptf i).cells.toArray, .int .i64 (d + 1 : Nat)] w' fun e w'' => e = .returned (.bool (shV (d + 1) (ptf i))) ∧ Below w'.heap.size w' w'')
    (RA : ∀ i, i < an → ∀ w' : World, Below w.heap.size w w' → Calls Tryz.prog 35 #[.agg (atf i).cells.toArray, .int .i64 (d + 1 : Nat)] w' fun e w'' => e = .returned (.bool (shV (d + 1) (atf i))) ∧ Below w'.heap.size w' w'')
    (RE : ∀ i, i < en → ∀ w' : World, Below w.heap.size w w' → Calls Tryz.prog 35 #[.agg (etf i).cells.toArray, .int .i64 (d + 1 : Nat)] w' fun e w'' => e = .returned (.bool (shV (d + 1) (etf i))) ∧ Below w'.heap.size w' w'')
    (hkd : kd = 9) :
    Calls Tryz.prog 35 #[.agg (TT.mk kd tn (.mk op lo hi lw hg ca cn cc cch) ext fr ⟨sa, sn, sc, sf⟩ ⟨ma, mn, mc, mf⟩ ⟨pa, pn, pc, pf⟩ ptf ⟨aa, an, ac, af⟩ atf ea en ec etf).cells.toArray, .int .i64 (d : Nat)] w fun e w' => e = .returned (.bool (shV d (TT.mk kd tn (.mk op lo hi lw hg ca cn cc cch) ext fr ⟨sa, sn, sc, sf⟩ ⟨ma, mn, mc, mf⟩ ⟨pa, pn, pc, pf⟩ ptf ⟨aa, an, ac, af⟩ atf ea en ec etf))) ∧ Below w.heap.size w w' := by
  have HIN := Lib.hid (fun (W : World) (hb : Below w.heap.size w W) => (hin.below (hb.mono hB) (Nat.le_refl _)).below (Below.refl _ _) (Nat.le_trans hB hb.size))
  have hl := (one_tcells hin).1
  obtain ⟨⟨_, htn, hcon, hfr, hnm, hmo⟩, ⟨hpr, hp⟩, ⟨har, ha⟩, ⟨her, he⟩⟩ := hin
  obtain ⟨res, hres⟩ : ∃ res, shV d (TT.mk kd tn (.mk op lo hi lw hg ca cn cc cch) ext fr ⟨sa, sn, sc, sf⟩ ⟨ma, mn, mc, mf⟩ ⟨pa, pn, pc, pf⟩ ptf ⟨aa, an, ac, af⟩ atf ea en ec etf) = res := ⟨_, rfl⟩
  rw [hres]
  have HRES := Lib.hid hres.symm
  obtain ⟨cs, hcs⟩ : ∃ cs, (TT.mk kd tn (.mk op lo hi lw hg ca cn cc cch) ext fr ⟨sa, sn, sc, sf⟩ ⟨ma, mn, mc, mf⟩ ⟨pa, pn, pc, pf⟩ ptf ⟨aa, an, ac, af⟩ atf ea en ec etf).cells = cs := ⟨_, rfl⟩
  have HCS := Lib.hid hcs
  have C0 := Lib.hid (show cs[0]? = some (.int .i64 kd) by rw [← hcs]; rfl)
  have C1 := Lib.hid (show cs[1]? = some (.string tn) by rw [← hcs]; rfl)
  have C2 := Lib.hid (show cs[2]? = some (.int .i64 op) by rw [← hcs]; rfl)
  have C8 := Lib.hid (show cs[8]? = some (.bool ext) by rw [← hcs]; rfl)
  have C9 := Lib.hid (show cs[9]? = some (.string fr) by rw [← hcs]; rfl)
  have C10 := Lib.hid (show cs[10]? = some (.slice sa sn sc) by rw [← hcs]; rfl)
  have C11 := Lib.hid (show cs[11]? = some (.slice ma mn mc) by rw [← hcs]; rfl)
  have C12 := Lib.hid (show cs[12]? = some (.slice pa pn pc) by rw [← hcs]; rfl)
  have C13 := Lib.hid (show cs[13]? = some (.slice aa an ac) by rw [← hcs]; rfl)
  have C14 := Lib.hid (show cs[14]? = some (.slice ea en ec) by rw [← hcs]; rfl)
  rw [hcs]
  have HL := Lib.hid (show cs.length = 15 by rw [← hcs]; exact hl)
  have HX := Lib.hid (Bx.new w cs.toArray 39)
  have HB := Lib.hid ((Below.refl w.heap.size w).alloc (Nat.le_refl _) (.cells cs.toArray 39))
  have HRC := Lib.hid (show (w.alloc (.cells cs.toArray 39)).rangeAt w.heap.size 2 (CT.mk op lo hi lw hg ca cn cc cch).cells from range_con (c := .mk op lo hi lw hg ca cn cc cch) (HIN.out w (Below.refl _ _)) (by intro _ _ _ _ _ _ _ _ _ _ _ _ _ _ _ e; cases e; rfl) (by rw [hcs]; exact HX.out))
  have HC := Lib.hid (rCon_ok (.mk op lo hi lw hg ca cn cc cch) B (w.alloc (.cells cs.toArray 39)) (hcon.below (HB.out.mono hB) (Nat.le_refl _)) (Nat.le_trans hB HB.out.size))
  obtain ⟨k, hk0⟩ : ∃ k, (CT.mk op lo hi lw hg ca cn cc cch).ok 40 = k := ⟨_, rfl⟩
  rw [hk0] at HC
  have HK0 := Lib.hid hk0
  have HSZ := Lib.hid (fun (hk : (CT.mk op lo hi lw hg ca cn cc cch).ok 40 = true) (W : World) (hb : Below w.heap.size w W) => show Calls Tryz.prog 68 #[.agg cs.toArray] W fun e w' => e = .returned (.bool (!(ext && decide (op = 0)))) ∧ Below W.heap.size W w' by
    have h := rsized_ok (TT.mk kd tn (.mk op lo hi lw hg ca cn cc cch) ext fr ⟨sa, sn, sc, sf⟩ ⟨ma, mn, mc, mf⟩ ⟨pa, pn, pc, pf⟩ ptf ⟨aa, an, ac, af⟩ atf ea en ec etf) (.mk op lo hi lw hg ca cn cc cch) ext W.heap.size W (HIN.out W hb) (Nat.le_refl _) (by intro _ _ _ _ _ _ _ _ _ _ _ _ _ _ _ e; cases e; rfl) rfl rfl
    rw [hk, Bool.true_and, hcs] at h
    exact h)
  have H4 := Lib.hid (show sn + mn ≤ 1000000000000000 by have h1 : sn ≤ sc := hnm.1.1; have h2 : sc ≤ 140737488355328 := hnm.1.2.1; have h3 : mn ≤ mc := hmo.1.1; have h4 : mc ≤ 140737488355328 := hmo.1.2.1; omega)
  have H5 := Lib.hid (show pn + an ≤ 1000000000000000 by have h1 : pn ≤ pc := hpr.1; have h2 : pc ≤ 140737488355328 := hpr.2.1; have h3 : an ≤ ac := har.1; have h4 : ac ≤ 140737488355328 := har.2.1; omega)
  have HNM := Lib.hid (fun (W : World) (hb : Below w.heap.size w W) => show SLIn W.heap.size W ⟨sa, sn, sc, sf⟩ from (hnm.below (hb.mono hB) (Nat.le_refl _)).below (Below.refl _ _) (Nat.le_trans hB hb.size))
  have HMO := Lib.hid (fun (W : World) (hb : Below w.heap.size w W) => show SLIn W.heap.size W ⟨ma, mn, mc, mf⟩ from (hmo.below (hb.mono hB) (Nat.le_refl _)).below (Below.refl _ _) (Nat.le_trans hB hb.size))
  have HPA := Lib.hid (fun (ch : Bool) (W : World) (hb : Below w.heap.size w W) => rparts_ok B W pa pn pc pf ptf ch (d + 1 : Nat) (fun i => shV (d + 1) (ptf i)) (Nat.le_trans hB hb.size) (hpr.below (hb.mono hB) (Nat.le_refl _)) (fun i hi => ⟨(hp i hi).1.below (hb.mono hB) (Nat.le_refl _), (hp i hi).2.below (hb.mono hB) (Nat.le_refl _)⟩) (fun i hi w' hb' => RP i hi w' (hb.trans (hb'.mono hb.size))))
  have HAA := Lib.hid (fun (ch : Bool) (W : World) (hb : Below w.heap.size w W) => rparts_ok B W aa an ac af atf ch (d + 1 : Nat) (fun i => shV (d + 1) (atf i)) (Nat.le_trans hB hb.size) (har.below (hb.mono hB) (Nat.le_refl _)) (fun i hi => ⟨(ha i hi).1.below (hb.mono hB) (Nat.le_refl _), (ha i hi).2.below (hb.mono hB) (Nat.le_refl _)⟩) (fun i hi w' hb' => RA i hi w' (hb.trans (hb'.mono hb.size))))
  have HEREC := Lib.hid RE
  have HE := Lib.hid he
  have HER := Lib.hid her
  have HBB := Lib.hid hB
  have HD := Lib.hid hd
  have HFR := Lib.hid hfr
  have HTN := Lib.hid htn
  obtain ⟨D, hD⟩ : ∃ D : Int, ((d : Nat) : Int) = D := ⟨_, rfl⟩
  obtain ⟨D1, hD1⟩ : ∃ D : Int, ((d + 1 : Nat) : Int) = D := ⟨_, rfl⟩
  rw [hD]
  rw [hD1] at HPA HAA HEREC
  have q40 : decide ((40 : Int) < D) = false := decide_eq_false (by omega)
  have qD : IntKind.i64.wrap (D + 1) = D1 := (wrap_ok (x := D + 1) (by unfold I64; omega)).trans (by omega)
  have HLC := Lib.hid (show (CT.mk op lo hi lw hg ca cn cc cch).cells.length = 6 from rfl)
  clear RP RA RE hcon hnm hmo hpr hp har ha her he hB hd hfr htn hl hcs hres hk0 hD hD1
  go_enter Tryz.func35, Tryz.ntmps35
  go_wp2_with (first | (refine wpList_load_midG (by rfl) 34 (.tmp 9) rfl w.heap.size 2 rfl (CT.mk op lo hi lw hg ca cn cc cch).cells _ HRC.out Tryz.underlying34 rfl (by rw [info_C, HLC.out]) ?_) | fail)
  refine HC.out.mono ?_
  rintro e W' ⟨rfl, hb⟩
  have HBn := Lib.hid (HB.out.trans (hb.mono HB.out.size))
  have HXn := Lib.hid (HX.out.below hb HX.out.lt)
  clear hb HB HX
  have HB := HBn
  have HX := HXn
  clear HBn HXn
  obtain ⟨W, rfl⟩ : ∃ W, W = W' := ⟨_, rfl⟩
  clear HC HRC q40
  cases k with
  | false =>
    obtain rfl : res = false := HRES.out.trans (shV_con HK0.out)
    clear HRES
    go_wp2_with fail
    go_ret
    exact ⟨rfl, HB.out⟩
  | true =>
    have HK := HK0
    have HSZ2 := Lib.hid (HSZ.out HK.out)
    clear HSZ
    have HSZ := HSZ2
    have HREF := Lib.hid trivial
    clear HSZ2 HK0
    have hk := hkd
    clear hkd
    subst hk
    have d0 : W.cell? ⟨w.heap.size, 0, none⟩ = some (.int .i64 9) := HX.out.cell 0 (by rw [List.getElem?_toArray]; exact C0.out)
    have HR := Lib.hid (show res = ((onlyV false true true false false false true tn op ext fr (sn + mn) (pn + an) en) && (!(ext && decide (op = 0)) && (decide (en = 1) && shV (d + 1) (etf 0)))) from HRES.out.trans (shV_F HD.out HK.out))
    have HO := Lib.hid (show Calls Tryz.prog 67 #[.agg cs.toArray, .bool false, .bool true, .bool true, .bool false, .bool false, .bool false, .bool true] W fun e w' => e = .returned (.bool (onlyV false true true false false false true tn op ext fr (sn + mn) (pn + an) en)) ∧ Below W.heap.size W w' from only_F cs op tn fr ext sa ma pa aa ea sn sc mn mc pn pc an ac en ec W C1.out C2.out C8.out C9.out C10.out C11.out C12.out C13.out C14.out H4.out H5.out)
    obtain ⟨o, ho⟩ : ∃ o, onlyV false true true false false false true tn op ext fr (sn + mn) (pn + an) en = o := ⟨_, rfl⟩
    rw [ho] at HO HR
    clear ho
    clear HRES HREF
    go_wp2_with (first | (refine wpList_load_mid rfl 39 (.tmp 2) rfl w.heap.size 0 rfl cs _ HX.out.range Tryz.underlying39 rfl (by rw [info_T, HL.out]) ?_) | fail)
    refine HO.out.mono ?_
    rintro e W' ⟨rfl, hb⟩
    have HBn := Lib.hid (HB.out.trans (hb.mono HB.out.size))
    have HXn := Lib.hid (HX.out.below hb HX.out.lt)
    clear d0
    clear hb HB HX
    have HB := HBn
    have HX := HXn
    clear HBn HXn
    obtain ⟨W, rfl⟩ : ∃ W, W = W' := ⟨_, rfl⟩
    clear HO
    cases o with
    | false =>
      obtain rfl : res = false := by rw [HR.out]; simp
      go_wp2_with fail
      go_ret
      exact ⟨rfl, HB.out⟩
    | true =>
      obtain ⟨z, hz⟩ : ∃ z, (!(ext && decide (op = 0))) = z := ⟨_, rfl⟩
      have HS := Lib.hid (HSZ.out W HB.out)
      rw [hz] at HS HR
      clear hz
      go_wp2_with (first | (refine wpList_load_midG (by rfl) 39 (.tmp 2) rfl w.heap.size 0 rfl cs _ HX.out.range Tryz.underlying39 rfl (by rw [info_T, HL.out]) ?_) | fail)
      refine HS.out.mono ?_
      rintro e W' ⟨rfl, hb⟩
      have HBn := Lib.hid (HB.out.trans (hb.mono HB.out.size))
      have HXn := Lib.hid (HX.out.below hb HX.out.lt)
      clear hb HB HX
      have HB := HBn
      have HX := HXn
      clear HBn HXn
      obtain ⟨W, rfl⟩ : ∃ W, W = W' := ⟨_, rfl⟩
      clear HS
      cases z with
      | false =>
        obtain rfl : res = false := by rw [HR.out]; simp
        go_wp2_with fail
        go_ret
        exact ⟨rfl, HB.out⟩
      | true =>
        have d14 : W.cell? ⟨w.heap.size, 14, none⟩ = some (.slice ea en ec) := HX.out.cell 14 (by rw [List.getElem?_toArray]; exact C14.out)
        by_cases he1 : en = 1
        rotate_left
        · have p0 : ((en : Int) == 1) = false := by simpa using (show ¬ (en : Int) = 1 by omega)
          rw [decide_eq_false he1] at HR
          obtain rfl : res = false := by rw [HR.out]; simp
          go_wp2_with fail
          go_ret
          exact ⟨rfl, HB.out⟩
        subst he1
        obtain ⟨gy, oy, rfl, hgy, hry⟩ := HER.out.2.2.2 (by omega)
        have HRV : Hid (W.rangeAt gy oy (etf 0).cells) := Lib.hid (fun j u hj => by
          have h := hry 0 (by omega) j u hj
          rw [Nat.zero_mul, Nat.add_zero] at h
          exact (World.cell?_of_block (w := w) (a := ⟨gy, oy + j, none⟩) (HB.out.block gy (Nat.lt_of_lt_of_le hgy HBB.out))).trans h)
        have HLE := Lib.hid (one_tcells (HE.out 0 (by omega)))
        have HN := Lib.hid (HEREC.out 0 (by omega) W HB.out)
        obtain ⟨y, hy⟩ : ∃ y, shV (d + 1) (etf 0) = y := ⟨_, rfl⟩
        rw [hy] at HN HR
        obtain rfl : res = y := HR.out.trans (by simp)
        clear hy hry
        go_wp2_with (first | (refine wpList_load_midG (by rfl) 39 (.tmp 135) rfl gy oy rfl (etf 0).cells _ HRV.out Tryz.underlying39 rfl (by rw [info_T, HLE.out.1]) ?_) | fail)
        refine HN.out.mono ?_
        rintro e W' ⟨rfl, hb⟩
        have HBn := Lib.hid (HB.out.trans (hb.mono HB.out.size))
        have HXn := Lib.hid (HX.out.below hb HX.out.lt)
        clear d14
        clear hb HB HX
        have HB := HBn
        have HX := HXn
        clear HBn HXn
        obtain ⟨W, rfl⟩ : ∃ W, W = W' := ⟨_, rfl⟩
        go_wp2_with fail
        go_ret
        exact ⟨rfl, HB.out⟩
end Go.Proofs.YtgmnojnalkhepaaGreatDoor

/-
  The document's whether a type is shaped: 'shaped', by kinds.
-/
namespace Go.Proofs.YtgmnojnalkhepaaGreatDoor
open Go.RowKit
set_option linter.unusedVariables false
set_option linter.unusedSimpArgs false
set_option maxRecDepth 100000

set_option maxHeartbeats 16000000 in
theorem rshaped_G (kd op lo hi : Int) (tn fr : ByteArray) (lw hg ext : Bool) (ca sa ma pa aa ea : Option Addr) (cn cc sn sc mn mc pn pc an ac en ec : Nat) (cch : Nat → CT) (sf mf : Nat → ByteArray) (pf af : Nat → PD) (ptf atf etf : Nat → TT) (B d : Nat) (w : World)
    (hin : TIn B w (TT.mk kd tn (.mk op lo hi lw hg ca cn cc cch) ext fr ⟨sa, sn, sc, sf⟩ ⟨ma, mn, mc, mf⟩ ⟨pa, pn, pc, pf⟩ ptf ⟨aa, an, ac, af⟩ atf ea en ec etf)) (hB : B ≤ w.heap.size) (hd : d ≤ 40)
    (RP : ∀ i, i < pn → ∀ w' : World, Below w.heap.size w w' → Calls Tryz.prog 35 #[.agg (ptf i).cells.toArray, .int .i64 (d + 1 : Nat)] w' fun e w'' => e = .returned (.bool (shV (d + 1) (ptf i))) ∧ Below w'.heap.size w' w'')
    (RA : ∀ i, i < an → ∀ w' : World, Below w.heap.size w w' → Calls Tryz.prog 35 #[.agg (atf i).cells.toArray, .int .i64 (d + 1 : Nat)] w' fun e w'' => e = .returned (.bool (shV (d + 1) (atf i))) ∧ Below w'.heap.size w' w'')
    (RE : ∀ i, i < en → ∀ w' : World, Below w.heap.size w w' → Calls Tryz.prog 35 #[.agg (etf i).cells.toArray, .int .i64 (d + 1 : Nat)] w' fun e w'' => e = .returned (.bool (shV (d + 1) (etf i))) ∧ Below w'.heap.size w' w'')
    (hkd : kd = 11) :
    Calls Tryz.prog 35 #[.agg (TT.mk kd tn (.mk op lo hi lw hg ca cn cc cch) ext fr ⟨sa, sn, sc, sf⟩ ⟨ma, mn, mc, mf⟩ ⟨pa, pn, pc, pf⟩ ptf ⟨aa, an, ac, af⟩ atf ea en ec etf).cells.toArray, .int .i64 (d : Nat)] w fun e w' => e = .returned (.bool (shV d (TT.mk kd tn (.mk op lo hi lw hg ca cn cc cch) ext fr ⟨sa, sn, sc, sf⟩ ⟨ma, mn, mc, mf⟩ ⟨pa, pn, pc, pf⟩ ptf ⟨aa, an, ac, af⟩ atf ea en ec etf))) ∧ Below w.heap.size w w' := by
  have HIN := Lib.hid (fun (W : World) (hb : Below w.heap.size w W) => (hin.below (hb.mono hB) (Nat.le_refl _)).below (Below.refl _ _) (Nat.le_trans hB hb.size))
  have hl := (one_tcells hin).1
  obtain ⟨⟨_, htn, hcon, hfr, hnm, hmo⟩, ⟨hpr, hp⟩, ⟨har, ha⟩, ⟨her, he⟩⟩ := hin
  obtain ⟨res, hres⟩ : ∃ res, shV d (TT.mk kd tn (.mk op lo hi lw hg ca cn cc cch) ext fr ⟨sa, sn, sc, sf⟩ ⟨ma, mn, mc, mf⟩ ⟨pa, pn, pc, pf⟩ ptf ⟨aa, an, ac, af⟩ atf ea en ec etf) = res := ⟨_, rfl⟩
  rw [hres]
  have HRES := Lib.hid hres.symm
  obtain ⟨cs, hcs⟩ : ∃ cs, (TT.mk kd tn (.mk op lo hi lw hg ca cn cc cch) ext fr ⟨sa, sn, sc, sf⟩ ⟨ma, mn, mc, mf⟩ ⟨pa, pn, pc, pf⟩ ptf ⟨aa, an, ac, af⟩ atf ea en ec etf).cells = cs := ⟨_, rfl⟩
  have HCS := Lib.hid hcs
  have C0 := Lib.hid (show cs[0]? = some (.int .i64 kd) by rw [← hcs]; rfl)
  have C1 := Lib.hid (show cs[1]? = some (.string tn) by rw [← hcs]; rfl)
  have C2 := Lib.hid (show cs[2]? = some (.int .i64 op) by rw [← hcs]; rfl)
  have C8 := Lib.hid (show cs[8]? = some (.bool ext) by rw [← hcs]; rfl)
  have C9 := Lib.hid (show cs[9]? = some (.string fr) by rw [← hcs]; rfl)
  have C10 := Lib.hid (show cs[10]? = some (.slice sa sn sc) by rw [← hcs]; rfl)
  have C11 := Lib.hid (show cs[11]? = some (.slice ma mn mc) by rw [← hcs]; rfl)
  have C12 := Lib.hid (show cs[12]? = some (.slice pa pn pc) by rw [← hcs]; rfl)
  have C13 := Lib.hid (show cs[13]? = some (.slice aa an ac) by rw [← hcs]; rfl)
  have C14 := Lib.hid (show cs[14]? = some (.slice ea en ec) by rw [← hcs]; rfl)
  rw [hcs]
  have HL := Lib.hid (show cs.length = 15 by rw [← hcs]; exact hl)
  have HX := Lib.hid (Bx.new w cs.toArray 39)
  have HB := Lib.hid ((Below.refl w.heap.size w).alloc (Nat.le_refl _) (.cells cs.toArray 39))
  have HRC := Lib.hid (show (w.alloc (.cells cs.toArray 39)).rangeAt w.heap.size 2 (CT.mk op lo hi lw hg ca cn cc cch).cells from range_con (c := .mk op lo hi lw hg ca cn cc cch) (HIN.out w (Below.refl _ _)) (by intro _ _ _ _ _ _ _ _ _ _ _ _ _ _ _ e; cases e; rfl) (by rw [hcs]; exact HX.out))
  have HC := Lib.hid (rCon_ok (.mk op lo hi lw hg ca cn cc cch) B (w.alloc (.cells cs.toArray 39)) (hcon.below (HB.out.mono hB) (Nat.le_refl _)) (Nat.le_trans hB HB.out.size))
  obtain ⟨k, hk0⟩ : ∃ k, (CT.mk op lo hi lw hg ca cn cc cch).ok 40 = k := ⟨_, rfl⟩
  rw [hk0] at HC
  have HK0 := Lib.hid hk0
  have HSZ := Lib.hid (fun (hk : (CT.mk op lo hi lw hg ca cn cc cch).ok 40 = true) (W : World) (hb : Below w.heap.size w W) => show Calls Tryz.prog 68 #[.agg cs.toArray] W fun e w' => e = .returned (.bool (!(ext && decide (op = 0)))) ∧ Below W.heap.size W w' by
    have h := rsized_ok (TT.mk kd tn (.mk op lo hi lw hg ca cn cc cch) ext fr ⟨sa, sn, sc, sf⟩ ⟨ma, mn, mc, mf⟩ ⟨pa, pn, pc, pf⟩ ptf ⟨aa, an, ac, af⟩ atf ea en ec etf) (.mk op lo hi lw hg ca cn cc cch) ext W.heap.size W (HIN.out W hb) (Nat.le_refl _) (by intro _ _ _ _ _ _ _ _ _ _ _ _ _ _ _ e; cases e; rfl) rfl rfl
    rw [hk, Bool.true_and, hcs] at h
    exact h)
  have H4 := Lib.hid (show sn + mn ≤ 1000000000000000 by have h1 : sn ≤ sc := hnm.1.1; have h2 : sc ≤ 140737488355328 := hnm.1.2.1; have h3 : mn ≤ mc := hmo.1.1; have h4 : mc ≤ 140737488355328 := hmo.1.2.1; omega)
  have H5 := Lib.hid (show pn + an ≤ 1000000000000000 by have h1 : pn ≤ pc := hpr.1; have h2 : pc ≤ 140737488355328 := hpr.2.1; have h3 : an ≤ ac := har.1; have h4 : ac ≤ 140737488355328 := har.2.1; omega)
  have HNM := Lib.hid (fun (W : World) (hb : Below w.heap.size w W) => show SLIn W.heap.size W ⟨sa, sn, sc, sf⟩ from (hnm.below (hb.mono hB) (Nat.le_refl _)).below (Below.refl _ _) (Nat.le_trans hB hb.size))
  have HMO := Lib.hid (fun (W : World) (hb : Below w.heap.size w W) => show SLIn W.heap.size W ⟨ma, mn, mc, mf⟩ from (hmo.below (hb.mono hB) (Nat.le_refl _)).below (Below.refl _ _) (Nat.le_trans hB hb.size))
  have HPA := Lib.hid (fun (ch : Bool) (W : World) (hb : Below w.heap.size w W) => rparts_ok B W pa pn pc pf ptf ch (d + 1 : Nat) (fun i => shV (d + 1) (ptf i)) (Nat.le_trans hB hb.size) (hpr.below (hb.mono hB) (Nat.le_refl _)) (fun i hi => ⟨(hp i hi).1.below (hb.mono hB) (Nat.le_refl _), (hp i hi).2.below (hb.mono hB) (Nat.le_refl _)⟩) (fun i hi w' hb' => RP i hi w' (hb.trans (hb'.mono hb.size))))
  have HAA := Lib.hid (fun (ch : Bool) (W : World) (hb : Below w.heap.size w W) => rparts_ok B W aa an ac af atf ch (d + 1 : Nat) (fun i => shV (d + 1) (atf i)) (Nat.le_trans hB hb.size) (har.below (hb.mono hB) (Nat.le_refl _)) (fun i hi => ⟨(ha i hi).1.below (hb.mono hB) (Nat.le_refl _), (ha i hi).2.below (hb.mono hB) (Nat.le_refl _)⟩) (fun i hi w' hb' => RA i hi w' (hb.trans (hb'.mono hb.size))))
  have HEREC := Lib.hid RE
  have HE := Lib.hid he
  have HER := Lib.hid her
  have HBB := Lib.hid hB
  have HD := Lib.hid hd
  have HFR := Lib.hid hfr
  have HTN := Lib.hid htn
  obtain ⟨D, hD⟩ : ∃ D : Int, ((d : Nat) : Int) = D := ⟨_, rfl⟩
  obtain ⟨D1, hD1⟩ : ∃ D : Int, ((d + 1 : Nat) : Int) = D := ⟨_, rfl⟩
  rw [hD]
  rw [hD1] at HPA HAA HEREC
  have q40 : decide ((40 : Int) < D) = false := decide_eq_false (by omega)
  have qD : IntKind.i64.wrap (D + 1) = D1 := (wrap_ok (x := D + 1) (by unfold I64; omega)).trans (by omega)
  have HLC := Lib.hid (show (CT.mk op lo hi lw hg ca cn cc cch).cells.length = 6 from rfl)
  clear RP RA RE hcon hnm hmo hpr hp har ha her he hB hd hfr htn hl hcs hres hk0 hD hD1
  go_enter Tryz.func35, Tryz.ntmps35
  go_wp2_with (first | (refine wpList_load_midG (by rfl) 34 (.tmp 9) rfl w.heap.size 2 rfl (CT.mk op lo hi lw hg ca cn cc cch).cells _ HRC.out Tryz.underlying34 rfl (by rw [info_C, HLC.out]) ?_) | fail)
  refine HC.out.mono ?_
  rintro e W' ⟨rfl, hb⟩
  have HBn := Lib.hid (HB.out.trans (hb.mono HB.out.size))
  have HXn := Lib.hid (HX.out.below hb HX.out.lt)
  clear hb HB HX
  have HB := HBn
  have HX := HXn
  clear HBn HXn
  obtain ⟨W, rfl⟩ : ∃ W, W = W' := ⟨_, rfl⟩
  clear HC HRC q40
  cases k with
  | false =>
    obtain rfl : res = false := HRES.out.trans (shV_con HK0.out)
    clear HRES
    go_wp2_with fail
    go_ret
    exact ⟨rfl, HB.out⟩
  | true =>
    have HK := HK0
    have HSZ2 := Lib.hid (HSZ.out HK.out)
    clear HSZ
    have HSZ := HSZ2
    have HREF := Lib.hid trivial
    clear HSZ2 HK0
    have hk := hkd
    clear hkd
    subst hk
    have d0 : W.cell? ⟨w.heap.size, 0, none⟩ = some (.int .i64 11) := HX.out.cell 0 (by rw [List.getElem?_toArray]; exact C0.out)
    have HR := Lib.hid (show res = ((onlyV true false false false false false false tn op ext fr (sn + mn) (pn + an) en) && refd tn) from HRES.out.trans (shV_G HD.out HK.out))
    have HO := Lib.hid (show Calls Tryz.prog 67 #[.agg cs.toArray, .bool true, .bool false, .bool false, .bool false, .bool false, .bool false, .bool false] W fun e w' => e = .returned (.bool (onlyV true false false false false false false tn op ext fr (sn + mn) (pn + an) en)) ∧ Below W.heap.size W w' from only_G cs op tn fr ext sa ma pa aa ea sn sc mn mc pn pc an ac en ec W C1.out C2.out C8.out C9.out C10.out C11.out C12.out C13.out C14.out H4.out H5.out)
    obtain ⟨o, ho⟩ : ∃ o, onlyV true false false false false false false tn op ext fr (sn + mn) (pn + an) en = o := ⟨_, rfl⟩
    rw [ho] at HO HR
    clear ho
    clear HRES HREF
    go_wp2_with (first | (refine wpList_load_mid rfl 39 (.tmp 2) rfl w.heap.size 0 rfl cs _ HX.out.range Tryz.underlying39 rfl (by rw [info_T, HL.out]) ?_) | fail)
    refine HO.out.mono ?_
    rintro e W' ⟨rfl, hb⟩
    have HBn := Lib.hid (HB.out.trans (hb.mono HB.out.size))
    have HXn := Lib.hid (HX.out.below hb HX.out.lt)
    clear d0
    clear hb HB HX
    have HB := HBn
    have HX := HXn
    clear HBn HXn
    obtain ⟨W, rfl⟩ : ∃ W, W = W' := ⟨_, rfl⟩
    clear HO
    cases o with
    | false =>
      obtain rfl : res = false := by rw [HR.out]; simp
      go_wp2_with fail
      go_ret
      exact ⟨rfl, HB.out⟩
    | true =>
      have d1 : W.cell? ⟨w.heap.size, 1, none⟩ = some (.string tn) := HX.out.cell 1 (by rw [List.getElem?_toArray]; exact C1.out)
      have HN := Lib.hid (rname_ok tn W HTN.out)
      obtain ⟨y, hy⟩ : ∃ y, refd tn = y := ⟨_, rfl⟩
      rw [hy] at HN HR
      obtain rfl : res = y := HR.out.trans (by simp)
      clear hy
      go_wp2_with fail
      refine HN.out.mono ?_
      rintro e W' ⟨rfl, hb⟩
      have HBn := Lib.hid (HB.out.trans (hb.mono HB.out.size))
      have HXn := Lib.hid (HX.out.below hb HX.out.lt)
      clear d1
      clear hb HB HX
      have HB := HBn
      have HX := HXn
      clear HBn HXn
      obtain ⟨W, rfl⟩ : ∃ W, W = W' := ⟨_, rfl⟩
      go_wp2_with fail
      go_ret
      exact ⟨rfl, HB.out⟩
end Go.Proofs.YtgmnojnalkhepaaGreatDoor

/-
  The document's whether a type is shaped: 'shaped', by kinds.
-/
namespace Go.Proofs.YtgmnojnalkhepaaGreatDoor
open Go.RowKit
set_option linter.unusedVariables false
set_option linter.unusedSimpArgs false
set_option maxRecDepth 100000

set_option maxHeartbeats 16000000 in
theorem rshaped_H (kd op lo hi : Int) (tn fr : ByteArray) (lw hg ext : Bool) (ca sa ma pa aa ea : Option Addr) (cn cc sn sc mn mc pn pc an ac en ec : Nat) (cch : Nat → CT) (sf mf : Nat → ByteArray) (pf af : Nat → PD) (ptf atf etf : Nat → TT) (B d : Nat) (w : World)
    (hin : TIn B w (TT.mk kd tn (.mk op lo hi lw hg ca cn cc cch) ext fr ⟨sa, sn, sc, sf⟩ ⟨ma, mn, mc, mf⟩ ⟨pa, pn, pc, pf⟩ ptf ⟨aa, an, ac, af⟩ atf ea en ec etf)) (hB : B ≤ w.heap.size) (hd : d ≤ 40)
    (RP : ∀ i, i < pn → ∀ w' : World, Below w.heap.size w w' → Calls Tryz.prog 35 #[.agg (ptf i).cells.toArray, .int .i64 (d + 1 : Nat)] w' fun e w'' => e = .returned (.bool (shV (d + 1) (ptf i))) ∧ Below w'.heap.size w' w'')
    (RA : ∀ i, i < an → ∀ w' : World, Below w.heap.size w w' → Calls Tryz.prog 35 #[.agg (atf i).cells.toArray, .int .i64 (d + 1 : Nat)] w' fun e w'' => e = .returned (.bool (shV (d + 1) (atf i))) ∧ Below w'.heap.size w' w'')
    (RE : ∀ i, i < en → ∀ w' : World, Below w.heap.size w w' → Calls Tryz.prog 35 #[.agg (etf i).cells.toArray, .int .i64 (d + 1 : Nat)] w' fun e w'' => e = .returned (.bool (shV (d + 1) (etf i))) ∧ Below w'.heap.size w' w'')
    (hkd : kd = 10) :
    Calls Tryz.prog 35 #[.agg (TT.mk kd tn (.mk op lo hi lw hg ca cn cc cch) ext fr ⟨sa, sn, sc, sf⟩ ⟨ma, mn, mc, mf⟩ ⟨pa, pn, pc, pf⟩ ptf ⟨aa, an, ac, af⟩ atf ea en ec etf).cells.toArray, .int .i64 (d : Nat)] w fun e w' => e = .returned (.bool (shV d (TT.mk kd tn (.mk op lo hi lw hg ca cn cc cch) ext fr ⟨sa, sn, sc, sf⟩ ⟨ma, mn, mc, mf⟩ ⟨pa, pn, pc, pf⟩ ptf ⟨aa, an, ac, af⟩ atf ea en ec etf))) ∧ Below w.heap.size w w' := by
  have HIN := Lib.hid (fun (W : World) (hb : Below w.heap.size w W) => (hin.below (hb.mono hB) (Nat.le_refl _)).below (Below.refl _ _) (Nat.le_trans hB hb.size))
  have hl := (one_tcells hin).1
  obtain ⟨⟨_, htn, hcon, hfr, hnm, hmo⟩, ⟨hpr, hp⟩, ⟨har, ha⟩, ⟨her, he⟩⟩ := hin
  obtain ⟨res, hres⟩ : ∃ res, shV d (TT.mk kd tn (.mk op lo hi lw hg ca cn cc cch) ext fr ⟨sa, sn, sc, sf⟩ ⟨ma, mn, mc, mf⟩ ⟨pa, pn, pc, pf⟩ ptf ⟨aa, an, ac, af⟩ atf ea en ec etf) = res := ⟨_, rfl⟩
  rw [hres]
  have HRES := Lib.hid hres.symm
  obtain ⟨cs, hcs⟩ : ∃ cs, (TT.mk kd tn (.mk op lo hi lw hg ca cn cc cch) ext fr ⟨sa, sn, sc, sf⟩ ⟨ma, mn, mc, mf⟩ ⟨pa, pn, pc, pf⟩ ptf ⟨aa, an, ac, af⟩ atf ea en ec etf).cells = cs := ⟨_, rfl⟩
  have HCS := Lib.hid hcs
  have C0 := Lib.hid (show cs[0]? = some (.int .i64 kd) by rw [← hcs]; rfl)
  have C1 := Lib.hid (show cs[1]? = some (.string tn) by rw [← hcs]; rfl)
  have C2 := Lib.hid (show cs[2]? = some (.int .i64 op) by rw [← hcs]; rfl)
  have C8 := Lib.hid (show cs[8]? = some (.bool ext) by rw [← hcs]; rfl)
  have C9 := Lib.hid (show cs[9]? = some (.string fr) by rw [← hcs]; rfl)
  have C10 := Lib.hid (show cs[10]? = some (.slice sa sn sc) by rw [← hcs]; rfl)
  have C11 := Lib.hid (show cs[11]? = some (.slice ma mn mc) by rw [← hcs]; rfl)
  have C12 := Lib.hid (show cs[12]? = some (.slice pa pn pc) by rw [← hcs]; rfl)
  have C13 := Lib.hid (show cs[13]? = some (.slice aa an ac) by rw [← hcs]; rfl)
  have C14 := Lib.hid (show cs[14]? = some (.slice ea en ec) by rw [← hcs]; rfl)
  rw [hcs]
  have HL := Lib.hid (show cs.length = 15 by rw [← hcs]; exact hl)
  have HX := Lib.hid (Bx.new w cs.toArray 39)
  have HB := Lib.hid ((Below.refl w.heap.size w).alloc (Nat.le_refl _) (.cells cs.toArray 39))
  have HRC := Lib.hid (show (w.alloc (.cells cs.toArray 39)).rangeAt w.heap.size 2 (CT.mk op lo hi lw hg ca cn cc cch).cells from range_con (c := .mk op lo hi lw hg ca cn cc cch) (HIN.out w (Below.refl _ _)) (by intro _ _ _ _ _ _ _ _ _ _ _ _ _ _ _ e; cases e; rfl) (by rw [hcs]; exact HX.out))
  have HC := Lib.hid (rCon_ok (.mk op lo hi lw hg ca cn cc cch) B (w.alloc (.cells cs.toArray 39)) (hcon.below (HB.out.mono hB) (Nat.le_refl _)) (Nat.le_trans hB HB.out.size))
  obtain ⟨k, hk0⟩ : ∃ k, (CT.mk op lo hi lw hg ca cn cc cch).ok 40 = k := ⟨_, rfl⟩
  rw [hk0] at HC
  have HK0 := Lib.hid hk0
  have HSZ := Lib.hid (fun (hk : (CT.mk op lo hi lw hg ca cn cc cch).ok 40 = true) (W : World) (hb : Below w.heap.size w W) => show Calls Tryz.prog 68 #[.agg cs.toArray] W fun e w' => e = .returned (.bool (!(ext && decide (op = 0)))) ∧ Below W.heap.size W w' by
    have h := rsized_ok (TT.mk kd tn (.mk op lo hi lw hg ca cn cc cch) ext fr ⟨sa, sn, sc, sf⟩ ⟨ma, mn, mc, mf⟩ ⟨pa, pn, pc, pf⟩ ptf ⟨aa, an, ac, af⟩ atf ea en ec etf) (.mk op lo hi lw hg ca cn cc cch) ext W.heap.size W (HIN.out W hb) (Nat.le_refl _) (by intro _ _ _ _ _ _ _ _ _ _ _ _ _ _ _ e; cases e; rfl) rfl rfl
    rw [hk, Bool.true_and, hcs] at h
    exact h)
  have H4 := Lib.hid (show sn + mn ≤ 1000000000000000 by have h1 : sn ≤ sc := hnm.1.1; have h2 : sc ≤ 140737488355328 := hnm.1.2.1; have h3 : mn ≤ mc := hmo.1.1; have h4 : mc ≤ 140737488355328 := hmo.1.2.1; omega)
  have H5 := Lib.hid (show pn + an ≤ 1000000000000000 by have h1 : pn ≤ pc := hpr.1; have h2 : pc ≤ 140737488355328 := hpr.2.1; have h3 : an ≤ ac := har.1; have h4 : ac ≤ 140737488355328 := har.2.1; omega)
  have HNM := Lib.hid (fun (W : World) (hb : Below w.heap.size w W) => show SLIn W.heap.size W ⟨sa, sn, sc, sf⟩ from (hnm.below (hb.mono hB) (Nat.le_refl _)).below (Below.refl _ _) (Nat.le_trans hB hb.size))
  have HMO := Lib.hid (fun (W : World) (hb : Below w.heap.size w W) => show SLIn W.heap.size W ⟨ma, mn, mc, mf⟩ from (hmo.below (hb.mono hB) (Nat.le_refl _)).below (Below.refl _ _) (Nat.le_trans hB hb.size))
  have HPA := Lib.hid (fun (ch : Bool) (W : World) (hb : Below w.heap.size w W) => rparts_ok B W pa pn pc pf ptf ch (d + 1 : Nat) (fun i => shV (d + 1) (ptf i)) (Nat.le_trans hB hb.size) (hpr.below (hb.mono hB) (Nat.le_refl _)) (fun i hi => ⟨(hp i hi).1.below (hb.mono hB) (Nat.le_refl _), (hp i hi).2.below (hb.mono hB) (Nat.le_refl _)⟩) (fun i hi w' hb' => RP i hi w' (hb.trans (hb'.mono hb.size))))
  have HAA := Lib.hid (fun (ch : Bool) (W : World) (hb : Below w.heap.size w W) => rparts_ok B W aa an ac af atf ch (d + 1 : Nat) (fun i => shV (d + 1) (atf i)) (Nat.le_trans hB hb.size) (har.below (hb.mono hB) (Nat.le_refl _)) (fun i hi => ⟨(ha i hi).1.below (hb.mono hB) (Nat.le_refl _), (ha i hi).2.below (hb.mono hB) (Nat.le_refl _)⟩) (fun i hi w' hb' => RA i hi w' (hb.trans (hb'.mono hb.size))))
  have HEREC := Lib.hid RE
  have HE := Lib.hid he
  have HER := Lib.hid her
  have HBB := Lib.hid hB
  have HD := Lib.hid hd
  have HFR := Lib.hid hfr
  have HTN := Lib.hid htn
  obtain ⟨D, hD⟩ : ∃ D : Int, ((d : Nat) : Int) = D := ⟨_, rfl⟩
  obtain ⟨D1, hD1⟩ : ∃ D : Int, ((d + 1 : Nat) : Int) = D := ⟨_, rfl⟩
  rw [hD]
  rw [hD1] at HPA HAA HEREC
  have q40 : decide ((40 : Int) < D) = false := decide_eq_false (by omega)
  have qD : IntKind.i64.wrap (D + 1) = D1 := (wrap_ok (x := D + 1) (by unfold I64; omega)).trans (by omega)
  have HLC := Lib.hid (show (CT.mk op lo hi lw hg ca cn cc cch).cells.length = 6 from rfl)
  clear RP RA RE hcon hnm hmo hpr hp har ha her he hB hd hfr htn hl hcs hres hk0 hD hD1
  go_enter Tryz.func35, Tryz.ntmps35
  go_wp2_with (first | (refine wpList_load_midG (by rfl) 34 (.tmp 9) rfl w.heap.size 2 rfl (CT.mk op lo hi lw hg ca cn cc cch).cells _ HRC.out Tryz.underlying34 rfl (by rw [info_C, HLC.out]) ?_) | fail)
  refine HC.out.mono ?_
  rintro e W' ⟨rfl, hb⟩
  have HBn := Lib.hid (HB.out.trans (hb.mono HB.out.size))
  have HXn := Lib.hid (HX.out.below hb HX.out.lt)
  clear hb HB HX
  have HB := HBn
  have HX := HXn
  clear HBn HXn
  obtain ⟨W, rfl⟩ : ∃ W, W = W' := ⟨_, rfl⟩
  clear HC HRC q40
  cases k with
  | false =>
    obtain rfl : res = false := HRES.out.trans (shV_con HK0.out)
    clear HRES
    go_wp2_with fail
    go_ret
    exact ⟨rfl, HB.out⟩
  | true =>
    have HK := HK0
    have HSZ2 := Lib.hid (HSZ.out HK.out)
    clear HSZ
    have HSZ := HSZ2
    have HREF := Lib.hid trivial
    clear HSZ2 HK0
    have hk := hkd
    clear hkd
    subst hk
    have d0 : W.cell? ⟨w.heap.size, 0, none⟩ = some (.int .i64 10) := HX.out.cell 0 (by rw [List.getElem?_toArray]; exact C0.out)
    have HR := Lib.hid (show res = ((onlyV false false true false false true false tn op ext fr (sn + mn) (pn + an) en) && ((ext || decide (an = 0)) && ((!true || decide (0 < pn)) && (fewOk (fun i => prtOk true (pf i) (shV (d + 1) (ptf i))) pn && fewOk (fun i => prtOk true (af i) (shV (d + 1) (atf i))) an)))) from HRES.out.trans (shV_E true HD.out HK.out))
    have HO := Lib.hid (show Calls Tryz.prog 67 #[.agg cs.toArray, .bool false, .bool false, .bool true, .bool false, .bool false, .bool true, .bool false] W fun e w' => e = .returned (.bool (onlyV false false true false false true false tn op ext fr (sn + mn) (pn + an) en)) ∧ Below W.heap.size W w' from only_E cs op tn fr ext sa ma pa aa ea sn sc mn mc pn pc an ac en ec W C1.out C2.out C8.out C9.out C10.out C11.out C12.out C13.out C14.out H4.out H5.out)
    obtain ⟨o, ho⟩ : ∃ o, onlyV false false true false false true false tn op ext fr (sn + mn) (pn + an) en = o := ⟨_, rfl⟩
    rw [ho] at HO HR
    clear ho
    clear HRES HREF
    go_wp2_with (first | (refine wpList_load_mid rfl 39 (.tmp 2) rfl w.heap.size 0 rfl cs _ HX.out.range Tryz.underlying39 rfl (by rw [info_T, HL.out]) ?_) | fail)
    refine HO.out.mono ?_
    rintro e W' ⟨rfl, hb⟩
    have HBn := Lib.hid (HB.out.trans (hb.mono HB.out.size))
    have HXn := Lib.hid (HX.out.below hb HX.out.lt)
    clear d0
    clear hb HB HX
    have HB := HBn
    have HX := HXn
    clear HBn HXn
    obtain ⟨W, rfl⟩ : ∃ W, W = W' := ⟨_, rfl⟩
    clear HO
    cases o with
    | false =>
      obtain rfl : res = false := by rw [HR.out]; simp
      go_wp2_with fail
      go_ret
      exact ⟨rfl, HB.out⟩
    | true =>
      have d8 : W.cell? ⟨w.heap.size, 8, none⟩ = some (.bool ext) := HX.out.cell 8 (by rw [List.getElem?_toArray]; exact C8.out)
      cases ext with
      | true =>
        have d12 : W.cell? ⟨w.heap.size, 12, none⟩ = some (.slice pa pn pc) := HX.out.cell 12 (by rw [List.getElem?_toArray]; exact C12.out)
        by_cases hp0 : 0 < pn
        rotate_left
        · have q1 : decide ((0 : Int) < (pn : Int)) = false := decide_eq_false (by omega)
          have q1n : decide (0 < pn) = false := decide_eq_false hp0
          rw [q1n] at HR
          obtain rfl : res = false := by rw [HR.out]; simp
          go_wp2_with fail
          go_ret
          exact ⟨rfl, HB.out⟩
        have q1 : decide ((0 : Int) < (pn : Int)) = true := decide_eq_true (by omega)
        have q1n : decide (0 < pn) = true := decide_eq_true hp0
        rw [q1n] at HR
        clear hp0
        have HN := Lib.hid (HPA.out true W HB.out)
        obtain ⟨y, hy⟩ : ∃ y, fewOk (fun i => prtOk true (pf i) (shV (d + 1) (ptf i))) pn = y := ⟨_, rfl⟩
        rw [hy] at HN HR
        clear hy
        go_wp2_with fail
        refine HN.out.mono ?_
        rintro e W' ⟨rfl, hb⟩
        have HBn := Lib.hid (HB.out.trans (hb.mono HB.out.size))
        have HXn := Lib.hid (HX.out.below hb HX.out.lt)
        clear d12
        clear hb HB HX
        have HB := HBn
        have HX := HXn
        clear HBn HXn
        obtain ⟨W, rfl⟩ : ∃ W, W = W' := ⟨_, rfl⟩
        clear HN
        cases y with
        | false =>
          obtain rfl : res = false := by rw [HR.out]; simp
          go_wp2_with fail
          go_ret
          exact ⟨rfl, HB.out⟩
        | true =>
          have d13 : W.cell? ⟨w.heap.size, 13, none⟩ = some (.slice aa an ac) := HX.out.cell 13 (by rw [List.getElem?_toArray]; exact C13.out)
          have HN := Lib.hid (HAA.out true W HB.out)
          obtain ⟨y, hy⟩ : ∃ y, fewOk (fun i => prtOk true (af i) (shV (d + 1) (atf i))) an = y := ⟨_, rfl⟩
          rw [hy] at HN HR
          clear hy
          obtain rfl : res = y := HR.out.trans (by simp)
          go_wp2_with fail
          refine HN.out.mono ?_
          rintro e W' ⟨rfl, hb⟩
          have HBn := Lib.hid (HB.out.trans (hb.mono HB.out.size))
          have HXn := Lib.hid (HX.out.below hb HX.out.lt)
          clear d13
          clear hb HB HX
          have HB := HBn
          have HX := HXn
          clear HBn HXn
          obtain ⟨W, rfl⟩ : ∃ W, W = W' := ⟨_, rfl⟩
          go_wp2_with fail
          go_ret
          exact ⟨rfl, HB.out⟩
      | false =>
        have d13 : W.cell? ⟨w.heap.size, 13, none⟩ = some (.slice aa an ac) := HX.out.cell 13 (by rw [List.getElem?_toArray]; exact C13.out)
        by_cases ha0 : an = 0
        · subst ha0
          have d12 : W.cell? ⟨w.heap.size, 12, none⟩ = some (.slice pa pn pc) := HX.out.cell 12 (by rw [List.getElem?_toArray]; exact C12.out)
          by_cases hp0 : 0 < pn
          rotate_left
          · have q1 : decide ((0 : Int) < (pn : Int)) = false := decide_eq_false (by omega)
            have q1n : decide (0 < pn) = false := decide_eq_false hp0
            rw [q1n] at HR
            obtain rfl : res = false := by rw [HR.out]; simp
            go_wp2_with fail
            go_ret
            exact ⟨rfl, HB.out⟩
          have q1 : decide ((0 : Int) < (pn : Int)) = true := decide_eq_true (by omega)
          have q1n : decide (0 < pn) = true := decide_eq_true hp0
          rw [q1n] at HR
          clear hp0
          have HN := Lib.hid (HPA.out true W HB.out)
          obtain ⟨y, hy⟩ : ∃ y, fewOk (fun i => prtOk true (pf i) (shV (d + 1) (ptf i))) pn = y := ⟨_, rfl⟩
          rw [hy] at HN HR
          clear hy
          go_wp2_with fail
          refine HN.out.mono ?_
          rintro e W' ⟨rfl, hb⟩
          have HBn := Lib.hid (HB.out.trans (hb.mono HB.out.size))
          have HXn := Lib.hid (HX.out.below hb HX.out.lt)
          clear d12
          clear hb HB HX
          have HB := HBn
          have HX := HXn
          clear HBn HXn
          obtain ⟨W, rfl⟩ : ∃ W, W = W' := ⟨_, rfl⟩
          clear HN
          cases y with
          | false =>
            obtain rfl : res = false := by rw [HR.out]; simp
            go_wp2_with fail
            go_ret
            exact ⟨rfl, HB.out⟩
          | true =>
            have d13 : W.cell? ⟨w.heap.size, 13, none⟩ = some (.slice aa 0 ac) := HX.out.cell 13 (by rw [List.getElem?_toArray]; exact C13.out)
            have HN := Lib.hid (HAA.out true W HB.out)
            obtain ⟨y, hy⟩ : ∃ y, fewOk (fun i => prtOk true (af i) (shV (d + 1) (atf i))) 0 = y := ⟨_, rfl⟩
            rw [hy] at HN HR
            clear hy
            obtain rfl : res = y := HR.out.trans (by simp)
            go_wp2_with fail
            refine HN.out.mono ?_
            rintro e W' ⟨rfl, hb⟩
            have HBn := Lib.hid (HB.out.trans (hb.mono HB.out.size))
            have HXn := Lib.hid (HX.out.below hb HX.out.lt)
            clear d13
            clear hb HB HX
            have HB := HBn
            have HX := HXn
            clear HBn HXn
            obtain ⟨W, rfl⟩ : ∃ W, W = W' := ⟨_, rfl⟩
            go_wp2_with fail
            go_ret
            exact ⟨rfl, HB.out⟩
        · have p0 : ((an : Int) == 0) = false := by simpa using ha0
          rw [decide_eq_false ha0] at HR
          obtain rfl : res = false := by rw [HR.out]; simp
          go_wp2_with fail
          go_ret
          exact ⟨rfl, HB.out⟩
end Go.Proofs.YtgmnojnalkhepaaGreatDoor

/-
  The document's whether a type is shaped: 'shaped', by kinds.
-/
namespace Go.Proofs.YtgmnojnalkhepaaGreatDoor
open Go.RowKit
set_option linter.unusedVariables false
set_option linter.unusedSimpArgs false
set_option maxRecDepth 100000

set_option maxHeartbeats 16000000 in
theorem rshaped_O (kd op lo hi : Int) (tn fr : ByteArray) (lw hg ext : Bool) (ca sa ma pa aa ea : Option Addr) (cn cc sn sc mn mc pn pc an ac en ec : Nat) (cch : Nat → CT) (sf mf : Nat → ByteArray) (pf af : Nat → PD) (ptf atf etf : Nat → TT) (B d : Nat) (w : World)
    (hin : TIn B w (TT.mk kd tn (.mk op lo hi lw hg ca cn cc cch) ext fr ⟨sa, sn, sc, sf⟩ ⟨ma, mn, mc, mf⟩ ⟨pa, pn, pc, pf⟩ ptf ⟨aa, an, ac, af⟩ atf ea en ec etf)) (hB : B ≤ w.heap.size) (hd : d ≤ 40)
    (RP : ∀ i, i < pn → ∀ w' : World, Below w.heap.size w w' → Calls Tryz.prog 35 #[.agg (ptf i).cells.toArray, .int .i64 (d + 1 : Nat)] w' fun e w'' => e = .returned (.bool (shV (d + 1) (ptf i))) ∧ Below w'.heap.size w' w'')
    (RA : ∀ i, i < an → ∀ w' : World, Below w.heap.size w w' → Calls Tryz.prog 35 #[.agg (atf i).cells.toArray, .int .i64 (d + 1 : Nat)] w' fun e w'' => e = .returned (.bool (shV (d + 1) (atf i))) ∧ Below w'.heap.size w' w'')
    (RE : ∀ i, i < en → ∀ w' : World, Below w.heap.size w w' → Calls Tryz.prog 35 #[.agg (etf i).cells.toArray, .int .i64 (d + 1 : Nat)] w' fun e w'' => e = .returned (.bool (shV (d + 1) (etf i))) ∧ Below w'.heap.size w' w'')
    (hkd : ¬ (1 ≤ kd ∧ kd ≤ 11)) :
    Calls Tryz.prog 35 #[.agg (TT.mk kd tn (.mk op lo hi lw hg ca cn cc cch) ext fr ⟨sa, sn, sc, sf⟩ ⟨ma, mn, mc, mf⟩ ⟨pa, pn, pc, pf⟩ ptf ⟨aa, an, ac, af⟩ atf ea en ec etf).cells.toArray, .int .i64 (d : Nat)] w fun e w' => e = .returned (.bool (shV d (TT.mk kd tn (.mk op lo hi lw hg ca cn cc cch) ext fr ⟨sa, sn, sc, sf⟩ ⟨ma, mn, mc, mf⟩ ⟨pa, pn, pc, pf⟩ ptf ⟨aa, an, ac, af⟩ atf ea en ec etf))) ∧ Below w.heap.size w w' := by
  have HIN := Lib.hid (fun (W : World) (hb : Below w.heap.size w W) => (hin.below (hb.mono hB) (Nat.le_refl _)).below (Below.refl _ _) (Nat.le_trans hB hb.size))
  have hl := (one_tcells hin).1
  obtain ⟨⟨_, htn, hcon, hfr, hnm, hmo⟩, ⟨hpr, hp⟩, ⟨har, ha⟩, ⟨her, he⟩⟩ := hin
  obtain ⟨res, hres⟩ : ∃ res, shV d (TT.mk kd tn (.mk op lo hi lw hg ca cn cc cch) ext fr ⟨sa, sn, sc, sf⟩ ⟨ma, mn, mc, mf⟩ ⟨pa, pn, pc, pf⟩ ptf ⟨aa, an, ac, af⟩ atf ea en ec etf) = res := ⟨_, rfl⟩
  rw [hres]
  have HRES := Lib.hid hres.symm
  obtain ⟨cs, hcs⟩ : ∃ cs, (TT.mk kd tn (.mk op lo hi lw hg ca cn cc cch) ext fr ⟨sa, sn, sc, sf⟩ ⟨ma, mn, mc, mf⟩ ⟨pa, pn, pc, pf⟩ ptf ⟨aa, an, ac, af⟩ atf ea en ec etf).cells = cs := ⟨_, rfl⟩
  have HCS := Lib.hid hcs
  have C0 := Lib.hid (show cs[0]? = some (.int .i64 kd) by rw [← hcs]; rfl)
  have C1 := Lib.hid (show cs[1]? = some (.string tn) by rw [← hcs]; rfl)
  have C2 := Lib.hid (show cs[2]? = some (.int .i64 op) by rw [← hcs]; rfl)
  have C8 := Lib.hid (show cs[8]? = some (.bool ext) by rw [← hcs]; rfl)
  have C9 := Lib.hid (show cs[9]? = some (.string fr) by rw [← hcs]; rfl)
  have C10 := Lib.hid (show cs[10]? = some (.slice sa sn sc) by rw [← hcs]; rfl)
  have C11 := Lib.hid (show cs[11]? = some (.slice ma mn mc) by rw [← hcs]; rfl)
  have C12 := Lib.hid (show cs[12]? = some (.slice pa pn pc) by rw [← hcs]; rfl)
  have C13 := Lib.hid (show cs[13]? = some (.slice aa an ac) by rw [← hcs]; rfl)
  have C14 := Lib.hid (show cs[14]? = some (.slice ea en ec) by rw [← hcs]; rfl)
  rw [hcs]
  have HL := Lib.hid (show cs.length = 15 by rw [← hcs]; exact hl)
  have HX := Lib.hid (Bx.new w cs.toArray 39)
  have HB := Lib.hid ((Below.refl w.heap.size w).alloc (Nat.le_refl _) (.cells cs.toArray 39))
  have HRC := Lib.hid (show (w.alloc (.cells cs.toArray 39)).rangeAt w.heap.size 2 (CT.mk op lo hi lw hg ca cn cc cch).cells from range_con (c := .mk op lo hi lw hg ca cn cc cch) (HIN.out w (Below.refl _ _)) (by intro _ _ _ _ _ _ _ _ _ _ _ _ _ _ _ e; cases e; rfl) (by rw [hcs]; exact HX.out))
  have HC := Lib.hid (rCon_ok (.mk op lo hi lw hg ca cn cc cch) B (w.alloc (.cells cs.toArray 39)) (hcon.below (HB.out.mono hB) (Nat.le_refl _)) (Nat.le_trans hB HB.out.size))
  obtain ⟨k, hk0⟩ : ∃ k, (CT.mk op lo hi lw hg ca cn cc cch).ok 40 = k := ⟨_, rfl⟩
  rw [hk0] at HC
  have HK0 := Lib.hid hk0
  have HSZ := Lib.hid (fun (hk : (CT.mk op lo hi lw hg ca cn cc cch).ok 40 = true) (W : World) (hb : Below w.heap.size w W) => show Calls Tryz.prog 68 #[.agg cs.toArray] W fun e w' => e = .returned (.bool (!(ext && decide (op = 0)))) ∧ Below W.heap.size W w' by
    have h := rsized_ok (TT.mk kd tn (.mk op lo hi lw hg ca cn cc cch) ext fr ⟨sa, sn, sc, sf⟩ ⟨ma, mn, mc, mf⟩ ⟨pa, pn, pc, pf⟩ ptf ⟨aa, an, ac, af⟩ atf ea en ec etf) (.mk op lo hi lw hg ca cn cc cch) ext W.heap.size W (HIN.out W hb) (Nat.le_refl _) (by intro _ _ _ _ _ _ _ _ _ _ _ _ _ _ _ e; cases e; rfl) rfl rfl
    rw [hk, Bool.true_and, hcs] at h
    exact h)
  have H4 := Lib.hid (show sn + mn ≤ 1000000000000000 by have h1 : sn ≤ sc := hnm.1.1; have h2 : sc ≤ 140737488355328 := hnm.1.2.1; have h3 : mn ≤ mc := hmo.1.1; have h4 : mc ≤ 140737488355328 := hmo.1.2.1; omega)
  have H5 := Lib.hid (show pn + an ≤ 1000000000000000 by have h1 : pn ≤ pc := hpr.1; have h2 : pc ≤ 140737488355328 := hpr.2.1; have h3 : an ≤ ac := har.1; have h4 : ac ≤ 140737488355328 := har.2.1; omega)
  have HNM := Lib.hid (fun (W : World) (hb : Below w.heap.size w W) => show SLIn W.heap.size W ⟨sa, sn, sc, sf⟩ from (hnm.below (hb.mono hB) (Nat.le_refl _)).below (Below.refl _ _) (Nat.le_trans hB hb.size))
  have HMO := Lib.hid (fun (W : World) (hb : Below w.heap.size w W) => show SLIn W.heap.size W ⟨ma, mn, mc, mf⟩ from (hmo.below (hb.mono hB) (Nat.le_refl _)).below (Below.refl _ _) (Nat.le_trans hB hb.size))
  have HPA := Lib.hid (fun (ch : Bool) (W : World) (hb : Below w.heap.size w W) => rparts_ok B W pa pn pc pf ptf ch (d + 1 : Nat) (fun i => shV (d + 1) (ptf i)) (Nat.le_trans hB hb.size) (hpr.below (hb.mono hB) (Nat.le_refl _)) (fun i hi => ⟨(hp i hi).1.below (hb.mono hB) (Nat.le_refl _), (hp i hi).2.below (hb.mono hB) (Nat.le_refl _)⟩) (fun i hi w' hb' => RP i hi w' (hb.trans (hb'.mono hb.size))))
  have HAA := Lib.hid (fun (ch : Bool) (W : World) (hb : Below w.heap.size w W) => rparts_ok B W aa an ac af atf ch (d + 1 : Nat) (fun i => shV (d + 1) (atf i)) (Nat.le_trans hB hb.size) (har.below (hb.mono hB) (Nat.le_refl _)) (fun i hi => ⟨(ha i hi).1.below (hb.mono hB) (Nat.le_refl _), (ha i hi).2.below (hb.mono hB) (Nat.le_refl _)⟩) (fun i hi w' hb' => RA i hi w' (hb.trans (hb'.mono hb.size))))
  have HEREC := Lib.hid RE
  have HE := Lib.hid he
  have HER := Lib.hid her
  have HBB := Lib.hid hB
  have HD := Lib.hid hd
  have HFR := Lib.hid hfr
  have HTN := Lib.hid htn
  obtain ⟨D, hD⟩ : ∃ D : Int, ((d : Nat) : Int) = D := ⟨_, rfl⟩
  obtain ⟨D1, hD1⟩ : ∃ D : Int, ((d + 1 : Nat) : Int) = D := ⟨_, rfl⟩
  rw [hD]
  rw [hD1] at HPA HAA HEREC
  have q40 : decide ((40 : Int) < D) = false := decide_eq_false (by omega)
  have qD : IntKind.i64.wrap (D + 1) = D1 := (wrap_ok (x := D + 1) (by unfold I64; omega)).trans (by omega)
  have HLC := Lib.hid (show (CT.mk op lo hi lw hg ca cn cc cch).cells.length = 6 from rfl)
  clear RP RA RE hcon hnm hmo hpr hp har ha her he hB hd hfr htn hl hcs hres hk0 hD hD1
  go_enter Tryz.func35, Tryz.ntmps35
  go_wp2_with (first | (refine wpList_load_midG (by rfl) 34 (.tmp 9) rfl w.heap.size 2 rfl (CT.mk op lo hi lw hg ca cn cc cch).cells _ HRC.out Tryz.underlying34 rfl (by rw [info_C, HLC.out]) ?_) | fail)
  refine HC.out.mono ?_
  rintro e W' ⟨rfl, hb⟩
  have HBn := Lib.hid (HB.out.trans (hb.mono HB.out.size))
  have HXn := Lib.hid (HX.out.below hb HX.out.lt)
  clear hb HB HX
  have HB := HBn
  have HX := HXn
  clear HBn HXn
  obtain ⟨W, rfl⟩ : ∃ W, W = W' := ⟨_, rfl⟩
  clear HC HRC q40
  cases k with
  | false =>
    obtain rfl : res = false := HRES.out.trans (shV_con HK0.out)
    clear HRES
    go_wp2_with fail
    go_ret
    exact ⟨rfl, HB.out⟩
  | true =>
    have HK := HK0
    have HSZ2 := Lib.hid (HSZ.out HK.out)
    clear HSZ
    have HSZ := HSZ2
    have HREF := Lib.hid trivial
    clear HSZ2 HK0
    have d0 : W.cell? ⟨w.heap.size, 0, none⟩ = some (.int .i64 kd) := HX.out.cell 0 (by rw [List.getElem?_toArray]; exact C0.out)
    have p1 : (kd == 1) = false := by simpa using (show ¬ kd = 1 by omega)
    have p4 : (kd == 4) = false := by simpa using (show ¬ kd = 4 by omega)
    have p2 : (kd == 2) = false := by simpa using (show ¬ kd = 2 by omega)
    have p5 : (kd == 5) = false := by simpa using (show ¬ kd = 5 by omega)
    have p6 : (kd == 6) = false := by simpa using (show ¬ kd = 6 by omega)
    have p7 : (kd == 7) = false := by simpa using (show ¬ kd = 7 by omega)
    have p3 : (kd == 3) = false := by simpa using (show ¬ kd = 3 by omega)
    have p8 : (kd == 8) = false := by simpa using (show ¬ kd = 8 by omega)
    have p10 : (kd == 10) = false := by simpa using (show ¬ kd = 10 by omega)
    have p9 : (kd == 9) = false := by simpa using (show ¬ kd = 9 by omega)
    have p11 : (kd == 11) = false := by simpa using (show ¬ kd = 11 by omega)
    obtain rfl : res = false := HRES.out.trans (shV_o hkd)
    clear HRES
    go_wp2_with fail
    go_ret
    exact ⟨rfl, HB.out⟩
end Go.Proofs.YtgmnojnalkhepaaGreatDoor

/-
  The document's whether a type is shaped: 'shaped', 'Type'.
-/
namespace Go.Proofs.YtgmnojnalkhepaaGreatDoor
open Go.RowKit
set_option linter.unusedVariables false
set_option linter.unusedSimpArgs false
set_option maxRecDepth 100000

set_option maxHeartbeats 4000000 in
theorem rshaped_far (cs : List Value) (d : Nat) (w : World) (hd : 40 < d) :
    Calls Tryz.prog 35 #[.agg cs.toArray, .int .i64 (d : Nat)] w fun e w' => e = .returned (.bool false) ∧ Below w.heap.size w w' := by
  have HB := Lib.hid ((Below.refl w.heap.size w).alloc (Nat.le_refl _) (.cells cs.toArray 39))
  obtain ⟨D, hD⟩ : ∃ D : Int, ((d : Nat) : Int) = D := ⟨_, rfl⟩
  rw [hD]
  have q40 : decide ((40 : Int) < D) = true := decide_eq_true (by omega)
  clear hd hD
  go_enter Tryz.func35, Tryz.ntmps35
  go_wp2_with fail
  go_ret
  exact ⟨rfl, HB.out⟩
theorem rshaped_ok : ∀ (t : TT) (B d : Nat) (w : World), TIn B w t → B ≤ w.heap.size → d ≤ 41 →
    Calls Tryz.prog 35 #[.agg t.cells.toArray, .int .i64 (d : Nat)] w fun e w' => e = .returned (.bool (shV d t)) ∧ Below w.heap.size w w'
  | .nil, _, _, _, h, _, _ => h.elim
  | .mk _ _ .nil _ _ _ _ _ _ _ _ _ _ _ _, _, _, _, h, _, _ => h.1.2.2.1.elim
  | .mk kd tn (.mk op lo hi lw hg ca cn cc cch) ext fr ⟨sa, sn, sc, sf⟩ ⟨ma, mn, mc, mf⟩ ⟨pa, pn, pc, pf⟩ ptf ⟨aa, an, ac, af⟩ atf ea en ec etf, B, d, w, hin, hB, hd1 => by
    have RP := fun i (hi : i < pn) (w' : World) (hb : Below w.heap.size w w') => rshaped_ok (ptf i) w.heap.size (d + 1) w' ((hin.2.1.2 i hi).2.below hb hB) hb.size
    have RA := fun i (hi : i < an) (w' : World) (hb : Below w.heap.size w w') => rshaped_ok (atf i) w.heap.size (d + 1) w' ((hin.2.2.1.2 i hi).2.below hb hB) hb.size
    have RE := fun i (hi : i < en) (w' : World) (hb : Below w.heap.size w w') => rshaped_ok (etf i) w.heap.size (d + 1) w' ((hin.2.2.2.2 i hi).below hb hB) hb.size
    by_cases hd : d ≤ 40
    rotate_left
    · rw [shV_deep (by omega)]
      exact rshaped_far _ d w (by omega)
    have RP := fun i hi w' hb => RP i hi w' hb (by omega)
    have RA := fun i hi w' hb => RA i hi w' hb (by omega)
    have RE := fun i hi w' hb => RE i hi w' hb (by omega)
    by_cases k1 : kd = 1 ∨ kd = 4
    · exact rshaped_A kd op lo hi tn fr lw hg ext ca sa ma pa aa ea cn cc sn sc mn mc pn pc an ac en ec cch sf mf pf af ptf atf etf B d w hin hB hd RP RA RE k1
    by_cases k2 : kd = 2 ∨ kd = 5 ∨ kd = 6
    · exact rshaped_B kd op lo hi tn fr lw hg ext ca sa ma pa aa ea cn cc sn sc mn mc pn pc an ac en ec cch sf mf pf af ptf atf etf B d w hin hB hd RP RA RE k2
    by_cases k7 : kd = 7
    · exact rshaped_C kd op lo hi tn fr lw hg ext ca sa ma pa aa ea cn cc sn sc mn mc pn pc an ac en ec cch sf mf pf af ptf atf etf B d w hin hB hd RP RA RE k7
    by_cases k3 : kd = 3
    · exact rshaped_D kd op lo hi tn fr lw hg ext ca sa ma pa aa ea cn cc sn sc mn mc pn pc an ac en ec cch sf mf pf af ptf atf etf B d w hin hB hd RP RA RE k3
    by_cases k8 : kd = 8
    · exact rshaped_E kd op lo hi tn fr lw hg ext ca sa ma pa aa ea cn cc sn sc mn mc pn pc an ac en ec cch sf mf pf af ptf atf etf B d w hin hB hd RP RA RE k8
    by_cases k10 : kd = 10
    · exact rshaped_H kd op lo hi tn fr lw hg ext ca sa ma pa aa ea cn cc sn sc mn mc pn pc an ac en ec cch sf mf pf af ptf atf etf B d w hin hB hd RP RA RE k10
    by_cases k9 : kd = 9
    · exact rshaped_F kd op lo hi tn fr lw hg ext ca sa ma pa aa ea cn cc sn sc mn mc pn pc an ac en ec cch sf mf pf af ptf atf etf B d w hin hB hd RP RA RE k9
    by_cases k11 : kd = 11
    · exact rshaped_G kd op lo hi tn fr lw hg ext ca sa ma pa aa ea cn cc sn sc mn mc pn pc an ac en ec cch sf mf pf af ptf atf etf B d w hin hB hd RP RA RE k11
    · exact rshaped_O kd op lo hi tn fr lw hg ext ca sa ma pa aa ea cn cc sn sc mn mc pn pc an ac en ec cch sf mf pf af ptf atf etf B d w hin hB hd RP RA RE (by omega)
set_option maxHeartbeats 4000000 in
theorem rType_ok (t : TT) (B : Nat) (w : World) (ht : TIn B w t) (hB : B ≤ w.heap.size) :
    Calls Tryz.prog 22 #[.agg t.cells.toArray] w fun e w' => e = .returned (.bool t.okT) ∧ Below w.heap.size w w' := by
  have HONE := Lib.hid (one_tcells ht)
  have HX := Lib.hid (Bx.new w t.cells.toArray 39)
  have HB0 := Lib.hid ((Below.refl w.heap.size w).alloc (Nat.le_refl _) (.cells t.cells.toArray 39))
  have HC := Lib.hid (rshaped_ok t B 1 _ (ht.below (HB0.out.mono hB) (Nat.le_refl _)) (Nat.le_trans hB HB0.out.size) (by omega))
  have e : shV 1 t = t.okT := by unfold shV TT.okT; congr 1; exact decide_eq_decide.2 (by omega)
  rw [e] at HC
  obtain ⟨z, hz⟩ : ∃ z, t.okT = z := ⟨_, rfl⟩
  rw [hz] at HC ⊢
  clear ht hB hz e
  go_enter Tryz.func22, Tryz.ntmps22
  go_wp2_with (refine wpList_load_mid rfl 39 (.tmp 1) rfl w.heap.size 0 rfl t.cells _ HX.out.range Tryz.underlying39 rfl (by rw [info_T, HONE.out.1]) ?_)
  refine HC.out.mono ?_
  rintro e w1 ⟨rfl, hb1⟩
  have HB1 := Lib.hid (HB0.out.trans (hb1.mono HB0.out.size))
  clear hb1
  go_wp2_with fail
  go_ret
  exact ⟨rfl, HB1.out⟩
end Go.Proofs.YtgmnojnalkhepaaGreatDoor
