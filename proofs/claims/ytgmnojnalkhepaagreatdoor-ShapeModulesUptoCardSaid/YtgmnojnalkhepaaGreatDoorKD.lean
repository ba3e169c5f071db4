/-
  A bundle of texts, one behind the other: ShZ7, ShZ8, ShZ9.
-/
import Derived.Test.YtgmnojnalkhepaaGreatDoorKC
import Derived.Deep.RegionHeld3
import Derived.Test.YtgmnojnalkhepaaGreatDoorJZ
/-
  The document's typeText at the kinds 8 and 10: printed by gen_shz5.py.
-/
namespace Go.Proofs.YtgmnojnalkhepaaGreatDoor
open Go.RowKit Go.BigFrame
set_option linter.unusedVariables false
set_option linter.unusedSimpArgs false
set_option maxRecDepth 100000

theorem ownS_srow {base : Nat} {w : World} {v : Value} {n : Nat} {G : Nat → ByteArray} (h : OwnS base w v (strs n G)) (hn : n ≤ 140737488355328) : ∃ a cap, v = .slice a n cap ∧ SRow w.heap.size w a n cap G := by
  have ho := h.open.2
  obtain ⟨h1, h2⟩ := h
  rw [strs_len] at ho h2
  rcases h2 with ⟨h2, h3⟩ | ⟨g, cap, cur, rfl, hg, hh, hc, hm, hz, ht⟩
  · subst h3
    exact ⟨none, 0, h2, Nat.le_refl _, hn, fun _ => ⟨rfl, rfl⟩, fun h => absurd h (Nat.lt_irrefl 0)⟩
  · refine ⟨_, _, rfl, hc, hn, (fun h => by cases h), fun hn => ⟨g, 0, rfl, (Array.getElem?_eq_some_iff.1 hh).1, fun i hi j u hj => ?_⟩⟩
    obtain ⟨g', cap', he, _, hcl⟩ := ho hn
    cases he
    have hx := hcl i hi
    rw [strs_at n G hi] at hx
    match j, hj with
    | 0, hj =>
      have hu : Value.string (G i) = u := by simpa using hj
      subst hu
      rw [Nat.zero_add, Nat.mul_one, Nat.add_zero]
      exact hx
theorem rparts_text2 (B : Nat) (w : World) (a : Option Addr) (n cap : Nat) (pf : Nat → PD) (pt : Nat → TT) (hB : B ≤ w.heap.size) (hn9 : n ≤ 1000000000)
    (hrow : RowAt B w a n cap 18 (fun i => pcells (pf i) (pt i))) (hp : ∀ i, i < n → PDIn B w (pf i) ∧ TIn B w (pt i))
    (hd : ∀ i, i < n → (pf i).d.n ≤ 1 ∧ ((pf i).d.n = 1 → ((pf i).d.f 0).dflt = true) ∧ (pf i).wt ≤ 1000000000 ∧ (partT (pf i) (pt i).txt).length ≤ 1000000000)
    (hrec : ∀ i, i < n → ∀ w' : World, Below w.heap.size w w' → Calls Tryz.prog 25 #[.agg (pt i).cells.toArray] w' fun e w'' => e = .returned (.string (bs (pt i).txt)) ∧ Below w'.heap.size w' w'') :
    Calls Tryz.prog 43 #[.slice a n cap] w fun e w' => ∃ a' cap', e = .returned (.slice a' n cap') ∧ SRow w'.heap.size w' a' n cap' (fun i => bs (partT (pf i) (pt i).txt)) ∧ Below w.heap.size w w' :=
  (rparts_text B w a n cap pf pt hB hn9 hrow hp hd hrec).mono fun e w' ⟨v, he, ho, hb⟩ => by
    obtain ⟨a', c', hv, hs⟩ := ownS_srow ho (by omega)
    exact ⟨a', c', by rw [he, hv], hs, hb⟩
set_option maxHeartbeats 16000000 in
theorem rtypeText_P (kd op lo hi : Int) (tn fr : ByteArray) (lw hg ext : Bool) (ca sa ma pa aa ea : Option Addr) (cn cc sn sc mn mc pn pc an ac en ec : Nat) (cch : Nat → CT) (sf mf : Nat → ByteArray) (pf af : Nat → PD) (ptf atf etf : Nat → TT) (B : Nat) (w : World)
    (hin : TIn B w (TT.mk kd tn (.mk op lo hi lw hg ca cn cc cch) ext fr ⟨sa, sn, sc, sf⟩ ⟨ma, mn, mc, mf⟩ ⟨pa, pn, pc, pf⟩ ptf ⟨aa, an, ac, af⟩ atf ea en ec etf)) (hB : B ≤ w.heap.size) (hok : (CT.mk op lo hi lw hg ca cn cc cch).ok 40 = true) (hex : ext = true ∨ (ext = false → mn = 0))
    (hcl : (CT.mk op lo hi lw hg ca cn cc cch).txt.length ≤ 900000000) (htl : (TT.mk kd tn (.mk op lo hi lw hg ca cn cc cch) ext fr ⟨sa, sn, sc, sf⟩ ⟨ma, mn, mc, mf⟩ ⟨pa, pn, pc, pf⟩ ptf ⟨aa, an, ac, af⟩ atf ea en ec etf).txt.length ≤ 1000000000)
    (hxa : ext = true ∨ an = 0) (hpn : pn ≤ 1000000000) (han : an ≤ 1000000000)
    (hdp : ∀ i, i < pn → (pf i).d.n ≤ 1 ∧ ((pf i).d.n = 1 → ((pf i).d.f 0).dflt = true) ∧ (pf i).wt ≤ 1000000000 ∧ (partT (pf i) (ptf i).txt).length ≤ 1000000000)
    (hda : ∀ i, i < an → (af i).d.n ≤ 1 ∧ ((af i).d.n = 1 → ((af i).d.f 0).dflt = true) ∧ (af i).wt ≤ 1000000000 ∧ (partT (af i) (atf i).txt).length ≤ 1000000000)
    (RP : ∀ i, i < pn → ∀ w' : World, Below w.heap.size w w' → Calls Tryz.prog 25 #[.agg (ptf i).cells.toArray] w' fun e w'' => e = .returned (.string (bs (ptf i).txt)) ∧ Below w'.heap.size w' w'')
    (RA : ∀ i, i < an → ∀ w' : World, Below w.heap.size w w' → Calls Tryz.prog 25 #[.agg (atf i).cells.toArray] w' fun e w'' => e = .returned (.string (bs (atf i).txt)) ∧ Below w'.heap.size w' w'')
    (hkd : kd = 8) :
    Calls Tryz.prog 25 #[.agg (TT.mk kd tn (.mk op lo hi lw hg ca cn cc cch) ext fr ⟨sa, sn, sc, sf⟩ ⟨ma, mn, mc, mf⟩ ⟨pa, pn, pc, pf⟩ ptf ⟨aa, an, ac, af⟩ atf ea en ec etf).cells.toArray] w fun e w' => e = .returned (.string (bs (TT.mk kd tn (.mk op lo hi lw hg ca cn cc cch) ext fr ⟨sa, sn, sc, sf⟩ ⟨ma, mn, mc, mf⟩ ⟨pa, pn, pc, pf⟩ ptf ⟨aa, an, ac, af⟩ atf ea en ec etf).txt)) ∧ Below w.heap.size w w' := by
  have HIN := Lib.hid (fun (W : World) (hb : Below w.heap.size w W) => (hin.below (hb.mono hB) (Nat.le_refl _)).below (Below.refl _ _) (Nat.le_trans hB hb.size))
  have hl := (one_tcells hin).1
  obtain ⟨⟨_, htn, hcon, hfr, hnm, hmo⟩, ⟨hpr, hp⟩, ⟨har, ha⟩, ⟨her, he⟩⟩ := hin
  have HTL := Lib.hid (show (TT.mk kd tn (.mk op lo hi lw hg ca cn cc cch) ext fr ⟨sa, sn, sc, sf⟩ ⟨ma, mn, mc, mf⟩ ⟨pa, pn, pc, pf⟩ ptf ⟨aa, an, ac, af⟩ atf ea en ec etf).txt.length ≤ 1000000000 ∧ (kd = 3 → (braT (fun i => (sf i).data.toList) sn ext (fun i => (mf i).data.toList) mn).length ≤ 1000000000) from ⟨htl, fun h => by
    subst h
    have h2 : ([69, 78, 85, 77, 69, 82, 65, 84, 69, 68, 32] ++ braT (fun i => (sf i).data.toList) sn ext (fun i => (mf i).data.toList) mn : List UInt8).length ≤ 1000000000 := htl
    rw [List.length_append] at h2
    omega⟩)
  obtain ⟨res, hres⟩ : ∃ res, bs (TT.mk kd tn (.mk op lo hi lw hg ca cn cc cch) ext fr ⟨sa, sn, sc, sf⟩ ⟨ma, mn, mc, mf⟩ ⟨pa, pn, pc, pf⟩ ptf ⟨aa, an, ac, af⟩ atf ea en ec etf).txt = res := ⟨_, rfl⟩
  rw [hres]
  have HRES := Lib.hid hres.symm
  obtain ⟨cs, hcs⟩ : ∃ cs, (TT.mk kd tn (.mk op lo hi lw hg ca cn cc cch) ext fr ⟨sa, sn, sc, sf⟩ ⟨ma, mn, mc, mf⟩ ⟨pa, pn, pc, pf⟩ ptf ⟨aa, an, ac, af⟩ atf ea en ec etf).cells = cs := ⟨_, rfl⟩
  have C0 := Lib.hid (show cs[0]? = some (.int .i64 kd) by rw [← hcs]; rfl)
  have C1 := Lib.hid (show cs[1]? = some (.string tn) by rw [← hcs]; rfl)
  have C2 := Lib.hid (show cs[2]? = some (.int .i64 op) by rw [← hcs]; rfl)
  have C8 := Lib.hid (show cs[8]? = some (.bool ext) by rw [← hcs]; rfl)
  have C9 := Lib.hid (show cs[9]? = some (.string fr) by rw [← hcs]; rfl)
  have C10 := Lib.hid (show cs[10]? = some (.slice sa sn sc) by rw [← hcs]; rfl)
  have C11 := Lib.hid (show cs[11]? = some (.slice ma mn mc) by rw [← hcs]; rfl)
  have C14 := Lib.hid (show cs[14]? = some (.slice ea en ec) by rw [← hcs]; rfl)
  have C12 := Lib.hid (show cs[12]? = some (.slice pa pn pc) by rw [← hcs]; rfl)
  have C13 := Lib.hid (show cs[13]? = some (.slice aa an ac) by rw [← hcs]; rfl)
  rw [hcs]
  have HL := Lib.hid (show cs.length = 15 by rw [← hcs]; exact hl)
  have HX := Lib.hid (Bx.new w cs.toArray 39)
  have HB := Lib.hid ((Below.refl w.heap.size w).alloc (Nat.le_refl _) (.cells cs.toArray 39))
  have HRC := Lib.hid (show (w.alloc (.cells cs.toArray 39)).rangeAt w.heap.size 2 (CT.mk op lo hi lw hg ca cn cc cch).cells from range_con (c := .mk op lo hi lw hg ca cn cc cch) (HIN.out w (Below.refl _ _)) (by intro _ _ _ _ _ _ _ _ _ _ _ _ _ _ _ e; cases e; rfl) (by rw [hcs]; exact HX.out))
  have HCW := Lib.hid (Nat.le_trans hcl (by decide : 900000000 ≤ 1000000000))
  have HLN := Lib.hid (show (bndT (.mk op lo hi lw hg ca cn cc cch) ext szB szC).length ≤ 2000000000 by
    have h := bndT_len (.mk op lo hi lw hg ca cn cc cch) ext szB szC
    have h2 : szB.length = 8 := rfl
    have h3 : szC.length = 2 := rfl
    omega)
  have HCT := Lib.hid (fun (h0 : op ≠ 0) (W : World) (hb : Below w.heap.size w W) => rtext_ok (.mk op lo hi lw hg ca cn cc cch) B W (hcon.below (hb.mono hB) (Nat.le_refl _)) (Nat.le_trans hB hb.size) (CT.ok_wf _ 40 hok h0) HCW.out)
  have HSZ := Lib.hid (fun (W : World) (hb : Below w.heap.size w W) => show Calls Tryz.prog 41 #[.agg cs.toArray] W fun e w' => e = .returned (.string (bs (bndT (.mk op lo hi lw hg ca cn cc cch) ext szB szC))) ∧ Below W.heap.size W w' by
    have h := rsize_ok (TT.mk kd tn (.mk op lo hi lw hg ca cn cc cch) ext fr ⟨sa, sn, sc, sf⟩ ⟨ma, mn, mc, mf⟩ ⟨pa, pn, pc, pf⟩ ptf ⟨aa, an, ac, af⟩ atf ea en ec etf) (.mk op lo hi lw hg ca cn cc cch) ext W.heap.size W (HIN.out W hb) (Nat.le_refl _) (by intro _ _ _ _ _ _ _ _ _ _ _ _ _ _ _ e; cases e; rfl) rfl rfl hok HCW.out
    rw [hcs] at h
    exact h)
  have HNM := Lib.hid (fun (W : World) (hb : Below w.heap.size w W) => show SLIn W.heap.size W ⟨sa, sn, sc, sf⟩ from (hnm.below (hb.mono hB) (Nat.le_refl _)).below (Below.refl _ _) (Nat.le_trans hB hb.size))
  have HMO := Lib.hid (fun (W : World) (hb : Below w.heap.size w W) => show SLIn W.heap.size W ⟨ma, mn, mc, mf⟩ from (hmo.below (hb.mono hB) (Nat.le_refl _)).below (Below.refl _ _) (Nat.le_trans hB hb.size))
  have HM := Lib.hid hB
  have HXA := Lib.hid hxa
  have HPA := Lib.hid (fun (W' : World) (hb : Below w.heap.size w W') => rparts_text2 B W' pa pn pc pf ptf (Nat.le_trans hB hb.size) hpn (hpr.below (hb.mono hB) (Nat.le_refl _)) (fun i hi => ⟨(hp i hi).1.below (hb.mono hB) (Nat.le_refl _), (hp i hi).2.below (hb.mono hB) (Nat.le_refl _)⟩) hdp (fun i hi w' hb' => RP i hi w' (hb.trans (hb'.mono hb.size))))
  have HAA := Lib.hid (fun (W' : World) (hb : Below w.heap.size w W') => rparts_text2 B W' aa an ac af atf (Nat.le_trans hB hb.size) han (har.below (hb.mono hB) (Nat.le_refl _)) (fun i hi => ⟨(ha i hi).1.below (hb.mono hB) (Nat.le_refl _), (ha i hi).2.below (hb.mono hB) (Nat.le_refl _)⟩) hda (fun i hi w' hb' => RA i hi w' (hb.trans (hb'.mono hb.size))))
  clear hxa hpn han hdp hda RP RA
  have HEX := Lib.hid hex
  obtain ⟨W, hW⟩ : ∃ W, w.alloc (.cells cs.toArray 39) = W := ⟨_, rfl⟩
  rw [hW] at HX HB HRC
  clear hcon hnm hmo hpr hp har ha her he hB hfr htn hl hcs hres hok hex hcl htl HIN
  have hk := hkd
  · subst hk
    have d0 : W.cell? ⟨w.heap.size, 0, none⟩ = some (.int .i64 8) := HX.out.cell 0 (by rw [List.getElem?_toArray]; exact C0.out)
    have d8 : W.cell? ⟨w.heap.size, 8, none⟩ = some (.bool ext) := HX.out.cell 8 (by rw [List.getElem?_toArray]; exact C8.out)
    have d12 : W.cell? ⟨w.heap.size, 12, none⟩ = some (.slice pa pn pc) := HX.out.cell 12 (by rw [List.getElem?_toArray]; exact C12.out)
    have d13 : W.cell? ⟨w.heap.size, 13, none⟩ = some (.slice aa an ac) := HX.out.cell 13 (by rw [List.getElem?_toArray]; exact C13.out)
    have HR := Lib.hid (show res = bs ([83, 69, 81, 85, 69, 78, 67, 69, 32] ++ braT (fun i => partT (pf i) (ptf i).txt) pn ext (fun i => partT (af i) (atf i).txt) an) from HRES.out)
    have HL0 := Lib.hid (show (braT (fun i => partT (pf i) (ptf i).txt) pn ext (fun i => partT (af i) (atf i).txt) an).length ≤ 1000000000 by
      have h2 : ([83, 69, 81, 85, 69, 78, 67, 69, 32] ++ braT (fun i => partT (pf i) (ptf i).txt) pn ext (fun i => partT (af i) (atf i).txt) an : List UInt8).length ≤ 1000000000 := HTL.out.1
      rw [List.length_append] at h2
      omega)
    have HLI := Lib.hid (fun (W' : World) (a1 a2 : Option Addr) (k1 k2 : Nat) (h1 : SRow W'.heap.size W' a1 pn k1 (fun i => bs (partT (pf i) (ptf i).txt))) (h2 : SRow W'.heap.size W' a2 an k2 (fun i => bs (partT (af i) (atf i).txt))) => show Calls Tryz.prog 40 #[.slice a1 pn k1, .bool ext, .slice a2 an k2] W' fun e w' => e = .returned (.string (bs (braT (fun i => partT (pf i) (ptf i).txt) pn ext (fun i => partT (af i) (atf i).txt) an))) ∧ Below W'.heap.size W' w' by
      have hl := HL0.out
      cases ext with
      | true => exact rlist_ext W'.heap.size W' a1 pn k1 _ a2 an k2 _ (Nat.le_refl _) h1 h2 hl
      | false =>
        have h0 : an = 0 := HXA.out.resolve_left (by decide)
        subst h0
        exact rlist_no W'.heap.size W' a1 pn k1 _ a2 0 k2 (fun i => partT (af i) (atf i).txt) (Nat.le_refl _) h1 hl)
    obtain ⟨X, hX⟩ : ∃ X, bs (braT (fun i => partT (pf i) (ptf i).txt) pn ext (fun i => partT (af i) (atf i).txt) an) = X := ⟨_, rfl⟩
    have zX : X.size ≤ 1000000000 := by rw [← hX, bs_size]; exact HL0.out
    rw [hX] at HLI
    have f1 : ¬ 9223372036854775807 < 9 + X.size := by omega
    obtain rfl : res = (⟨#[83, 69, 81, 85, 69, 78, 67, 69, 32]⟩ : ByteArray) ++ X := by rw [HR.out, ← hX, show (⟨#[83, 69, 81, 85, 69, 78, 67, 69, 32]⟩ : ByteArray) = bs [83, 69, 81, 85, 69, 78, 67, 69, 32] from rfl, bs_append]
    obtain ⟨F, hF⟩ : ∃ F : Nat → ByteArray, (fun i => bs (partT (pf i) (ptf i).txt)) = F := ⟨_, rfl⟩
    obtain ⟨G, hG⟩ : ∃ G : Nat → ByteArray, (fun i => bs (partT (af i) (atf i).txt)) = G := ⟨_, rfl⟩
    rw [hF] at HPA HLI
    rw [hG] at HAA HLI
    have HSC := Lib.hid (fun (W' : World) (hb : Below W.heap.size W W') => And.intro (kept_cell hb d8) (And.intro (kept_cell hb d12) (kept_cell hb d13)))
    have HPW := Lib.hid (fun (W' : World) (hb : Below W.heap.size W W') => HPA.out W' (HB.out.trans (hb.mono HB.out.size)))
    have HAW := Lib.hid (fun (W' : World) (hb : Below W.heap.size W W') => HAA.out W' (HB.out.trans (hb.mono HB.out.size)))
    have HBd := Lib.hid (Below.drew (Below.refl W.heap.size W))
    have HS0 := Lib.hid (HSC.out _ HBd.out)
    clear HSZ HNM HMO HRC HCT HM HEX HLN HTL HCW HR HRES hX zX HX HL C0 C1 C2 C8 C9 C10 C11 C12 C13 C14 HPA HAA HXA HL0 hF hG
    go_enter Tryz.func25, Tryz.ntmps25
    go_wp2_with fail
    go_region_held3 (fun w' => w'.cell? ⟨w.heap.size, 8, none⟩ = some (.bool ext) ∧ w'.cell? ⟨w.heap.size, 12, none⟩ = some (.slice pa pn pc) ∧ w'.cell? ⟨w.heap.size, 13, none⟩ = some (.slice aa an ac)) (first | with_reducible exact HSz.out | with_reducible exact HSy.out | with_reducible exact HSx.out | with_reducible exact HS0.out) (first
      | (go_at_call 40; with_reducible refine (HLI.out _ _ _ _ _ HP9.out HA9.out).mono ?_; rintro e wz ⟨rfl, hb⟩; have HBz := Lib.hid (HBy.out.trans (hb.mono HBy.out.size)); have HSz := Lib.hid (HSC.out wz HBz.out); clear hb)
      | (go_at_call 43; with_reducible refine (HPW.out _ HBd.out).mono ?_; rintro e wx ⟨a1, k1, rfl, hs, hb⟩; have HBxp := Lib.hid (HBd.out.trans (hb.mono HBd.out.size)); have HP1 := Lib.hid hs; have HSx := Lib.hid (HSC.out wx HBxp.out); clear hb hs)
      | (go_at_call 43; with_reducible refine (HAW.out _ HBd.out).mono ?_; rintro e wx ⟨a2, k2, rfl, hs, hb⟩; have HBxa := Lib.hid (HBd.out.trans (hb.mono HBd.out.size)); have HA1 := Lib.hid hs; have HSx := Lib.hid (HSC.out wx HBxa.out); clear hb hs)
      | (go_at_call 43; with_reducible refine (HPW.out _ HBxa.out).mono ?_; rintro e wy ⟨a1, k1, rfl, hs, hb⟩; have HBy := Lib.hid (HBxa.out.trans (hb.mono HBxa.out.size)); have HP9 := Lib.hid hs; have HA9 := Lib.hid ((HA1.out.below hb (Nat.le_refl _)).below (Below.refl _ _) hb.size); have HSy := Lib.hid (HSC.out wy HBy.out); clear hb hs)
      | (go_at_call 43; with_reducible refine (HAW.out _ HBxp.out).mono ?_; rintro e wy ⟨a2, k2, rfl, hs, hb⟩; have HBy := Lib.hid (HBxp.out.trans (hb.mono HBxp.out.size)); have HA9 := Lib.hid hs; have HP9 := Lib.hid ((HP1.out.below hb (Nat.le_refl _)).below (Below.refl _ _) hb.size); have HSy := Lib.hid (HSC.out wy HBy.out); clear hb hs))
    all_goals go_wp2_with fail
    all_goals go_ret
    all_goals exact ⟨rfl, HB.out.trans (HBz.out.mono HB.out.size)⟩
set_option maxHeartbeats 16000000 in
theorem rtypeText_C (kd op lo hi : Int) (tn fr : ByteArray) (lw hg ext : Bool) (ca sa ma pa aa ea : Option Addr) (cn cc sn sc mn mc pn pc an ac en ec : Nat) (cch : Nat → CT) (sf mf : Nat → ByteArray) (pf af : Nat → PD) (ptf atf etf : Nat → TT) (B : Nat) (w : World)
    (hin : TIn B w (TT.mk kd tn (.mk op lo hi lw hg ca cn cc cch) ext fr ⟨sa, sn, sc, sf⟩ ⟨ma, mn, mc, mf⟩ ⟨pa, pn, pc, pf⟩ ptf ⟨aa, an, ac, af⟩ atf ea en ec etf)) (hB : B ≤ w.heap.size) (hok : (CT.mk op lo hi lw hg ca cn cc cch).ok 40 = true) (hex : ext = true ∨ (ext = false → mn = 0))
    (hcl : (CT.mk op lo hi lw hg ca cn cc cch).txt.length ≤ 900000000) (htl : (TT.mk kd tn (.mk op lo hi lw hg ca cn cc cch) ext fr ⟨sa, sn, sc, sf⟩ ⟨ma, mn, mc, mf⟩ ⟨pa, pn, pc, pf⟩ ptf ⟨aa, an, ac, af⟩ atf ea en ec etf).txt.length ≤ 1000000000)
    (hxa : ext = true ∨ an = 0) (hpn : pn ≤ 1000000000) (han : an ≤ 1000000000)
    (hdp : ∀ i, i < pn → (pf i).d.n ≤ 1 ∧ ((pf i).d.n = 1 → ((pf i).d.f 0).dflt = true) ∧ (pf i).wt ≤ 1000000000 ∧ (partT (pf i) (ptf i).txt).length ≤ 1000000000)
    (hda : ∀ i, i < an → (af i).d.n ≤ 1 ∧ ((af i).d.n = 1 → ((af i).d.f 0).dflt = true) ∧ (af i).wt ≤ 1000000000 ∧ (partT (af i) (atf i).txt).length ≤ 1000000000)
    (RP : ∀ i, i < pn → ∀ w' : World, Below w.heap.size w w' → Calls Tryz.prog 25 #[.agg (ptf i).cells.toArray] w' fun e w'' => e = .returned (.string (bs (ptf i).txt)) ∧ Below w'.heap.size w' w'')
    (RA : ∀ i, i < an → ∀ w' : World, Below w.heap.size w w' → Calls Tryz.prog 25 #[.agg (atf i).cells.toArray] w' fun e w'' => e = .returned (.string (bs (atf i).txt)) ∧ Below w'.heap.size w' w'')
    (hkd : kd = 10) :
    Calls Tryz.prog 25 #[.agg (TT.mk kd tn (.mk op lo hi lw hg ca cn cc cch) ext fr ⟨sa, sn, sc, sf⟩ ⟨ma, mn, mc, mf⟩ ⟨pa, pn, pc, pf⟩ ptf ⟨aa, an, ac, af⟩ atf ea en ec etf).cells.toArray] w fun e w' => e = .returned (.string (bs (TT.mk kd tn (.mk op lo hi lw hg ca cn cc cch) ext fr ⟨sa, sn, sc, sf⟩ ⟨ma, mn, mc, mf⟩ ⟨pa, pn, pc, pf⟩ ptf ⟨aa, an, ac, af⟩ atf ea en ec etf).txt)) ∧ Below w.heap.size w w' := by
  have HIN := Lib.hid (fun (W : World) (hb : Below w.heap.size w W) => (hin.below (hb.mono hB) (Nat.le_refl _)).below (Below.refl _ _) (Nat.le_trans hB hb.size))
  have hl := (one_tcells hin).1
  obtain ⟨⟨_, htn, hcon, hfr, hnm, hmo⟩, ⟨hpr, hp⟩, ⟨har, ha⟩, ⟨her, he⟩⟩ := hin
  have HTL := Lib.hid (show (TT.mk kd tn (.mk op lo hi lw hg ca cn cc cch) ext fr ⟨sa, sn, sc, sf⟩ ⟨ma, mn, mc, mf⟩ ⟨pa, pn, pc, pf⟩ ptf ⟨aa, an, ac, af⟩ atf ea en ec etf).txt.length ≤ 1000000000 ∧ (kd = 3 → (braT (fun i => (sf i).data.toList) sn ext (fun i => (mf i).data.toList) mn).length ≤ 1000000000) from ⟨htl, fun h => by
    subst h
    have h2 : ([69, 78, 85, 77, 69, 82, 65, 84, 69, 68, 32] ++ braT (fun i => (sf i).data.toList) sn ext (fun i => (mf i).data.toList) mn : List UInt8).length ≤ 1000000000 := htl
    rw [List.length_append] at h2
    omega⟩)
  obtain ⟨res, hres⟩ : ∃ res, bs (TT.mk kd tn (.mk op lo hi lw hg ca cn cc cch) ext fr ⟨sa, sn, sc, sf⟩ ⟨ma, mn, mc, mf⟩ ⟨pa, pn, pc, pf⟩ ptf ⟨aa, an, ac, af⟩ atf ea en ec etf).txt = res := ⟨_, rfl⟩
  rw [hres]
  have HRES := Lib.hid hres.symm
  obtain ⟨cs, hcs⟩ : ∃ cs, (TT.mk kd tn (.mk op lo hi lw hg ca cn cc cch) ext fr ⟨sa, sn, sc, sf⟩ ⟨ma, mn, mc, mf⟩ ⟨pa, pn, pc, pf⟩ ptf ⟨aa, an, ac, af⟩ atf ea en ec etf).cells = cs := ⟨_, rfl⟩
  have C0 := Lib.hid (show cs[0]? = some (.int .i64 kd) by rw [← hcs]; rfl)
  have C1 := Lib.hid (show cs[1]? = some (.string tn) by rw [← hcs]; rfl)
  have C2 := Lib.hid (show cs[2]? = some (.int .i64 op) by rw [← hcs]; rfl)
  have C8 := Lib.hid (show cs[8]? = some (.bool ext) by rw [← hcs]; rfl)
  have C9 := Lib.hid (show cs[9]? = some (.string fr) by rw [← hcs]; rfl)
  have C10 := Lib.hid (show cs[10]? = some (.slice sa sn sc) by rw [← hcs]; rfl)
  have C11 := Lib.hid (show cs[11]? = some (.slice ma mn mc) by rw [← hcs]; rfl)
  have C14 := Lib.hid (show cs[14]? = some (.slice ea en ec) by rw [← hcs]; rfl)
  have C12 := Lib.hid (show cs[12]? = some (.slice pa pn pc) by rw [← hcs]; rfl)
  have C13 := Lib.hid (show cs[13]? = some (.slice aa an ac) by rw [← hcs]; rfl)
  rw [hcs]
  have HL := Lib.hid (show cs.length = 15 by rw [← hcs]; exact hl)
  have HX := Lib.hid (Bx.new w cs.toArray 39)
  have HB := Lib.hid ((Below.refl w.heap.size w).alloc (Nat.le_refl _) (.cells cs.toArray 39))
  have HRC := Lib.hid (show (w.alloc (.cells cs.toArray 39)).rangeAt w.heap.size 2 (CT.mk op lo hi lw hg ca cn cc cch).cells from range_con (c := .mk op lo hi lw hg ca cn cc cch) (HIN.out w (Below.refl _ _)) (by intro _ _ _ _ _ _ _ _ _ _ _ _ _ _ _ e; cases e; rfl) (by rw [hcs]; exact HX.out))
  have HCW := Lib.hid (Nat.le_trans hcl (by decide : 900000000 ≤ 1000000000))
  have HLN := Lib.hid (show (bndT (.mk op lo hi lw hg ca cn cc cch) ext szB szC).length ≤ 2000000000 by
    have h := bndT_len (.mk op lo hi lw hg ca cn cc cch) ext szB szC
    have h2 : szB.length = 8 := rfl
    have h3 : szC.length = 2 := rfl
    omega)
  have HCT := Lib.hid (fun (h0 : op ≠ 0) (W : World) (hb : Below w.heap.size w W) => rtext_ok (.mk op lo hi lw hg ca cn cc cch) B W (hcon.below (hb.mono hB) (Nat.le_refl _)) (Nat.le_trans hB hb.size) (CT.ok_wf _ 40 hok h0) HCW.out)
  have HSZ := Lib.hid (fun (W : World) (hb : Below w.heap.size w W) => show Calls Tryz.prog 41 #[.agg cs.toArray] W fun e w' => e = .returned (.string (bs (bndT (.mk op lo hi lw hg ca cn cc cch) ext szB szC))) ∧ Below W.heap.size W w' by
    have h := rsize_ok (TT.mk kd tn (.mk op lo hi lw hg ca cn cc cch) ext fr ⟨sa, sn, sc, sf⟩ ⟨ma, mn, mc, mf⟩ ⟨pa, pn, pc, pf⟩ ptf ⟨aa, an, ac, af⟩ atf ea en ec etf) (.mk op lo hi lw hg ca cn cc cch) ext W.heap.size W (HIN.out W hb) (Nat.le_refl _) (by intro _ _ _ _ _ _ _ _ _ _ _ _ _ _ _ e; cases e; rfl) rfl rfl hok HCW.out
    rw [hcs] at h
    exact h)
  have HNM := Lib.hid (fun (W : World) (hb : Below w.heap.size w W) => show SLIn W.heap.size W ⟨sa, sn, sc, sf⟩ from (hnm.below (hb.mono hB) (Nat.le_refl _)).below (Below.refl _ _) (Nat.le_trans hB hb.size))
  have HMO := Lib.hid (fun (W : World) (hb : Below w.heap.size w W) => show SLIn W.heap.size W ⟨ma, mn, mc, mf⟩ from (hmo.below (hb.mono hB) (Nat.le_refl _)).below (Below.refl _ _) (Nat.le_trans hB hb.size))
  have HM := Lib.hid hB
  have HXA := Lib.hid hxa
  have HPA := Lib.hid (fun (W' : World) (hb : Below w.heap.size w W') => rparts_text2 B W' pa pn pc pf ptf (Nat.le_trans hB hb.size) hpn (hpr.below (hb.mono hB) (Nat.le_refl _)) (fun i hi => ⟨(hp i hi).1.below (hb.mono hB) (Nat.le_refl _), (hp i hi).2.below (hb.mono hB) (Nat.le_refl _)⟩) hdp (fun i hi w' hb' => RP i hi w' (hb.trans (hb'.mono hb.size))))
  have HAA := Lib.hid (fun (W' : World) (hb : Below w.heap.size w W') => rparts_text2 B W' aa an ac af atf (Nat.le_trans hB hb.size) han (har.below (hb.mono hB) (Nat.le_refl _)) (fun i hi => ⟨(ha i hi).1.below (hb.mono hB) (Nat.le_refl _), (ha i hi).2.below (hb.mono hB) (Nat.le_refl _)⟩) hda (fun i hi w' hb' => RA i hi w' (hb.trans (hb'.mono hb.size))))
  clear hxa hpn han hdp hda RP RA
  have HEX := Lib.hid hex
  obtain ⟨W, hW⟩ : ∃ W, w.alloc (.cells cs.toArray 39) = W := ⟨_, rfl⟩
  rw [hW] at HX HB HRC
  clear hcon hnm hmo hpr hp har ha her he hB hfr htn hl hcs hres hok hex hcl htl HIN
  have hk := hkd
  · subst hk
    have d0 : W.cell? ⟨w.heap.size, 0, none⟩ = some (.int .i64 10) := HX.out.cell 0 (by rw [List.getElem?_toArray]; exact C0.out)
    have d8 : W.cell? ⟨w.heap.size, 8, none⟩ = some (.bool ext) := HX.out.cell 8 (by rw [List.getElem?_toArray]; exact C8.out)
    have d12 : W.cell? ⟨w.heap.size, 12, none⟩ = some (.slice pa pn pc) := HX.out.cell 12 (by rw [List.getElem?_toArray]; exact C12.out)
    have d13 : W.cell? ⟨w.heap.size, 13, none⟩ = some (.slice aa an ac) := HX.out.cell 13 (by rw [List.getElem?_toArray]; exact C13.out)
    have HR := Lib.hid (show res = bs ([67, 72, 79, 73, 67, 69, 32] ++ braT (fun i => partT (pf i) (ptf i).txt) pn ext (fun i => partT (af i) (atf i).txt) an) from HRES.out)
    have HL0 := Lib.hid (show (braT (fun i => partT (pf i) (ptf i).txt) pn ext (fun i => partT (af i) (atf i).txt) an).length ≤ 1000000000 by
      have h2 : ([67, 72, 79, 73, 67, 69, 32] ++ braT (fun i => partT (pf i) (ptf i).txt) pn ext (fun i => partT (af i) (atf i).txt) an : List UInt8).length ≤ 1000000000 := HTL.out.1
      rw [List.length_append] at h2
      omega)
    have HLI := Lib.hid (fun (W' : World) (a1 a2 : Option Addr) (k1 k2 : Nat) (h1 : SRow W'.heap.size W' a1 pn k1 (fun i => bs (partT (pf i) (ptf i).txt))) (h2 : SRow W'.heap.size W' a2 an k2 (fun i => bs (partT (af i) (atf i).txt))) => show Calls Tryz.prog 40 #[.slice a1 pn k1, .bool ext, .slice a2 an k2] W' fun e w' => e = .returned (.string (bs (braT (fun i => partT (pf i) (ptf i).txt) pn ext (fun i => partT (af i) (atf i).txt) an))) ∧ Below W'.heap.size W' w' by
      have hl := HL0.out
      cases ext with
      | true => exact rlist_ext W'.heap.size W' a1 pn k1 _ a2 an k2 _ (Nat.le_refl _) h1 h2 hl
      | false =>
        have h0 : an = 0 := HXA.out.resolve_left (by decide)
        subst h0
        exact rlist_no W'.heap.size W' a1 pn k1 _ a2 0 k2 (fun i => partT (af i) (atf i).txt) (Nat.le_refl _) h1 hl)
    obtain ⟨X, hX⟩ : ∃ X, bs (braT (fun i => partT (pf i) (ptf i).txt) pn ext (fun i => partT (af i) (atf i).txt) an) = X := ⟨_, rfl⟩
    have zX : X.size ≤ 1000000000 := by rw [← hX, bs_size]; exact HL0.out
    rw [hX] at HLI
    have f1 : ¬ 9223372036854775807 < 7 + X.size := by omega
    obtain rfl : res = (⟨#[67, 72, 79, 73, 67, 69, 32]⟩ : ByteArray) ++ X := by rw [HR.out, ← hX, show (⟨#[67, 72, 79, 73, 67, 69, 32]⟩ : ByteArray) = bs [67, 72, 79, 73, 67, 69, 32] from rfl, bs_append]
    obtain ⟨F, hF⟩ : ∃ F : Nat → ByteArray, (fun i => bs (partT (pf i) (ptf i).txt)) = F := ⟨_, rfl⟩
    obtain ⟨G, hG⟩ : ∃ G : Nat → ByteArray, (fun i => bs (partT (af i) (atf i).txt)) = G := ⟨_, rfl⟩
    rw [hF] at HPA HLI
    rw [hG] at HAA HLI
    have HSC := Lib.hid (fun (W' : World) (hb : Below W.heap.size W W') => And.intro (kept_cell hb d8) (And.intro (kept_cell hb d12) (kept_cell hb d13)))
    have HPW := Lib.hid (fun (W' : World) (hb : Below W.heap.size W W') => HPA.out W' (HB.out.trans (hb.mono HB.out.size)))
    have HAW := Lib.hid (fun (W' : World) (hb : Below W.heap.size W W') => HAA.out W' (HB.out.trans (hb.mono HB.out.size)))
    have HBd := Lib.hid (Below.drew (Below.refl W.heap.size W))
    have HS0 := Lib.hid (HSC.out _ HBd.out)
    clear HSZ HNM HMO HRC HCT HM HEX HLN HTL HCW HR HRES hX zX HX HL C0 C1 C2 C8 C9 C10 C11 C12 C13 C14 HPA HAA HXA HL0 hF hG
    go_enter Tryz.func25, Tryz.ntmps25
    go_wp2_with fail
    go_region_held3 (fun w' => w'.cell? ⟨w.heap.size, 8, none⟩ = some (.bool ext) ∧ w'.cell? ⟨w.heap.size, 12, none⟩ = some (.slice pa pn pc) ∧ w'.cell? ⟨w.heap.size, 13, none⟩ = some (.slice aa an ac)) (first | with_reducible exact HSz.out | with_reducible exact HSy.out | with_reducible exact HSx.out | with_reducible exact HS0.out) (first
      | (go_at_call 40; with_reducible refine (HLI.out _ _ _ _ _ HP9.out HA9.out).mono ?_; rintro e wz ⟨rfl, hb⟩; have HBz := Lib.hid (HBy.out.trans (hb.mono HBy.out.size)); have HSz := Lib.hid (HSC.out wz HBz.out); clear hb)
      | (go_at_call 43; with_reducible refine (HPW.out _ HBd.out).mono ?_; rintro e wx ⟨a1, k1, rfl, hs, hb⟩; have HBxp := Lib.hid (HBd.out.trans (hb.mono HBd.out.size)); have HP1 := Lib.hid hs; have HSx := Lib.hid (HSC.out wx HBxp.out); clear hb hs)
      | (go_at_call 43; with_reducible refine (HAW.out _ HBd.out).mono ?_; rintro e wx ⟨a2, k2, rfl, hs, hb⟩; have HBxa := Lib.hid (HBd.out.trans (hb.mono HBd.out.size)); have HA1 := Lib.hid hs; have HSx := Lib.hid (HSC.out wx HBxa.out); clear hb hs)
      | (go_at_call 43; with_reducible refine (HPW.out _ HBxa.out).mono ?_; rintro e wy ⟨a1, k1, rfl, hs, hb⟩; have HBy := Lib.hid (HBxa.out.trans (hb.mono HBxa.out.size)); have HP9 := Lib.hid hs; have HA9 := Lib.hid ((HA1.out.below hb (Nat.le_refl _)).below (Below.refl _ _) hb.size); have HSy := Lib.hid (HSC.out wy HBy.out); clear hb hs)
      | (go_at_call 43; with_reducible refine (HAW.out _ HBxp.out).mono ?_; rintro e wy ⟨a2, k2, rfl, hs, hb⟩; have HBy := Lib.hid (HBxp.out.trans (hb.mono HBxp.out.size)); have HA9 := Lib.hid hs; have HP9 := Lib.hid ((HP1.out.below hb (Nat.le_refl _)).below (Below.refl _ _) hb.size); have HSy := Lib.hid (HSC.out wy HBy.out); clear hb hs))
    all_goals go_wp2_with fail
    all_goals go_ret
    all_goals exact ⟨rfl, HB.out.trans (HBz.out.mono HB.out.size)⟩
end Go.Proofs.YtgmnojnalkhepaaGreatDoor

/-
  The document's typeText, joined over the kinds.
-/
namespace Go.Proofs.YtgmnojnalkhepaaGreatDoor
open Go.RowKit Go.BigFrame
set_option linter.unusedVariables false
set_option linter.unusedSimpArgs false
set_option maxRecDepth 100000

theorem tFlds_adds {kd : Int} {b0 b1 ext b3 b4 b5 b6 b7 b8 : Bool} (h : tFlds kd b0 b1 ext b3 b4 b5 b6 b7 b8 = true) : (ext = true ∨ b5 = false) ∧ (ext = true ∨ b7 = false) := by
  unfold tFlds at h
  repeat' split at h
  all_goals cases b5 <;> cases b7 <;> cases ext <;> simp at h ⊢
theorem part_dd {B : Nat} {W : World} (kd : Int) (l : PL) (tt : Nat → TT) (hl : fewOk (fun i => if kd = 10 then altOk (l.f i) (tt i).ok else compOk (l.f i) (tt i).ok) l.n = true) (hin : ∀ i, i < l.n → PDIn B W (l.f i) ∧ TIn B W (tt i)) (hs : sumN (fun i => (l.f i).wt + (tt i).wt) l.n ≤ 2000000) :
    l.n ≤ 256 ∧ ∀ i, i < l.n → ((tt i).ok = true ∧ (tt i).wt ≤ 2000000) ∧ (l.f i).d.n ≤ 1 ∧ ((l.f i).d.n = 1 → ((l.f i).d.f 0).dflt = true) ∧ (l.f i).wt ≤ 1000000000 ∧ (partT (l.f i) (tt i).txt).length ≤ 1000000000 := by
  unfold fewOk at hl
  simp only [Bool.and_eq_true] at hl
  refine ⟨of_decide_eq_true hl.1, fun i hi => ?_⟩
  have h1 := sumN_one (f := fun i => (l.f i).wt + (tt i).wt) hi
  try simp only at h1
  have h2 := allN_iff.1 hl.2 i hi
  try simp only at h2
  have hcmp : compOk (l.f i) (tt i).ok = true := by
    split at h2
    · simp only [altOk, Bool.and_eq_true] at h2
      exact h2.1
    · exact h2
  have hok := compOk_in hcmp
  have hq := TQ_of_ok (tt i) (hin i hi).2 (by omega) hok
  have h3 := TT.txt_wt (tt i) (hin i hi).2 hq
  have h4 := partT_len (l.f i) (tt i).txt (hin i hi).1
  simp only [compOk, Bool.and_eq_true] at hcmp
  exact ⟨⟨hok, by omega⟩, of_decide_eq_true hcmp.2.2.2.1, fun e => allN_iff.1 hcmp.2.2.2.2 0 (by omega), by omega, by omega⟩
theorem rtypeText_ok : ∀ (t : TT) (B : Nat) (w : World), TIn B w t → B ≤ w.heap.size → t.wt ≤ 2000000 → t.ok = true →
    Calls Tryz.prog 25 #[.agg t.cells.toArray] w fun e w' => e = .returned (.string (bs t.txt)) ∧ Below w.heap.size w w'
  | .nil, _, _, h, _, _, _ => h.elim
  | .mk _ _ .nil _ _ _ _ _ _ _ _ _ _ _ _, _, _, h, _, _, _ => h.1.2.2.1.elim
  | .mk kd tn (.mk op lo hi lw hg ca cn cc cch) ext fr ⟨sa, sn, sc, sf⟩ ⟨ma, mn, mc, mf⟩ ⟨pa, pn, pc, pf⟩ ptf ⟨aa, an, ac, af⟩ atf ea en ec etf, B, w, hin, hB, hw, hok => by
    have hq := TQ_of_ok _ hin (by omega) hok
    have htx := TT.txt_wt _ hin hq
    have hcw := CT.txt_wt _ hin.1.2.2.1
    have htl := Nat.le_trans (Nat.le_trans (Nat.le_add_right _ 20) htx) (show 100 * _ ≤ 1000000000 by omega)
    have hok2 := hok
    unfold TT.ok at hok2
    simp only [Bool.and_eq_true] at hok2
    obtain ⟨hf, h11, hc, hal, hn, hm, hpo, hao, he1, heo⟩ := hok2
    obtain ⟨k1, k9, k11⟩ := tFlds_kind hf
    obtain ⟨hx5, hx7⟩ := tFlds_adds hf
    have hex : ext = true ∨ (ext = false → mn = 0) := hx5.imp id fun h _ => by have h2 := of_decide_eq_false h; have h3 : ¬ 0 < mn := h2; omega
    have hxa : ext = true ∨ an = 0 := hx7.imp id fun h => by have h2 := of_decide_eq_false h; have h3 : ¬ 0 < an := h2; omega
    simp only [TT.wt] at hw
    have hcl : (CT.mk op lo hi lw hg ca cn cc cch).txt.length ≤ 900000000 := by omega
    have hfz : fr.size ≤ 1000000000 := by omega
    obtain ⟨hpn, DP⟩ := part_dd kd ⟨pa, pn, pc, pf⟩ ptf hpo hin.2.1.2 (show sumN (fun i => (pf i).wt + (ptf i).wt) pn ≤ 2000000 by omega)
    obtain ⟨han, DA⟩ := part_dd kd ⟨aa, an, ac, af⟩ atf hao hin.2.2.1.2 (show sumN (fun i => (af i).wt + (atf i).wt) an ≤ 2000000 by omega)
    have he9 : kd = 9 → en = 1 := fun k => by have h1 := of_decide_eq_true (k9 k); have h2 := of_decide_eq_true he1; omega
    have RP := fun i (hi : i < pn) (w' : World) (hb : Below w.heap.size w w') => rtypeText_ok (ptf i) w.heap.size w' ((hin.2.1.2 i hi).2.below hb hB) hb.size (DP i hi).1.2 (DP i hi).1.1
    have RA := fun i (hi : i < an) (w' : World) (hb : Below w.heap.size w w') => rtypeText_ok (atf i) w.heap.size w' ((hin.2.2.1.2 i hi).2.below hb hB) hb.size (DA i hi).1.2 (DA i hi).1.1
    have RE : kd = 9 → ∀ w' : World, Below w.heap.size w w' → Calls Tryz.prog 25 #[.agg (etf 0).cells.toArray] w' fun e w'' => e = .returned (.string (bs (etf 0).txt)) ∧ Below w'.heap.size w' w'' := fun k w' hb => by
      have h0 : 0 < en := by have := he9 k; omega
      have h1 := sumN_one (f := fun i => (etf i).wt) h0
      try simp only at h1
      exact rtypeText_ok (etf 0) w.heap.size w' ((hin.2.2.2.2 0 h0).below hb hB) hb.size (by omega) (allN_iff.1 heo 0 h0)
    have hpn2 : pn ≤ 1000000000 := Nat.le_trans hpn (by decide)
    have han2 : an ≤ 1000000000 := Nat.le_trans han (by decide)
    by_cases c1 : kd = 1 ∨ kd = 4 ∨ kd = 11
    · exact rtypeText_A kd op lo hi tn fr lw hg ext ca sa ma pa aa ea cn cc sn sc mn mc pn pc an ac en ec cch sf mf pf af ptf atf etf B w hin hB hc hex hcl htl c1
    by_cases c2 : kd = 5 ∨ kd = 6
    · exact rtypeText_B kd op lo hi tn fr lw hg ext ca sa ma pa aa ea cn cc sn sc mn mc pn pc an ac en ec cch sf mf pf af ptf atf etf B w hin hB hc hex hcl htl c2
    by_cases c3 : kd = 2
    · exact rtypeText_I kd op lo hi tn fr lw hg ext ca sa ma pa aa ea cn cc sn sc mn mc pn pc an ac en ec cch sf mf pf af ptf atf etf B w hin hB hc hex hcl htl c3
    by_cases c4 : kd = 3
    · exact rtypeText_D kd op lo hi tn fr lw hg ext ca sa ma pa aa ea cn cc sn sc mn mc pn pc an ac en ec cch sf mf pf af ptf atf etf B w hin hB hc hex hcl htl c4
    by_cases c5 : kd = 7
    · exact rtypeText_F kd op lo hi tn fr lw hg ext ca sa ma pa aa ea cn cc sn sc mn mc pn pc an ac en ec cch sf mf pf af ptf atf etf B w hin hB hc hex hcl htl hfz he9 RE c5
    by_cases c6 : kd = 9
    · exact rtypeText_E kd op lo hi tn fr lw hg ext ca sa ma pa aa ea cn cc sn sc mn mc pn pc an ac en ec cch sf mf pf af ptf atf etf B w hin hB hc hex hcl htl hfz he9 RE c6
    by_cases c7 : kd = 8
    · exact rtypeText_P kd op lo hi tn fr lw hg ext ca sa ma pa aa ea cn cc sn sc mn mc pn pc an ac en ec cch sf mf pf af ptf atf etf B w hin hB hc hex hcl htl hxa hpn2 han2 (fun i hi => (DP i hi).2) (fun i hi => (DA i hi).2) RP RA c7
    · exact rtypeText_C kd op lo hi tn fr lw hg ext ca sa ma pa aa ea cn cc sn sc mn mc pn pc an ac en ec cch sf mf pf af ptf atf etf B w hin hB hc hex hcl htl hxa hpn2 han2 (fun i hi => (DP i hi).2) (fun i hi => (DA i hi).2) RP RA (by omega)
end Go.Proofs.YtgmnojnalkhepaaGreatDoor

/-
  The document's TypeText.
-/
namespace Go.Proofs.YtgmnojnalkhepaaGreatDoor
open Go.RowKit Go.BigFrame
set_option linter.unusedVariables false
set_option linter.unusedSimpArgs false
set_option maxRecDepth 100000

end Go.Proofs.YtgmnojnalkhepaaGreatDoor
