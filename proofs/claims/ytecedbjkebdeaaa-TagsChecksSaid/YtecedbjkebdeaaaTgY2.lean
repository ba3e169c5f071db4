/-
  Package tags: 'joinParts', over what 'join' does.
-/
import Derived.Test.YtecedbjkebdeaaaTgY
namespace Go.Proofs.Ytecedbjkebdeaaa
open Go.RowKit Go.Maps Go.WideElems Go.ChangeMaps Go.MapKept Go.Shelf
set_option linter.unusedVariables false
set_option linter.unusedSimpArgs false
set_option maxRecDepth 100000

theorem ahead_stays (t : TT) (i : Nat) : ahead t.kd (t.ald i) (decide (t.pn ≤ i)) = t.stays i := rfl
def RelJP (B : Nat) (l : EL) (b ks : Nat) (t : TT) (s0 : TS) (G : GL) (V : GV) (w : World) (iv : Value) (wr : World) : Prop :=
  ∃ (i : Nat) (V' : GV) (P : TS), i ≤ t.nal ∧ iv = .int .i64 (i : Nat) ∧ GAt B wr b l G V' ∧ JV b (some ks) V V' w wr ∧ SetAt wr ks P ∧ JI l t s0 i P
set_option maxHeartbeats 8000000 in
theorem parts_ok (l : EL) (G : GL) (B : Nat) (t : TT) (hJ : ∀ i, i < t.nal → JoinC l G B (t.alt i)) (hnl : t.nal ≤ 10000) (w : World) (b ks : Nat) (V : GV) (s0 : TS) (hG : GAt B w b l G V) (hB : B ≤ w.heap.size) (hl : EOk B w l) (ht : TIn B w t) (hs : SetAt w ks s0) (hko : V.own ks = .no) (hkB : B ≤ ks) :
    Calls Try.prog 27 #[.pointer (some ⟨b, 0, none⟩), .map (some ks), .agg t.cells.toArray] w fun e w' => ∃ r V', e = .returned (.bool r) ∧ GAt B w' b l G V' ∧ JV b (some ks) V V' w w' ∧ (r = true → ∃ P, SetAt w' ks P ∧ JI l t s0 t.nal P) ∧ (r = false → ¬ PartsOk l t s0) := by
  obtain ⟨pa, pc, aa, ac, ea, ec, TC⟩ := ht.tcells
  have HTC := Lib.hid TC
  have HXN := Lib.hid (Bx.new w t.cells.toArray 35)
  have c12 := HXN.out.cell 12 TC.ps
  have c13 := HXN.out.cell 13 TC.ads
  have HB0 := Lib.hid (show Below w.heap.size w (w.alloc (.cells t.cells.toArray 35)) from (Below.refl w.heap.size w).alloc (Nat.le_refl _) _)
  have hblt := hG.bx.lt
  have hkslt := hs.lt
  have hksb : ks ≠ b := fun e => by have := hG.ob; rw [← e, hko] at this; cases this
  have HCC := Lib.hid (fun (W2 : World) (g0 : Nat) (hb : Below w.heap.size w W2) (hg0 : g0 < W2.heap.size) (e0 : W2.cell? ⟨g0, 0, none⟩ = some (.slice pa t.pn pc)) (e1 : W2.cell? ⟨g0, 1, none⟩ = some (.slice aa t.an ac)) =>
    concat_ok W2 B g0 pa t.pn pc _ aa t.an ac _ (Nat.le_trans hB hb.size) hg0 e0 e1 (TC.pr.below (hb.mono hB) (Nat.le_refl _)) (TC.ar.below (hb.mono hB) (Nat.le_refl _)) (fun i hi => (one_pcells (TC.al i (by unfold TT.nal; omega)).2).1) (fun i hi => (one_pcells (TC.al (t.pn + i) (by unfold TT.nal; omega)).2).1) (fun i hi => (one_pcells (TC.al i (by unfold TT.nal; omega)).2).2) (fun i hi => (one_pcells (TC.al (t.pn + i) (by unfold TT.nal; omega)).2).2) (by unfold TT.nal at hnl; omega) (by unfold TT.nal at hnl; omega))
  have HBC := Lib.hid (show Below w.heap.size w ((w.alloc (.cells t.cells.toArray 35)).alloc (.cells #[.slice pa t.pn pc, .slice aa t.an ac] 32)) from HB0.out.alloc (by simp) _)
  have HBY := Lib.hid (Bx.new (w.alloc (.cells t.cells.toArray 35)) #[.slice pa t.pn pc, .slice aa t.an ac] 32)
  have HSW := Lib.hid (show (w.alloc (.cells t.cells.toArray 35)).heap.size = w.heap.size + 1 by simp)
  have HCX := Lib.hid (HCC.out _ (w.heap.size + 1) HBC.out (by simp) (by rw [← HSW.out]; exact HBY.out.cell 0 rfl) (by rw [← HSW.out]; exact HBY.out.cell 1 rfl))
  have HSZ := Lib.hid (show w.heap.size + 2 = ((w.alloc (.cells t.cells.toArray 35)).alloc (.cells #[.slice pa t.pn pc, .slice aa t.an ac] 32)).heap.size by simp)
  have HXB := Lib.hid (HXN.out.alloc (.cells #[.slice pa t.pn pc, .slice aa t.an ac] 32))
  have HLO := Lib.hid hG.lo
  have HJJ := Lib.hid hJ
  have HGG := Lib.hid hG
  have HSS := Lib.hid hs
  have HEO := Lib.hid hl
  clear HCC TC hs hG hl hJ
  go_enter Try.func27, Try.ntmps27
  go_wp2_with fail
  refine HCX.out.mono ?_
  rintro e w1 ⟨v, rfl, hpr, hb⟩
  have hb1 : Below w.heap.size w w1 := HBC.out.trans (hb.mono (by have := HSZ.out; omega))
  obtain ⟨hg1, _⟩ := GAtL.of_below HGG.out hb1
  have hpr2 := hpr.congr (g := fun i => pcells (t.ald i) (t.alt i)) (fun i hi => by
    by_cases hp : i < t.pn
    · show (if i < t.pn then _ else _) = _
      rw [if_pos hp]
    · show (if i < t.pn then _ else _) = _
      rw [if_neg hp, show t.pn + (i - t.pn) = i by omega])
  obtain ⟨va, vc, hve, hvn, hvr⟩ := hpr2
  subst hve
  have HG1 := Lib.hid (show GAt B w1 b l G V from hg1)
  have HB1 := Lib.hid hb1
  have hs1 : w.heap.size + 2 ≤ w1.heap.size := by have h1 := hb.size; have h2 := HSZ.out; omega
  have HS1 := Lib.hid (HSS.out.block (hb1.block ks hkslt))
  have HXB1 := Lib.hid (HXB.out.below hb (by have := HSZ.out; omega))
  obtain ⟨N, hN⟩ : ∃ N, t.pn + t.an = N := ⟨_, rfl⟩
  have HN := Lib.hid (show t.nal = N from hN)
  rw [hN] at hvr hvn ⊢
  have HVR := Lib.hid hvr
  have hN3 : N ≤ 10000 := by have := HN.out; omega
  have HL1 := Lib.hid (hb.size)
  clear hpr hb hb1 hg1 hvr hvn c12 c13 HCX
  go_wp2_with fail
  go_loopw [17] (fun iv wr => RelJP B l b ks t s0 G V w1 iv wr) (fun iv _ => N - (Lib.intOf iv).toNat)
  case atStart => exact ⟨0, V, s0, Nat.zero_le _, rfl, HG1.out, JV.refl _ _ _ _, HS1.out, JI.start l t s0⟩
  case round =>
  obtain ⟨i, V', P, hi, rfl, hG', hM', hS', hI'⟩ := hrel
  rw [HN.out] at hi
  have hBw : B ≤ w1.heap.size := by omega
  have hbw := hM'.below HG1.out hBw (fun k hk => by cases hk; exact hkB)
  have HBW := Lib.hid ((HB1.out.mono hB).trans hbw)
  have HGW := Lib.hid hG'
  have HMW := Lib.hid hM'
  have HSP := Lib.hid hS'
  have HIW := Lib.hid hI'
  have hszr := hM'.jm.size
  have hxr : Bx wr w.heap.size t.cells.toArray 35 := (hM'.jm.block w.heap.size (by omega) (by omega) (fun e => by cases e; omega)).trans HXB1.out
  have HXR := Lib.hid hxr
  have hko' := hM'.own ks (by omega) hko
  clear hG' hM' hS' hI' hbw hxr
  by_cases hlt : i < N
  · have q4 : decide ((i : Int) < (N : Int)) = true := decide_eq_true (by omega)
    have q4n : decide (i < N) = true := decide_eq_true hlt
    have q5 : IntKind.i64.wrap ((i : Int) + 1) = ((i + 1 : Nat) : Int) := wrap_succ hlt (by omega)
    obtain ⟨g, o, hix, hg1, hg2, hrd⟩ := HVR.out i hlt
    have hblk := HMW.out.jm.block g hg2 (by have := HSZ.out; omega) (fun e => by cases e; have := HSZ.out; omega)
    have hal : i < t.nal := by rw [HN.out]; exact hlt
    have HRD := Lib.hid (show wr.rangeAt g o (pcells (t.ald i) (t.alt i)) from fun j v hv => (World.cell?_of_block (w := w1) (a := ⟨g, o + j, none⟩) hblk).trans (hrd j v hv))
    have htal := (HTC.out.al i hal).2
    have H1 := Lib.hid (one_pcells (p := t.ald i) htal)
    have H1T := Lib.hid (one_tcells htal)
    have HX := Lib.hid (Bx.new wr (pcells (t.ald i) (t.alt i)).toArray 42)
    have HXT := Lib.hid (show (wr.alloc (.cells (pcells (t.ald i) (t.alt i)).toArray 42)).rangeAt wr.heap.size 1 (t.alt i).cells from by have h := part_range HX.out.range; rw [Nat.zero_add] at h; exact h)
    have hbw2 := HBW.out.alloc (by have := HBW.out.size; omega) (.cells (pcells (t.ald i) (t.alt i)).toArray 42)
    have hBr : B ≤ wr.heap.size := by omega
    have HC := Lib.hid (HJJ.out i hal (wr.alloc (.cells (pcells (t.ald i) (t.alt i)).toArray 42)) b ks V' P (GAtL.alloc HGW.out _) (Nat.le_trans hBr (by simp)) (HEO.out.below hbw2 (Nat.le_refl _)) (htal.below hbw2 (Nat.le_refl _)) (HSP.out.block (Below.heap_alloc wr _ ks (by omega))) hko' hkB)
    have HBR := Lib.hid (show Below wr.heap.size wr (wr.alloc (.cells (pcells (t.ald i) (t.alt i)).toArray 42)) from (Below.refl wr.heap.size wr).alloc (Nat.le_refl _) _)
    have HTL := Lib.hid htal
    clear hrd hblk hbw2 htal
    go_wp2_with (first | (refine wpList_store_new rfl 42 (.tmp 8) (.tmp 21) rfl 18 _ (pcells (t.ald i) (t.alt i)) H1.out.1 (by kernel_rfl) info_P H1.out.2 rfl rfl ?_) | (refine wpList_load_mid rfl 42 (.tmp 20) rfl g o rfl (pcells (t.ald i) (t.alt i)) _ HRD.out Try.underlying42 rfl (by rw [info_P, H1.out.1]) ?_) | (refine wpList_load_mid rfl 35 (.tmp 24) rfl wr.heap.size 1 rfl (t.alt i).cells _ HXT.out Try.underlying35 rfl (by rw [info_T, H1T.out.1]) ?_))
    refine HC.out.mono ?_
    rintro e w2 ⟨r, V2, rfl, h1, h2, h3, h4⟩
    have HG2 := Lib.hid h1
    have HM2 := Lib.hid (HMW.out.trans ((JV.of_below HBR.out).trans h2))
    have HT2 := Lib.hid h3
    have HF2 := Lib.hid h4
    have hs2 := h2.jm.size
    have hsa : (wr.alloc (.cells (pcells (t.ald i) (t.alt i)).toArray 42)).heap.size = wr.heap.size + 1 := by simp
    have hxt2 : Bx w2 w.heap.size t.cells.toArray 35 := (h2.jm.block w.heap.size (by omega) (by omega) (fun e => by cases e; omega)).trans (HXR.out.alloc _)
    have hxp2 : Bx w2 wr.heap.size (pcells (t.ald i) (t.alt i)).toArray 42 := (h2.jm.block wr.heap.size (by omega) (by omega) (fun e => by cases e; omega)).trans HX.out
    have HXT2 := Lib.hid hxt2
    have HXP2 := Lib.hid hxp2
    clear h1 h2 h3 h4 hxt2 hxp2 HC
    cases r with
    | false =>
      go_wp2_with fail
      go_ret
      refine ⟨false, V2, rfl, HG2.out, (JV.of_below HB1.out).trans HM2.out, fun h => (by cases h), fun _ => HIW.out.fail hal (HF2.out (by first | rfl | trivial))⟩
    | true =>
      obtain ⟨hrt, hdj, s2, hss, hun⟩ := HT2.out (by first | rfl | trivial)
      have HNX := Lib.hid (HIW.out.next hrt hdj hun)
      have HS2 := Lib.hid hss
      have d0 := HXT2.out.cell 0 HTC.out.kd
      have d12 := HXT2.out.cell 12 HTC.out.ps
      obtain ⟨ad, hadd⟩ : ∃ ad, decide (t.pn ≤ i) = ad := ⟨_, rfl⟩
      have q6 : decide ((t.pn : Int) ≤ (i : Int)) = ad := by rw [← hadd]; simp
      have q6n := hadd
      have hbw3 := (HB1.out.mono hB).trans (HM2.out.below HG1.out hBw (fun k hk => by cases hk; exact hkB))
      have HAH := Lib.hid (ahead_ok w2 B t.kd (t.ald i) (t.alt i) ad (HTL.out.below hbw3 (Nat.le_refl _)))
      have hst0 : ahead t.kd (t.ald i) ad = t.stays i := by rw [← hadd]; rfl
      rw [hst0] at HAH
      have hko2 := HM2.out.own ks (by omega) hko
      have HKO := Lib.hid hko2
      clear hrt hdj hun hss hst0 hadd hbw3
      cases hst : t.stays i with
      | true =>
        rw [hst] at HAH HNX
        clear hst
        go_wp2_with (refine wpList_load_mid rfl 42 (.tmp 8) rfl wr.heap.size 0 rfl (pcells (t.ald i) (t.alt i)) _ HXP2.out.range Try.underlying42 rfl (by rw [info_P, H1.out.1]) ?_)
        refine HAH.out.mono ?_
        rintro e w3 ⟨rfl, hb3⟩
        have HG3 := Lib.hid (GAtL.of_below HG2.out hb3).1
        have HM3 := Lib.hid (HM2.out.trans (JV.of_below hb3))
        have HS3 := Lib.hid (HS2.out.block (hb3.block ks (by omega)))
        clear hb3 d0 d12
        go_wp2_with fail
        go_roundw
        case rel => exact ⟨i + 1, V2, s2, hal, rfl, HG3.out, HM3.out, HS3.out, HNX.out⟩
        case measure => simp only [Lib.intOf]; omega
      | false =>
        rw [hst] at HAH HNX
        clear hst
        go_wp2_with (refine wpList_load_mid rfl 42 (.tmp 8) rfl wr.heap.size 0 rfl (pcells (t.ald i) (t.alt i)) _ HXP2.out.range Try.underlying42 rfl (by rw [info_P, H1.out.1]) ?_)
        refine HAH.out.mono ?_
        rintro e w3 ⟨rfl, hb3⟩
        have HG3 := Lib.hid (show GAt B w3 b l G V2 from (GAtL.of_below HG2.out hb3).1)
        have HM3 := Lib.hid (HM2.out.trans (JV.of_below hb3))
        have HS3 := Lib.hid (HS2.out.block (hb3.block ks (by omega)))
        clear hb3 d0 d12
        go_wp2_with (refine wpList_clear rfl (.tmp 39) rfl ks s2 rfl HS3.out ?_; intro w4 hs4 hg4; have HS4 := Lib.hid hs4; have HG4 := Lib.hid hg4; clear hs4 hg4)
        have HGW4 := Lib.hid (show GAt B w4 b l G V2 from GAtL.keep HG3.out HG4.out.size (fun k hk => HG4.out.block k (HG3.out.lo k hk).2 (fun e => hk (by rw [Option.some.inj e]; exact HKO.out))))
        have HM4 := Lib.hid (HM3.out.trans (⟨⟨HG4.out.os, HG4.out.tape, HG4.out.output, HG4.out.size, fun j hj _ h2 => HG4.out.block j hj h2⟩, rfl, fun _ _ h => h⟩ : JV b (some ks) V2 V2 w3 w4))
        go_roundw
        case rel => exact ⟨i + 1, V2, TS.no, hal, rfl, HGW4.out, HM4.out, HS4.out, HNX.out⟩
        case measure => simp only [Lib.intOf]; omega
  · have q4 : decide ((i : Int) < (N : Int)) = false := decide_eq_false (by omega)
    have q4n : decide (i < N) = false := decide_eq_false hlt
    have HE := Lib.hid (show i = t.nal by have := HN.out; omega)
    go_wp2_with fail
    go_ret
    exact ⟨true, V', rfl, HGW.out, (JV.of_below HB1.out).trans HMW.out, fun _ => ⟨P, HSP.out, by rw [← HE.out]; exact HIW.out⟩, fun h => (by cases h)⟩
end Go.Proofs.Ytecedbjkebdeaaa
