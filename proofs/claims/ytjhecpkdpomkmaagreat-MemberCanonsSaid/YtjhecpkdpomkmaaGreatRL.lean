/-
  A bundle of texts, one behind the other: McP.
-/
import Derived.Test.YtjhecpkdpomkmaaGreatRK
namespace Go.Proofs.YtjhecpkdpomkmaaGreat
open Go.RowKit
set_option linter.unusedVariables false
set_option linter.unusedSimpArgs false
set_option maxRecDepth 100000

def FL.sl (l : FL) (a : Option Addr) (n cap : Nat) : SL := ⟨a, n, cap, fun i => (l.f i).name⟩
/-- 'fields', in one way -/
theorem FldOut.one {B : Nat} {w w' : World} {l : FL} {rows : Nat} {ch : Bool} {e : Ending} (hl : FLIn B w l) (h : FldOut w l rows ch e w') :
    Below w.heap.size w w' ∧ ∃ a n cap b, e = .returned (.tuple #[.slice a (n : Nat) (cap : Nat), .bool b]) ∧ b = (allN (fun i => fldB rows ch (l.f i)) l.n && decide (l.n ≤ 256)) ∧ n ≤ l.n ∧ (b = true → n = l.n ∧ SLIn w'.heap.size w' (l.sl a n cap)) := by
  obtain ⟨h1, ⟨h2, rfl⟩ | ⟨h2, a, cap, rfl, h3⟩⟩ := h
  · exact ⟨h1, none, 0, 0, false, rfl, by rw [h2]; rfl, Nat.zero_le _, fun h => (by cases h)⟩
  · exact ⟨h1, a, l.n, cap, _, rfl, by rw [h2]; rfl, Nat.le_refl _, fun _ => ⟨rfl, h3, fun i hi => (hl.2 i hi).1⟩⟩
def rowSm (r : DT) : Prop := r.set.n ≤ 300 ∧ r.nm.n ≤ 1000 ∧ r.mo.n ≤ 1000 ∧ r.pa.n ≤ 1000 ∧ r.ad.n ≤ 1000 ∧ r.ord.n ≤ 1000
set_option maxHeartbeats 64000000 in
theorem rrow_ok (B : Nat) (w : World) (rows : Nat) (r : DT) (hr : DTIn B w r) (hB : B ≤ w.heap.size) (hs : rowSm r) (hrw : rows ≤ 1000000) :
    Calls Tryz.prog 147 #[.int .i64 (rows : Nat), .agg r.cells.toArray] w fun e w' => e = .returned (.bool (r.right rows)) ∧ Below w.heap.size w w' := by
  obtain ⟨s1, s2, s3, s4, s5, s6⟩ := hs
  rw [row_right]
  have HX := Lib.hid (Bx.new w r.cells.toArray 46)
  have HB := Lib.hid ((Below.refl w.heap.size w).alloc (Nat.le_refl _) (.cells r.cells.toArray 46))
  have HD := Lib.hid (fun (W : World) (hW : Below w.heap.size w W) => (hr.below (Below.refl _ _) hB).below hW (Nat.le_refl _))
  have HSZ := Lib.hid (fun (W : World) (hW : Below w.heap.size w W) => rsized_ok w.heap.size W r (HD.out W hW) hW.size s1)
  have HAL := Lib.hid (fun (W : World) => ralph_ok W r.fr hr.1.2.2.2.2)
  have HF1 := Lib.hid (fun (W : World) (hW : Below w.heap.size w W) => rfields_ok w.heap.size W rows r.pa (r.kind == 10) (HD.out W hW).2.2.2.2.1 hW.size (by omega) hrw)
  have HF2 := Lib.hid (fun (W : World) (hW : Below w.heap.size w W) => rfields_ok w.heap.size W rows r.ad (r.kind == 10) (HD.out W hW).2.2.2.2.2.1 hW.size (by omega) hrw)
  have HAP := Lib.hid (fun (W : World) (l m : SL) (hl : SLIn W.heap.size W l) (hm : SLIn W.heap.size W m) (hn : l.n + m.n ≤ 1000000) => rapart_ok W.heap.size W l m hl hm (Nat.le_refl _) hn)
  have HAN := Lib.hid (fun (W : World) (hW : Below w.heap.size w W) => rapart_ok w.heap.size W r.nm r.mo (HD.out W hW).2.2.1 (HD.out W hW).2.2.2.1 hW.size (by omega))
  have HOR := Lib.hid (fun (W : World) (hW : Below w.heap.size w W) => rorder_ok w.heap.size W r.ord r.pa.n (HD.out W hW).2.2.2.2.2.2 hW.size (by omega) (by omega))
  have HO := Lib.hid (one_dcells15 r)
  have HFX := Lib.hid (glF_glT r)
  have HPN := Lib.hid s4
  have HQN := Lib.hid s5
  have HSM := Lib.hid (show r.mo.n ≤ 1000 from s3)
  unfold rowB
  -- the five guards and the end
  obtain ⟨kd1, hkd1⟩ : ∃ x, isKd r.kind = x := ⟨_, rfl⟩
  obtain ⟨fz, hfz⟩ : ∃ x, (r.kind == 7 || decide (r.fr.size = 0)) = x := ⟨_, rfl⟩
  obtain ⟨xk, hxk⟩ : ∃ x, (r.ext && (r.kind == 1 || r.kind == 4)) = x := ⟨_, rfl⟩
  obtain ⟨t1, ht1⟩ : ∃ x, ((r.kind == 3) == decide (0 < r.nm.n)) = x := ⟨_, rfl⟩
  obtain ⟨t2, ht2⟩ : ∃ x, (r.kind == 3 || decide (r.mo.n = 0)) = x := ⟨_, rfl⟩
  obtain ⟨t3, ht3⟩ : ∃ x, ((r.kind == 8 || r.kind == 10) || decide (r.pa.n + r.ad.n = 0)) = x := ⟨_, rfl⟩
  obtain ⟨g4, hg4⟩ : ∃ x, (if r.kind = 10 then !decide (r.pa.n = 0) && (allN (ordP r.ord r.pa.n) r.ord.n && decide (r.ord.n = r.pa.n)) else decide (r.ord.n = 0)) = x := ⟨_, rfl⟩
  obtain ⟨g5, hg5⟩ : ∃ x, (if r.kind = 9 then decide (0 ≤ r.elem) && decide (r.elem < rows) else decide (r.elem = 0)) = x := ⟨_, rfl⟩
  obtain ⟨g6, hg6⟩ : ∃ x, (r.ext || decide (r.mo.n + r.ad.n = 0)) = x := ⟨_, rfl⟩
  rw [hkd1, hfz, hxk, ht1, ht2, ht3, hg4, hg5, hg6]
  have HKD := Lib.hid hkd1
  have HFZ := Lib.hid hfz
  have HXK := Lib.hid hxk
  have HT1 := Lib.hid ht1
  have HT2 := Lib.hid ht2
  have HT3 := Lib.hid ht3
  have HG4 := Lib.hid hg4
  have HG5 := Lib.hid hg5
  have HG6 := Lib.hid hg6
  clear hkd1 hfz hxk ht1 ht2 ht3 hg4 hg5 hg6 s1 s2 s3 s4 s5 s6 hr hB hrw
  generalize r.setOk = so at *
  generalize allN (rises r.fr) r.fr.size = al at *
  obtain ⟨fa, hfa⟩ : ∃ x, (allN (fun i => fldB rows (r.kind == 10) (r.pa.f i)) r.pa.n && decide (r.pa.n ≤ 256)) = x := ⟨_, rfl⟩
  obtain ⟨fb, hfb⟩ : ∃ x, (allN (fun i => fldB rows (r.kind == 10) (r.ad.f i)) r.ad.n && decide (r.ad.n ≤ 256)) = x := ⟨_, rfl⟩
  have HFA := Lib.hid hfa
  have HFB := Lib.hid hfb
  rw [hfa, hfb]
  clear hfa hfb
  generalize apartB (glT r.nm r.mo) (r.nm.n + r.mo.n) = an at *
  obtain ⟨ap, hap⟩ : ∃ x, apartB (glF r) (r.pa.n + r.ad.n) = x := ⟨_, rfl⟩
  have HPA := Lib.hid hap
  rw [hap]
  clear hap
  obtain ⟨g1, hg1⟩ : ∃ x, (kd1 && (so && (al && (fz && !xk)))) = x := ⟨_, rfl⟩
  obtain ⟨g2, hg2⟩ : ∃ x, (fa && (fb && (ap && (an && (decide (r.nm.n ≤ 256) && decide (r.mo.n ≤ 256)))))) = x := ⟨_, rfl⟩
  obtain ⟨g3, hg3⟩ : ∃ x, (t1 && (t2 && t3)) = x := ⟨_, rfl⟩
  rw [hg1, hg2, hg3]
  have HG1 := Lib.hid hg1
  have HG2 := Lib.hid hg2
  have HG3 := Lib.hid hg3
  clear hg1 hg2 hg3
  have c0 := HX.out.cell 0 (v := .int .i64 r.kind) rfl
  generalize r.kind = kd at *
  go_enter Tryz.func147, Tryz.ntmps147
  go_upto_region 2 with fail
  clear c0
  generalize w.alloc (.cells r.cells.toArray 46) = W1 at *
  obtain ⟨b, hb⟩ : ∃ x, w.heap.size = x := ⟨_, rfl⟩
  rw [hb] at HX ⊢
  clear hb
  go_cut [49] from 12 to 49 (fun v wx => v = .bool (!g1) ∧ Below w.heap.size w wx ∧ Bx wx b r.cells.toArray 46)
  case first =>
    by_cases k1 : kd < 1
    · have q1 : decide (kd < 1) = true := decide_eq_true k1
      have hk := HKD.out
      unfold isKd at hk
      rw [decide_eq_false (show ¬ 1 ≤ kd by omega)] at hk
      clear k1
      have HZ := Lib.hid (show g1 = false from by rw [← HG1.out, ← hk]; rfl)
      clear hk
      go_wp2_with fail
      go_meet
      exact ⟨by rw [HZ.out]; rfl, HB.out, HX.out⟩
    have q1 : decide (kd < 1) = false := decide_eq_false k1
    by_cases k2 : 10 < kd
    · have q2 : decide (10 < kd) = true := decide_eq_true k2
      have hk := HKD.out
      unfold isKd at hk
      rw [decide_eq_false (show ¬ kd ≤ 10 by omega), Bool.and_false] at hk
      clear k1 k2
      have HZ := Lib.hid (show g1 = false from by rw [← HG1.out, ← hk]; rfl)
      clear hk
      go_wp2_with fail
      go_meet
      exact ⟨by rw [HZ.out]; rfl, HB.out, HX.out⟩
    have q2 : decide (10 < kd) = false := decide_eq_false k2
    have HK1 := Lib.hid (show kd1 = true from by rw [← HKD.out]; unfold isKd; rw [decide_eq_true (show 1 ≤ kd by omega), decide_eq_true (show kd ≤ 10 by omega)]; rfl)
    clear k1 k2
    have HRG := Lib.hid (show W1.rangeAt b 0 r.cells from HX.out.range)
    go_wp2_with (refine wpList_load_midM (by rfl) 46 (.tmp 3) rfl b 0 rfl r.cells _ HRG.out Tryz.underlying46 rfl (by rw [info_D12, HO.out.1]) ?_)
    refine (HSZ.out _ HB.out).mono ?_
    rintro e W2 ⟨rfl, h2⟩
    have HB2 := Lib.hid (HB.out.trans (h2.mono HB.out.size))
    have HX2 := Lib.hid (HX.out.below h2 HX.out.lt)
    clear h2
    cases so with
    | false =>
      have HZ := Lib.hid (show g1 = false from by rw [← HG1.out, HK1.out]; rfl)
      go_wp2_with fail
      go_meet
      exact ⟨by rw [HZ.out]; rfl, HB2.out, HX2.out⟩
    | true =>
    have c5 := HX2.out.cell 5 (v := .string r.fr) rfl
    go_wp2_with fail
    refine (HAL.out _).mono ?_
    rintro e W3 ⟨rfl, h3⟩
    have HB3 := Lib.hid (HB2.out.trans (h3.mono HB2.out.size))
    have HX3 := Lib.hid (HX2.out.below h3 HX2.out.lt)
    clear h3 c5
    cases al with
    | false =>
      have HZ := Lib.hid (show g1 = false from by rw [← HG1.out, HK1.out]; rfl)
      go_wp2_with fail
      go_meet
      exact ⟨by rw [HZ.out]; rfl, HB3.out, HX3.out⟩
    | true =>
    have c5 := HX3.out.cell 5 (v := .string r.fr) rfl
    have c1 := HX3.out.cell 1 (v := .bool r.ext) rfl
    have hes := empty_str r.fr
    have HGX := Lib.hid (show g1 = (fz && !xk) from by rw [← HG1.out, HK1.out]; rfl)
    by_cases k7 : kd = 7
    · subst k7
      have HFY := Lib.hid (show fz = true from by rw [← HFZ.out]; rfl)
      clear hes
      cases hx : r.ext with
      | false =>
        rw [hx] at c1
        have HZ := Lib.hid (show g1 = true from by rw [HGX.out, HFY.out, ← HXK.out, hx]; rfl)
        clear hx
        go_wp2_with fail
        go_meet
        exact ⟨by rw [HZ.out]; rfl, HB3.out, HX3.out⟩
      | true =>
        rw [hx] at c1
        have HZ := Lib.hid (show g1 = true from by rw [HGX.out, HFY.out, ← HXK.out, hx]; rfl)
        clear hx
        go_wp2_with fail
        go_meet
        exact ⟨by rw [HZ.out]; rfl, HB3.out, HX3.out⟩
    · have e7 : (kd == 7) = false := beq_eq_false_iff_ne.2 k7
      have n7 : (kd != 7) = true := by unfold bne; rw [e7]; rfl
      clear k7
      by_cases hs : r.fr.size = 0
      · have s1 : r.fr.toList.isEmpty = true := by rw [hes, decide_eq_true hs]
        have s2 : (!r.fr.toList.isEmpty) = false := by rw [s1]; rfl
        have HFY := Lib.hid (show fz = true from by rw [← HFZ.out, e7, decide_eq_true hs]; rfl)
        clear hs hes
        cases hx : r.ext with
        | false =>
          rw [hx] at c1
          have HZ := Lib.hid (show g1 = true from by rw [HGX.out, HFY.out, ← HXK.out, hx]; rfl)
          clear hx
          go_wp2_with fail
          go_meet
          exact ⟨by rw [HZ.out]; rfl, HB3.out, HX3.out⟩
        | true =>
          rw [hx] at c1
          by_cases k1 : kd = 1
          · subst k1
            have HZ := Lib.hid (show g1 = false from by rw [HGX.out, ← HXK.out, hx]; simp)
            clear hx
            go_wp2_with fail
            go_meet
            exact ⟨by rw [HZ.out]; rfl, HB3.out, HX3.out⟩
          · have e1 : (kd == 1) = false := beq_eq_false_iff_ne.2 k1
            by_cases k4 : kd = 4
            · subst k4
              have HZ := Lib.hid (show g1 = false from by rw [HGX.out, ← HXK.out, hx]; simp)
              clear hx k1
              go_wp2_with fail
              go_meet
              exact ⟨by rw [HZ.out]; rfl, HB3.out, HX3.out⟩
            · have e4 : (kd == 4) = false := beq_eq_false_iff_ne.2 k4
              have HZ := Lib.hid (show g1 = true from by rw [HGX.out, HFY.out, ← HXK.out, hx, e1, e4]; rfl)
              clear hx k1 k4
              go_wp2_with fail
              go_meet
              exact ⟨by rw [HZ.out]; rfl, HB3.out, HX3.out⟩
      · have s1 : r.fr.toList.isEmpty = false := by rw [hes, decide_eq_false hs]
        have s2 : (!r.fr.toList.isEmpty) = true := by rw [s1]; rfl
        have HZ := Lib.hid (show g1 = false from by rw [HGX.out, ← HFZ.out, e7, decide_eq_false hs]; rfl)
        clear hs hes
        go_wp2_with fail
        go_meet
        exact ⟨by rw [HZ.out]; rfl, HB3.out, HX3.out⟩
  obtain ⟨rfl, hbw, hbx⟩ := hcut
  rename World => W2
  have HB2 := Lib.hid hbw
  have HX2 := Lib.hid hbx
  clear hbw hbx
  cases g1 with
  | false =>
    go_wp2_with fail
    go_ret
    exact ⟨rfl, HB2.out⟩
  | true =>
  clear HX HB HSZ HAL HFZ HXK HG1
  -- the parts
  have c8 := HX2.out.cell 8 (v := .slice r.pa.a r.pa.n r.pa.cap) rfl
  obtain ⟨kt, hkt⟩ : ∃ x, (kd == 10) = x := ⟨_, rfl⟩
  have HKT := Lib.hid hkt
  rw [hkt] at HF1 HF2 HFA HFB
  go_upto_region 4 with fail
  go_wp2_with fail
  refine (HF1.out _ HB2.out).mono ?_
  rintro e W3 hq3
  obtain ⟨h3, a1, n1, cp1, b1, rfl, hb1, hn1, ha1⟩ := hq3.one (HD.out _ HB2.out).2.2.2.2.1
  have HB3 := Lib.hid (HB2.out.trans (h3.mono HB2.out.size))
  have HX3 := Lib.hid (HX2.out.below h3 HX2.out.lt)
  have HA1 := Lib.hid ha1
  have HN1 := Lib.hid hn1
  obtain rfl : b1 = fa := by rw [hb1, HFA.out]
  clear h3 hq3 hb1 hn1 ha1 c8
  have c9 := HX3.out.cell 9 (v := .slice r.ad.a r.ad.n r.ad.cap) rfl
  go_wp2_with fail
  refine (HF2.out _ HB3.out).mono ?_
  rintro e W4 hq4
  obtain ⟨h4, a2, n2, cp2, b2, rfl, hb2, hn2, ha2⟩ := hq4.one (HD.out _ HB3.out).2.2.2.2.2.1
  have HB4 := Lib.hid (HB3.out.trans (h4.mono HB3.out.size))
  have HX4 := Lib.hid (HX3.out.below h4 HX3.out.lt)
  have HA2 := Lib.hid ha2
  have HN2 := Lib.hid hn2
  have HA1B := Lib.hid (show b1 = true → n1 = r.pa.n ∧ SLIn W4.heap.size W4 (r.pa.sl a1 n1 cp1) from fun h => ⟨(HA1.out h).1, ((HA1.out h).2.below h4 (Nat.le_refl _)).below (Below.refl _ _) h4.size⟩)
  obtain rfl : b2 = fb := by rw [hb2, HFB.out]
  clear h4 hq4 hb2 hn2 ha2 c9 HA1 HX2 HX3 HB2 HB3 HF1 HF2 hkt
  go_upto_region 6 with fail
  go_cut [99] from 68 to 99 (fun v wx => v = .bool (!g2) ∧ Below w.heap.size w wx ∧ Bx wx b r.cells.toArray 46)
  case first =>
    cases b1 with
    | false =>
      have HZ := Lib.hid (show g2 = false from by rw [← HG2.out]; rfl)
      go_wp2_with fail
      go_meet
      exact ⟨by rw [HZ.out]; rfl, HB4.out, HX4.out⟩
    | true =>
    cases b2 with
    | false =>
      have HZ := Lib.hid (show g2 = false from by rw [← HG2.out]; rfl)
      go_wp2_with fail
      go_meet
      exact ⟨by rw [HZ.out]; rfl, HB4.out, HX4.out⟩
    | true =>
    obtain ⟨e1, hs1⟩ := HA1B.out (by first | rfl | trivial)
    obtain ⟨e2, hs2⟩ := HA2.out (by first | rfl | trivial)
    subst e1
    subst e2
    have hap := HAP.out W4 _ _ hs1 hs2 (by show r.pa.n + r.ad.n ≤ 1000000; have := HPN.out; have := HQN.out; omega)
    have HAQ := Lib.hid (show Calls Tryz.prog 209 #[.slice a1 r.pa.n cp1, .slice a2 r.ad.n cp2] W4 fun e w' => e = .returned (.bool ap) ∧ Below W4.heap.size W4 w' from by rw [← HPA.out]; exact hap)
    clear hs1 hs2 hap
    go_wp2_with fail
    refine HAQ.out.mono ?_
    rintro e W5 ⟨rfl, h5⟩
    have HB5 := Lib.hid (HB4.out.trans (h5.mono HB4.out.size))
    have HX5 := Lib.hid (HX4.out.below h5 HX4.out.lt)
    clear h5
    cases ap with
    | false =>
      have HZ := Lib.hid (show g2 = false from by rw [← HG2.out]; rfl)
      go_wp2_with fail
      go_meet
      exact ⟨by rw [HZ.out]; rfl, HB5.out, HX5.out⟩
    | true =>
    have c6 := HX5.out.cell 6 (v := .slice r.nm.a r.nm.n r.nm.cap) rfl
    have c7 := HX5.out.cell 7 (v := .slice r.mo.a r.mo.n r.mo.cap) rfl
    go_wp2_with fail
    refine (HAN.out _ HB5.out).mono ?_
    rintro e W6 ⟨rfl, h6⟩
    have HB6 := Lib.hid (HB5.out.trans (h6.mono HB5.out.size))
    have HX6 := Lib.hid (HX5.out.below h6 HX5.out.lt)
    clear h6 c6 c7
    have c6 := HX6.out.cell 6 (v := .slice r.nm.a r.nm.n r.nm.cap) rfl
    have c7 := HX6.out.cell 7 (v := .slice r.mo.a r.mo.n r.mo.cap) rfl
    cases an with
    | false =>
      have HZ := Lib.hid (show g2 = false from by rw [← HG2.out]; rfl)
      go_wp2_with fail
      go_meet
      exact ⟨by rw [HZ.out]; rfl, HB6.out, HX6.out⟩
    | true =>
    have HGY := Lib.hid (show g2 = (decide (r.nm.n ≤ 256) && decide (r.mo.n ≤ 256)) from by rw [← HG2.out]; rfl)
    by_cases m1 : 256 < r.nm.n
    · have u1 : decide ((256 : Int) < (r.nm.n : Int)) = true := decide_eq_true (by omega)
      have u1n : decide (256 < r.nm.n) = true := decide_eq_true m1
      have HZ := Lib.hid (show g2 = false from by rw [HGY.out, decide_eq_false (by omega)]; rfl)
      clear m1
      go_wp2_with fail
      go_meet
      exact ⟨by rw [HZ.out]; rfl, HB6.out, HX6.out⟩
    have u1 : decide ((256 : Int) < (r.nm.n : Int)) = false := decide_eq_false (by omega)
    have u1n : decide (256 < r.nm.n) = false := decide_eq_false m1
    by_cases m2 : 256 < r.mo.n
    · have u2 : decide ((256 : Int) < (r.mo.n : Int)) = true := decide_eq_true (by omega)
      have u2n : decide (256 < r.mo.n) = true := decide_eq_true m2
      have HZ := Lib.hid (show g2 = false from by rw [HGY.out, decide_eq_false (show ¬ r.mo.n ≤ 256 by omega), Bool.and_false])
      clear m1 m2
      go_wp2_with fail
      go_meet
      exact ⟨by rw [HZ.out]; rfl, HB6.out, HX6.out⟩
    have u2 : decide ((256 : Int) < (r.mo.n : Int)) = false := decide_eq_false (by omega)
    have u2n : decide (256 < r.mo.n) = false := decide_eq_false m2
    have HZ := Lib.hid (show g2 = true from by rw [HGY.out, decide_eq_true (show r.nm.n ≤ 256 by omega), decide_eq_true (show r.mo.n ≤ 256 by omega)]; rfl)
    clear m1 m2
    go_wp2_with fail
    go_meet
    exact ⟨by rw [HZ.out]; rfl, HB6.out, HX6.out⟩
  obtain ⟨rfl, hbw, hbx⟩ := hcut
  rename World => W7
  have HB7 := Lib.hid hbw
  have HX7 := Lib.hid hbx
  clear hbw hbx HX4 HB4 HAP HAN HPA
  cases g2 with
  | false =>
    go_wp2_with fail
    go_ret
    exact ⟨rfl, HB7.out⟩
  | true =>
  obtain ⟨rfl, rfl⟩ : b1 = true ∧ b2 = true := by
    have h := HG2.out
    cases b1 <;> cases b2 <;> simp at h ⊢
  have e1 := (HA1B.out (by first | rfl | trivial)).1
  have e2 := (HA2.out (by first | rfl | trivial)).1
  subst e1
  subst e2
  clear HA1B HA2 HG2 HN1 HN2
  have c6 := HX7.out.cell 6 (v := .slice r.nm.a r.nm.n r.nm.cap) rfl
  have c7 := HX7.out.cell 7 (v := .slice r.mo.a r.mo.n r.mo.cap) rfl
  have hadd : IntKind.i64.wrap ((r.pa.n : Int) + (r.ad.n : Int)) = (r.pa.n : Int) + (r.ad.n : Int) := by have := HPN.out; have := HQN.out; exact wrap_ok (by unfold I64; omega)
  go_upto_region 8 with fail
  go_cut [132] from 100 to 132 (fun v wx => v = .bool (!g3) ∧ W7 = wx)
  case first =>
    by_cases k3 : kd = 3
    · subst k3
      by_cases dn : 0 < r.nm.n
      · have v1 : decide ((0 : Int) < (r.nm.n : Int)) = true := decide_eq_true (by omega)
        have v1n : decide (0 < r.nm.n) = true := decide_eq_true dn
        have HTA := Lib.hid (show t1 = true from by rw [← HT1.out, v1n]; rfl)
        have HTB := Lib.hid (show t2 = true from by rw [← HT2.out]; rfl)
        by_cases z : r.pa.n + r.ad.n = 0
        · have v3 : decide ((0 : Int) < (r.pa.n : Int) + (r.ad.n : Int)) = false := decide_eq_false (by omega)
          have v3n : decide (0 < r.pa.n + r.ad.n) = false := decide_eq_false (by omega)
          have HZ := Lib.hid (show g3 = true from by rw [← HG3.out, HTA.out, HTB.out, ← HT3.out, decide_eq_true z]; rfl)
          clear dn z
          go_wp2_with fail
          go_meet
          exact ⟨by rw [HZ.out]; rfl, rfl⟩
        · have v3 : decide ((0 : Int) < (r.pa.n : Int) + (r.ad.n : Int)) = true := decide_eq_true (by omega)
          have v3n : decide (0 < r.pa.n + r.ad.n) = true := decide_eq_true (by omega)
          have HZ := Lib.hid (show g3 = false from by rw [← HG3.out, HTA.out, HTB.out, ← HT3.out, decide_eq_false z]; rfl)
          clear dn z
          go_wp2_with fail
          go_meet
          exact ⟨by rw [HZ.out]; rfl, rfl⟩
      · have v1 : decide ((0 : Int) < (r.nm.n : Int)) = false := decide_eq_false (by omega)
        have v1n : decide (0 < r.nm.n) = false := decide_eq_false dn
        have HZ := Lib.hid (show g3 = false from by rw [← HG3.out, ← HT1.out, v1n]; rfl)
        clear dn
        go_wp2_with fail
        go_meet
        exact ⟨by rw [HZ.out]; rfl, rfl⟩
    · have f3 : (kd == 3) = false := beq_eq_false_iff_ne.2 k3
      have n3 : (kd != 3) = true := bne_iff_ne.2 k3
      by_cases dn : 0 < r.nm.n
      · have v1 : decide ((0 : Int) < (r.nm.n : Int)) = true := decide_eq_true (by omega)
        have v1n : decide (0 < r.nm.n) = true := decide_eq_true dn
        have HZ := Lib.hid (show g3 = false from by rw [← HG3.out, ← HT1.out, v1n, f3]; rfl)
        clear dn k3
        go_wp2_with fail
        go_meet
        exact ⟨by rw [HZ.out]; rfl, rfl⟩
      · have v1 : decide ((0 : Int) < (r.nm.n : Int)) = false := decide_eq_false (by omega)
        have v1n : decide (0 < r.nm.n) = false := decide_eq_false dn
        have HTA := Lib.hid (show t1 = true from by rw [← HT1.out, v1n, f3]; rfl)
        by_cases mz : r.mo.n = 0
        · have v2 : decide ((0 : Int) < (r.mo.n : Int)) = false := decide_eq_false (by omega)
          have v2n : decide (0 < r.mo.n) = false := decide_eq_false (by omega)
          have HTB := Lib.hid (show t2 = true from by rw [← HT2.out, f3, decide_eq_true mz]; rfl)
          by_cases k8 : kd = 8
          · subst k8
            have HZ := Lib.hid (show g3 = true from by rw [← HG3.out, HTA.out, HTB.out, ← HT3.out]; rfl)
            clear dn mz k3
            go_wp2_with fail
            go_meet
            exact ⟨by rw [HZ.out]; rfl, rfl⟩
          · have e8 : (kd != 8) = true := bne_iff_ne.2 k8
            have f8 : (kd == 8) = false := beq_eq_false_iff_ne.2 k8
            by_cases k10 : kd = 10
            · subst k10
              have HZ := Lib.hid (show g3 = true from by rw [← HG3.out, HTA.out, HTB.out, ← HT3.out]; rfl)
              clear dn mz k3 k8
              go_wp2_with fail
              go_meet
              exact ⟨by rw [HZ.out]; rfl, rfl⟩
            · have e10 : (kd != 10) = true := bne_iff_ne.2 k10
              have f10 : (kd == 10) = false := beq_eq_false_iff_ne.2 k10
              by_cases z : r.pa.n + r.ad.n = 0
              · have v3 : decide ((0 : Int) < (r.pa.n : Int) + (r.ad.n : Int)) = false := decide_eq_false (by omega)
                have v3n : decide (0 < r.pa.n + r.ad.n) = false := decide_eq_false (by omega)
                have HZ := Lib.hid (show g3 = true from by rw [← HG3.out, HTA.out, HTB.out, ← HT3.out, f8, f10, decide_eq_true z]; rfl)
                clear dn mz k3 k8 k10 z
                go_wp2_with fail
                go_meet
                exact ⟨by rw [HZ.out]; rfl, rfl⟩
              · have v3 : decide ((0 : Int) < (r.pa.n : Int) + (r.ad.n : Int)) = true := decide_eq_true (by omega)
                have v3n : decide (0 < r.pa.n + r.ad.n) = true := decide_eq_true (by omega)
                have HZ := Lib.hid (show g3 = false from by rw [← HG3.out, HTA.out, HTB.out, ← HT3.out, f8, f10, decide_eq_false z]; rfl)
                clear dn mz k3 k8 k10 z
                go_wp2_with fail
                go_meet
                exact ⟨by rw [HZ.out]; rfl, rfl⟩
        · have v2 : decide ((0 : Int) < (r.mo.n : Int)) = true := decide_eq_true (by omega)
          have v2n : decide (0 < r.mo.n) = true := decide_eq_true (by omega)
          have HZ := Lib.hid (show g3 = false from by rw [← HG3.out, HTA.out, ← HT2.out, f3, decide_eq_false mz]; rfl)
          clear dn mz k3
          go_wp2_with fail
          go_meet
          exact ⟨by rw [HZ.out]; rfl, rfl⟩
  obtain ⟨rfl, rfl⟩ := hcut
  cases g3 with
  | false =>
    go_wp2_with fail
    go_ret
    exact ⟨rfl, HB7.out⟩
  | true =>
  clear c6 c7 hadd HG3 HT1 HT2 HT3
  have c10 := HX7.out.cell 10 (v := .slice r.ord.a r.ord.n r.ord.cap) rfl
  go_upto_region 10 with fail
  go_cut [157] from 133 to 157 (fun v wx => v = .bool (!g4) ∧ Below w.heap.size w wx ∧ Bx wx b r.cells.toArray 46)
  case first =>
    by_cases k10 : kd = 10
    · have HG4X := Lib.hid (show g4 = (!decide (r.pa.n = 0) && (allN (ordP r.ord r.pa.n) r.ord.n && decide (r.ord.n = r.pa.n))) from by rw [← HG4.out, if_pos k10])
      subst k10
      generalize r.pa.n = pn at *
      by_cases z : pn = 0
      · subst z
        have HZ := Lib.hid (show g4 = false from by rw [HG4X.out]; rfl)
        go_wp2_with fail
        go_meet
        exact ⟨by rw [HZ.out]; rfl, HB7.out, HX7.out⟩
      · have v1 : ((pn : Int) == 0) = false := beq_eq_false_iff_ne.2 (by omega)
        have HZ := Lib.hid (show g4 = (allN (ordP r.ord pn) r.ord.n && decide (r.ord.n = pn)) from by rw [HG4X.out, decide_eq_false z]; rfl)
        generalize (allN (ordP r.ord pn) r.ord.n && decide (r.ord.n = pn)) = og at *
        clear z
        go_wp2_with fail
        refine (HOR.out _ HB7.out).mono ?_
        rintro e W8 ⟨rfl, h8⟩
        have HB8 := Lib.hid (HB7.out.trans (h8.mono HB7.out.size))
        have HX8 := Lib.hid (HX7.out.below h8 HX7.out.lt)
        clear h8 c10
        cases og with
        | true =>
          go_wp2_with fail
          go_meet
          exact ⟨by rw [HZ.out]; rfl, HB8.out, HX8.out⟩
        | false =>
          go_wp2_with fail
          go_meet
          exact ⟨by rw [HZ.out]; rfl, HB8.out, HX8.out⟩
    · have e10 : (kd == 10) = false := beq_eq_false_iff_ne.2 k10
      have f10 : (kd != 10) = true := bne_iff_ne.2 k10
      have HG4X := Lib.hid (show g4 = decide (r.ord.n = 0) from by rw [← HG4.out, if_neg k10])
      clear k10
      by_cases z : r.ord.n = 0
      · have v1 : decide ((0 : Int) < (r.ord.n : Int)) = false := decide_eq_false (by omega)
        have v1n : decide (0 < r.ord.n) = false := decide_eq_false (by omega)
        have HZ := Lib.hid (show g4 = true from by rw [HG4X.out, decide_eq_true z])
        clear z
        go_wp2_with fail
        go_meet
        exact ⟨by rw [HZ.out]; rfl, HB7.out, HX7.out⟩
      · have v1 : decide ((0 : Int) < (r.ord.n : Int)) = true := decide_eq_true (by omega)
        have v1n : decide (0 < r.ord.n) = true := decide_eq_true (by omega)
        have HZ := Lib.hid (show g4 = false from by rw [HG4X.out, decide_eq_false z])
        clear z
        go_wp2_with fail
        go_meet
        exact ⟨by rw [HZ.out]; rfl, HB7.out, HX7.out⟩
  obtain ⟨rfl, hbw, hbx⟩ := hcut
  rename World => W8
  have HB8 := Lib.hid hbw
  have HX8 := Lib.hid hbx
  clear hbw hbx HX7 HB7 HOR HG4
  cases g4 with
  | false =>
    go_wp2_with fail
    go_ret
    exact ⟨rfl, HB8.out⟩
  | true =>
  have c11 := HX8.out.cell 11 (v := .int .i64 r.elem) rfl
  go_upto_region 12 with fail
  go_cut [179] from 158 to 179 (fun v wx => v = .bool (!g5) ∧ W8 = wx)
  case first =>
    by_cases k9 : kd = 9
    · have HG5X := Lib.hid (show g5 = (decide (0 ≤ r.elem) && decide (r.elem < rows)) from by rw [← HG5.out, if_pos k9])
      subst k9
      by_cases z : r.elem < 0
      · have v1 : decide (r.elem < 0) = true := decide_eq_true z
        have HZ := Lib.hid (show g5 = false from by rw [HG5X.out, decide_eq_false (show ¬ 0 ≤ r.elem by omega)]; rfl)
        clear z
        go_wp2_with fail
        go_meet
        exact ⟨by rw [HZ.out]; rfl, rfl⟩
      · have v1 : decide (r.elem < 0) = false := decide_eq_false z
        by_cases y : (rows : Int) ≤ r.elem
        · have v2 : decide ((rows : Int) ≤ r.elem) = true := decide_eq_true y
          have HZ := Lib.hid (show g5 = false from by rw [HG5X.out, decide_eq_false (show ¬ r.elem < rows by omega), Bool.and_false])
          clear z y
          go_wp2_with fail
          go_meet
          exact ⟨by rw [HZ.out]; rfl, rfl⟩
        · have v2 : decide ((rows : Int) ≤ r.elem) = false := decide_eq_false y
          have HZ := Lib.hid (show g5 = true from by rw [HG5X.out, decide_eq_true (show 0 ≤ r.elem by omega), decide_eq_true (show r.elem < rows by omega)]; rfl)
          clear z y
          go_wp2_with fail
          go_meet
          exact ⟨by rw [HZ.out]; rfl, rfl⟩
    · have e9 : (kd == 9) = false := beq_eq_false_iff_ne.2 k9
      have f9 : (kd != 9) = true := bne_iff_ne.2 k9
      have HG5X := Lib.hid (show g5 = decide (r.elem = 0) from by rw [← HG5.out, if_neg k9])
      clear k9
      by_cases z : r.elem = 0
      · have v1 : (r.elem != 0) = false := by rw [z]; rfl
        have HZ := Lib.hid (show g5 = true from by rw [HG5X.out, decide_eq_true z])
        clear z
        go_wp2_with fail
        go_meet
        exact ⟨by rw [HZ.out]; rfl, rfl⟩
      · have v1 : (r.elem != 0) = true := bne_iff_ne.2 z
        have HZ := Lib.hid (show g5 = false from by rw [HG5X.out, decide_eq_false z])
        clear z
        go_wp2_with fail
        go_meet
        exact ⟨by rw [HZ.out]; rfl, rfl⟩
  obtain ⟨rfl, rfl⟩ := hcut
  cases g5 with
  | false =>
    go_wp2_with fail
    go_ret
    exact ⟨rfl, HB8.out⟩
  | true =>
  clear c11 HG5
  have c1 := HX8.out.cell 1 (v := .bool r.ext) rfl
  have c7 := HX8.out.cell 7 (v := .slice r.mo.a r.mo.n r.mo.cap) rfl
  have hadd : IntKind.i64.wrap ((r.mo.n : Int) + (r.ad.n : Int)) = (r.mo.n : Int) + (r.ad.n : Int) := by have := HSM.out; have := HQN.out; exact wrap_ok (by unfold I64; omega)
  cases hx : r.ext with
  | true =>
    rw [hx] at c1
    have HZ := Lib.hid (show g6 = true from by rw [← HG6.out, hx]; rfl)
    clear hx
    go_wp2_with fail
    go_ret
    exact ⟨by rw [HZ.out]; rfl, HB8.out⟩
  | false =>
    rw [hx] at c1
    by_cases z : r.mo.n + r.ad.n = 0
    · have v1 : ((r.mo.n : Int) + (r.ad.n : Int) == 0) = true := beq_iff_eq.2 (by omega)
      have HZ := Lib.hid (show g6 = true from by rw [← HG6.out, hx, decide_eq_true z]; rfl)
      clear hx z
      go_wp2_with fail
      go_ret
      exact ⟨by rw [HZ.out]; rfl, HB8.out⟩
    · have v1 : ((r.mo.n : Int) + (r.ad.n : Int) == 0) = false := beq_eq_false_iff_ne.2 (by omega)
      have HZ := Lib.hid (show g6 = false from by rw [← HG6.out, hx, decide_eq_false z]; rfl)
      clear hx z
      go_wp2_with fail
      go_ret
      exact ⟨by rw [HZ.out]; rfl, HB8.out⟩
end Go.Proofs.YtjhecpkdpomkmaaGreat
