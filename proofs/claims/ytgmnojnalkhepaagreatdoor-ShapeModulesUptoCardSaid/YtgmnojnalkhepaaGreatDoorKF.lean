/-
  A bundle of texts, one behind the other: ShN4.
-/
import Derived.Test.YtgmnojnalkhepaaGreatDoorKE
import Derived.Test.YtgmnojnalkhepaaGreatDoorJZ
/-
  The document's 'Module'.
-/
namespace Go.Proofs.YtgmnojnalkhepaaGreatDoor
open Go.RowKit
set_option linter.unusedVariables false
set_option linter.unusedSimpArgs false
set_option maxRecDepth 100000

def RelMo (w : World) (n g : Nat) (cs : Array Value) (p : Nat → Bool) (iv : Value) (wr : World) : Prop :=
  ∃ i : Nat, i ≤ n ∧ iv = .int .i64 (i : Nat) ∧ allN p i = true ∧ Bx wr g cs 25 ∧ Below w.heap.size w wr
set_option maxHeartbeats 16000000 in
theorem rModule_ok (m : MT) (B : Nat) (w : World) (hm : MIn B w m) (hB : B ≤ w.heap.size) :
    Calls Tryz.prog 7 #[.agg m.cells.toArray] w fun e w' => e = .returned (.bool m.ok) ∧ Below w.heap.size w w' := by
  obtain ⟨name, auto, ia, ni, icap, im, da, nd, dcap, df⟩ := m
  have HM := Lib.hid (show ∀ w1, Below w.heap.size w w1 → (RowAt w.heap.size w1 ia ni icap 2 (fun i => (im i).cells) ∧ ∀ i, i < ni → IMIn w.heap.size w1 (im i)) ∧ (RowAt w.heap.size w1 da nd dcap 16 (fun i => (df i).cells) ∧ ∀ i, i < nd → DFIn w.heap.size w1 (df i)) from fun w1 hb => ((hm.below (Below.refl _ _) hB).below hb (Nat.le_refl _)).2)
  have HX := Lib.hid (Bx.new w #[.string name, .bool auto, .slice ia ni icap, .slice da nd dcap] 25)
  have HB0 := Lib.hid ((Below.refl w.heap.size w).alloc (Nat.le_refl _) (.cells #[.string name, .bool auto, .slice ia ni icap, .slice da nd dcap] 25))
  have HC := Lib.hid (rname_ok name (w.alloc (.cells #[.string name, .bool auto, .slice ia ni icap, .slice da nd dcap] 25)) hm.1)
  obtain ⟨b1, hb1⟩ : ∃ b, refd name = b := ⟨_, rfl⟩
  have HNI := Lib.hid (show ni ≤ 9223372036854775807 ∧ nd ≤ 9223372036854775807 from by
    have h := HM.out w (Below.refl _ _)
    have a1 := h.1.1.1; have a2 := h.1.1.2.1; have a3 := h.2.1.1; have a4 := h.2.1.2.1
    omega)
  have HOK := Lib.hid (show (MT.mk name auto ia ni icap im da nd dcap df).ok = (b1 && ((decide (ni ≤ 256) && allN (fun i => (im i).ok) ni) && (decide (nd ≤ 256) && allN (fun i => (df i).ok) nd))) by unfold MT.ok fewOk; rw [← hb1])
  obtain ⟨res, hres⟩ : ∃ res, (MT.mk name auto ia ni icap im da nd dcap df).ok = res := ⟨_, rfl⟩
  have HRES := Lib.hid (HOK.out.symm.trans hres)
  rw [hres]
  rw [hb1] at HC
  clear hm hB hb1 hres HOK
  show Calls _ _ #[.agg #[.string name, .bool auto, .slice ia ni icap, .slice da nd dcap]] w _
  go_enter Tryz.func7, Tryz.ntmps7
  cases b1 with
  | false =>
    obtain rfl : res = false := HRES.out.symm
    go_wp2_with fail
    refine HC.out.mono ?_
    rintro e w1 ⟨rfl, hb⟩
    have HB1 := Lib.hid (HB0.out.trans (hb.mono HB0.out.size))
    clear hb
    go_wp2_with fail
    go_ret
    exact ⟨rfl, HB1.out⟩
  | true =>
    by_cases h1 : ni ≤ 256
    case neg =>
      have q1 : decide ((256 : Int) < (ni : Int)) = true := decide_eq_true (by omega)
      have q1n : decide (256 < ni) = true := decide_eq_true (by omega)
      obtain rfl : res = false := by rw [← HRES.out, decide_eq_false h1]; rfl
      go_wp2_with fail
      refine HC.out.mono ?_
      rintro e w1 ⟨rfl, hb⟩
      have HB1 := Lib.hid (HB0.out.trans (hb.mono HB0.out.size))
      have c2 := (HX.out.below hb HX.out.lt).cell 2 rfl
      clear hb
      go_wp2_with fail
      go_ret
      exact ⟨rfl, HB1.out⟩
    have q1 : decide ((256 : Int) < (ni : Int)) = false := decide_eq_false (by omega)
    have q1n : decide (256 < ni) = false := decide_eq_false (by omega)
    by_cases h2 : nd ≤ 256
    case neg =>
      have q2 : decide ((256 : Int) < (nd : Int)) = true := decide_eq_true (by omega)
      have q2n : decide (256 < nd) = true := decide_eq_true (by omega)
      obtain rfl : res = false := by rw [← HRES.out, decide_eq_false h2]; simp
      go_wp2_with fail
      refine HC.out.mono ?_
      rintro e w1 ⟨rfl, hb⟩
      have HB1 := Lib.hid (HB0.out.trans (hb.mono HB0.out.size))
      have c2 := (HX.out.below hb HX.out.lt).cell 2 rfl
      have c3 := (HX.out.below hb HX.out.lt).cell 3 rfl
      clear hb
      go_wp2_with fail
      go_ret
      exact ⟨rfl, HB1.out⟩
    have q2 : decide ((256 : Int) < (nd : Int)) = false := decide_eq_false (by omega)
    have q2n : decide (256 < nd) = false := decide_eq_false (by omega)
    have HRS := Lib.hid (show (allN (fun i => (im i).ok) ni && allN (fun i => (df i).ok) nd) = res by rw [← HRES.out, decide_eq_true h1, decide_eq_true h2]; simp)
    go_wp2_with fail
    refine HC.out.mono ?_
    rintro e w1 ⟨rfl, hb⟩
    have HB1 := Lib.hid (HB0.out.trans (hb.mono HB0.out.size))
    have HX1 := Lib.hid (HX.out.below hb HX.out.lt)
    have c2 := HX1.out.cell 2 rfl
    have c3 := HX1.out.cell 3 rfl
    obtain ⟨g, hg⟩ : ∃ g, w.heap.size = g := ⟨_, rfl⟩
    have HG := Lib.hid hg
    rw [hg] at HX1 c2 c3 ⊢
    clear hb HX HB0 HC HRES hg
    go_wp2_with fail
    clear c2 c3
    go_loopw [3] (fun iv wr => RelMo w ni g #[.string name, .bool auto, .slice ia ni icap, .slice da nd dcap] (fun i => (im i).ok) iv wr) (fun iv _ => ni - (Lib.intOf iv).toNat)
    case atStart => exact ⟨0, Nat.zero_le _, rfl, rfl, HX1.out, HB1.out⟩
    case round =>
      obtain ⟨i, hi, rfl, hall, hbx, hbel⟩ := hrel
      have HB2 := Lib.hid hbel
      have HX2 := Lib.hid hbx
      have HA := Lib.hid hall
      have c2 := hbx.cell 2 rfl
      have hsz := hbel.size
      have hnn := HNI.out
      clear hbel hbx hall
      rename World => wo
      by_cases hlt : i < ni
      · have p1 : decide ((i : Int) < (ni : Int)) = true := decide_eq_true (by omega)
        have p1n : decide (i < ni) = true := decide_eq_true hlt
        have q3 : IntKind.i64.wrap ((i : Int) + 1) = ((i + 1 : Nat) : Int) := wrap_succ hlt (by omega)
        obtain ⟨gx, ox, hix, hgx, hrd⟩ := iRow_read (HM.out wo HB2.out).1.1 hlt
        obtain ⟨k0, k1⟩ := hrd wo rfl
        obtain ⟨⟨hrow, hss⟩, hfr⟩ := (HM.out w (Below.refl _ _)).1.2 i hlt
        have hgw : gx < wo.heap.size := by omega
        obtain ⟨iv, hiv⟩ : ∃ x, im i = x := ⟨_, rfl⟩
        have HIV := Lib.hid hiv
        rw [hiv] at k0 k1 hrow hss hfr
        obtain ⟨⟨na, nn, nc, nf⟩, fr⟩ := iv
        simp only at k0 k1 hrow hss hfr
        have HROW := Lib.hid hrow
        have HSS := Lib.hid hss
        have HC := Lib.hid (rname_ok fr wo hfr)
        obtain ⟨b2, hb2⟩ : ∃ b, refd fr = b := ⟨_, rfl⟩
        have HIO := Lib.hid (show (im i).ok = (b2 && (decide (0 < nn) && (decide (nn ≤ 256) && allN (fun k => refd (nf k)) nn))) by rw [hiv]; unfold IM.ok fewOk; rw [← hb2])
        rw [hb2] at HC
        clear hiv hb2 hrow hss hfr hrd
        cases b2 with
        | false =>
          obtain rfl : res = false := by rw [← HRS.out, allN_no (f := fun i => (im i).ok) hlt HIO.out]; rfl
          go_wp2_with fail
          refine HC.out.mono ?_
          rintro e w3 ⟨rfl, hb⟩
          have HB3 := Lib.hid (HB2.out.trans (hb.mono hsz))
          clear hb
          go_wp2_with fail
          go_ret
          exact ⟨rfl, by first | exact HB3.out | (rw [← HG.out]; exact HB3.out)⟩
        | true =>
          rcases Nat.eq_zero_or_pos nn with hn0 | hn0
          · subst hn0
            obtain rfl : res = false := by rw [← HRS.out, allN_no (f := fun i => (im i).ok) hlt HIO.out]; rfl
            go_wp2_with fail
            refine HC.out.mono ?_
            rintro e w3 ⟨rfl, hb⟩
            have HB3 := Lib.hid (HB2.out.trans (hb.mono hsz))
            clear hb
            go_wp2_with fail
            go_ret
            exact ⟨rfl, by first | exact HB3.out | (rw [← HG.out]; exact HB3.out)⟩
          have e0 : ((nn : Int) == 0) = false := beq_false_of_ne (by omega)
          have e0n : (nn == 0) = false := beq_false_of_ne (by omega)
          by_cases h3 : nn ≤ 256
          case neg =>
            have q4 : decide ((256 : Int) < (nn : Int)) = true := decide_eq_true (by omega)
            have q4n : decide (256 < nn) = true := decide_eq_true (by omega)
            obtain rfl : res = false := by rw [← HRS.out, allN_no (f := fun i => (im i).ok) hlt (HIO.out.trans (by rw [decide_eq_false h3]; simp))]; rfl
            go_wp2_with fail
            refine HC.out.mono ?_
            rintro e w3 ⟨rfl, hb⟩
            have HB3 := Lib.hid (HB2.out.trans (hb.mono hsz))
            clear hb
            go_wp2_with fail
            go_ret
            exact ⟨rfl, by first | exact HB3.out | (rw [← HG.out]; exact HB3.out)⟩
          have q4 : decide ((256 : Int) < (nn : Int)) = false := decide_eq_false (by omega)
          have q4n : decide (256 < nn) = false := decide_eq_false (by omega)
          have HIO2 := Lib.hid (show (im i).ok = allN (fun k => refd (nf k)) nn by rw [HIO.out, decide_eq_true h3, decide_eq_true hn0]; simp)
          go_wp2_with fail
          refine HC.out.mono ?_
          rintro e w3 ⟨rfl, hb⟩
          have HB3 := Lib.hid (HB2.out.trans (hb.mono hsz))
          have HX3 := Lib.hid (HX2.out.below hb HX2.out.lt)
          clear hb k0 k1 c2 HIO
          go_wp2_with fail
          go_loopw [5] (fun kv wx => RelMo w nn g #[.string name, .bool auto, .slice ia ni icap, .slice da nd dcap] (fun k => refd (nf k)) kv wx) (fun kv _ => nn - (Lib.intOf kv).toNat)
          case atStart => exact ⟨0, Nat.zero_le _, rfl, rfl, HX3.out, HB3.out⟩
          case round =>
            obtain ⟨k, hk, rfl, hall, hbx, hbel⟩ := hrel
            have HB4 := Lib.hid hbel
            have HX4 := Lib.hid hbx
            have HA2 := Lib.hid hall
            have hsz4 := hbel.size
            clear hbel hbx hall
            by_cases hkl : k < nn
            · have p2 : decide ((k : Int) < (nn : Int)) = true := decide_eq_true (by omega)
              have p2n : decide (k < nn) = true := decide_eq_true hkl
              have q5 : IntKind.i64.wrap ((k : Int) + 1) = ((k + 1 : Nat) : Int) := wrap_succ hkl (by omega)
              obtain ⟨g1, o1, hix1, hg1, hrd1⟩ := (HROW.out.below HB4.out (Nat.le_refl _)).read 35 9 Tryz.underlying35 (by kernel_rfl) Tryz.sizeOf9 hkl
              have z1 : wr.cell? ⟨g1, o1, none⟩ = some (.string (nf k)) := hrd1 wr rfl 0 _ rfl
              have HC2 := Lib.hid (rname_ok (nf k) wr (HSS.out k hkl))
              have hg1w : g1 < wr.heap.size := by omega
              obtain ⟨x, hx⟩ : ∃ x, nf k = x := ⟨_, rfl⟩
              obtain ⟨bk, hbk⟩ : ∃ b, refd x = b := ⟨_, rfl⟩
              have HBK := Lib.hid (show refd (nf k) = bk by rw [hx, hbk])
              rw [hx] at z1 HC2
              rw [hbk] at HC2
              clear hx hbk hrd1
              cases bk with
              | true =>
                have HNX := Lib.hid (allN_succ (f := fun k => refd (nf k)) HA2.out HBK.out)
                go_wp2_with fail
                refine HC2.out.mono ?_
                rintro e w5 ⟨rfl, hb⟩
                have HB5 := Lib.hid (HB4.out.trans (hb.mono hsz4))
                have HX5 := Lib.hid (HX4.out.below hb HX4.out.lt)
                clear hb
                go_wp2_with fail
                go_roundw
                case rel => exact ⟨k + 1, hkl, rfl, HNX.out, HX5.out, HB5.out⟩
                case measure => simp only [Lib.intOf]; omega
              | false =>
                obtain rfl : res = false := by rw [← HRS.out, allN_no (f := fun i => (im i).ok) hlt (HIO2.out.trans (allN_no (f := fun k => refd (nf k)) hkl HBK.out))]; rfl
                go_wp2_with fail
                refine HC2.out.mono ?_
                rintro e w5 ⟨rfl, hb⟩
                have HB5 := Lib.hid (HB4.out.trans (hb.mono hsz4))
                clear hb
                go_wp2_with fail
                go_ret
                exact ⟨rfl, by first | exact HB5.out | (rw [← HG.out]; exact HB5.out)⟩
            · have p2 : decide ((k : Int) < (nn : Int)) = false := decide_eq_false (by omega)
              have p2n : decide (k < nn) = false := decide_eq_false hkl
              obtain rfl : k = nn := by omega
              have HNX := Lib.hid (allN_succ (f := fun i => (im i).ok) HA.out (HIO2.out.trans HA2.out))
              go_wp2_with fail
              go_roundw
              case rel => exact ⟨i + 1, hlt, rfl, HNX.out, HX4.out, HB4.out⟩
              case measure => simp only [Lib.intOf]; omega
      · have p1 : decide ((i : Int) < (ni : Int)) = false := decide_eq_false (by omega)
        have p1n : decide (i < ni) = false := decide_eq_false hlt
        obtain rfl : i = ni := by omega
        have HRS2 := Lib.hid (show allN (fun i => (df i).ok) nd = res by rw [← HRS.out, HA.out]; rfl)
        clear hi HA hnn
        go_wp2_with fail
        clear c2
        go_loopw [6] (fun iv wr => RelMo w nd g #[.string name, .bool auto, .slice ia i icap, .slice da nd dcap] (fun i => (df i).ok) iv wr) (fun iv _ => nd - (Lib.intOf iv).toNat)
        case atStart => exact ⟨0, Nat.zero_le _, rfl, rfl, HX2.out, HB2.out⟩
        case round =>
          obtain ⟨j, hj, rfl, hall, hbx, hbel⟩ := hrel
          have HB3 := Lib.hid hbel
          have HX3 := Lib.hid hbx
          have HA := Lib.hid hall
          have c3 := hbx.cell 3 rfl
          have hsz3 := hbel.size
          have hnn := HNI.out
          clear hbel hbx hall
          by_cases hjl : j < nd
          · have p3 : decide ((j : Int) < (nd : Int)) = true := decide_eq_true (by omega)
            have p3n : decide (j < nd) = true := decide_eq_true hjl
            have q3 : IntKind.i64.wrap ((j : Int) + 1) = ((j + 1 : Nat) : Int) := wrap_succ hjl (by omega)
            obtain ⟨gx, ox, hix, hgx, hrd⟩ := dRow_read (HM.out wr HB3.out).2.1 hjl
            have hdf := (HM.out wr HB3.out).2.2 j hjl
            have hgw : gx < wr.heap.size := by omega
            obtain ⟨nm, hnm⟩ : ∃ x, (df j).name = x := ⟨_, rfl⟩
            have z0 : wr.cell? ⟨gx, ox, none⟩ = some (.string nm) := by rw [← hnm]; exact hrd wr rfl 0 _ rfl
            have H1 := Lib.hid (one_tcells hdf.2)
            have hcn := rname_ok (df j).name wr hdf.1
            obtain ⟨bn, hbn⟩ : ∃ b, refd (df j).name = b := ⟨_, rfl⟩
            obtain ⟨bt, hbt⟩ : ∃ b, (df j).t.okT = b := ⟨_, rfl⟩
            have HDO := Lib.hid (show (df j).ok = (bn && bt) by unfold DF.ok; rw [hbn, hbt])
            rw [hbn, hnm] at hcn
            have HC2 := Lib.hid hcn
            have HT := Lib.hid (fun (w5 : World) (hb : Below w.heap.size w w5) => hbt ▸ rType_ok (df j).t w.heap.size w5 ((HM.out w5 hb).2.2 j hjl).2 hb.size)
            have HRD := Lib.hid (fun (w5 : World) (hb : Below wr.heap.size wr w5) => range_dt (hrd w5 (hb.block gx hgw)))
            clear hcn hbn hbt hnm hdf hrd
            cases bn with
            | false =>
              obtain rfl : res = false := by rw [← HRS2.out]; exact allN_no (f := fun i => (df i).ok) hjl HDO.out
              go_wp2_with fail
              refine HC2.out.mono ?_
              rintro e w5 ⟨rfl, hb⟩
              have HB5 := Lib.hid (HB3.out.trans (hb.mono hsz3))
              clear hb
              go_wp2_with fail
              go_ret
              exact ⟨rfl, by first | exact HB5.out | (rw [← HG.out]; exact HB5.out)⟩
            | true =>
              go_wp2_with fail
              refine HC2.out.mono ?_
              rintro e w5 ⟨rfl, hb⟩
              have HB5 := Lib.hid (HB3.out.trans (hb.mono hsz3))
              have HX5 := Lib.hid (HX3.out.below hb HX3.out.lt)
              have HR5 := Lib.hid (HRD.out w5 hb)
              have c5 := HX5.out.cell 3 rfl
              clear hb c3 z0
              cases bt with
              | false =>
                obtain rfl : res = false := by rw [← HRS2.out]; exact allN_no (f := fun i => (df i).ok) hjl HDO.out
                go_wp2_with (refine wpList_load_midN (by rfl) 39 (.tmp 86) rfl gx (ox + 1) rfl (df j).t.cells _ HR5.out Tryz.underlying39 rfl (by rw [info_T, H1.out.1]) ?_)
                refine (HT.out _ HB5.out).mono ?_
                rintro e w6 ⟨rfl, hb⟩
                have HB6 := Lib.hid (HB5.out.trans (hb.mono HB5.out.size))
                clear hb
                go_wp2_with fail
                go_ret
                exact ⟨rfl, by first | exact HB6.out | (rw [← HG.out]; exact HB6.out)⟩
              | true =>
                have HNX := Lib.hid (allN_succ (f := fun i => (df i).ok) HA.out HDO.out)
                go_wp2_with (refine wpList_load_midN (by rfl) 39 (.tmp 86) rfl gx (ox + 1) rfl (df j).t.cells _ HR5.out Tryz.underlying39 rfl (by rw [info_T, H1.out.1]) ?_)
                refine (HT.out _ HB5.out).mono ?_
                rintro e w6 ⟨rfl, hb⟩
                have HB6 := Lib.hid (HB5.out.trans (hb.mono HB5.out.size))
                have HX6 := Lib.hid (HX5.out.below hb HX5.out.lt)
                clear hb c5
                go_wp2_with fail
                go_roundw
                case rel => exact ⟨j + 1, hjl, rfl, HNX.out, HX6.out, HB6.out⟩
                case measure => simp only [Lib.intOf]; omega
          · have p3 : decide ((j : Int) < (nd : Int)) = false := decide_eq_false (by omega)
            have p3n : decide (j < nd) = false := decide_eq_false hjl
            obtain rfl : j = nd := by omega
            obtain rfl : res = true := HRS2.out.symm.trans HA.out
            go_wp2_with fail
            go_ret
            exact ⟨rfl, by first | exact HB3.out | (rw [← HG.out]; exact HB3.out)⟩
end Go.Proofs.YtgmnojnalkhepaaGreatDoor
