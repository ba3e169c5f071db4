/-
  A bundle of texts, one behind the other: ShY5.
-/
import Derived.Test.YtmpfkljjpnfloaaGreatDoorJK
import Derived.Test.YtmpfkljjpnfloaaGreatDoorJB
import Derived.Test.YtmpfkljjpnfloaaGreatDoorJM
/-
  The document's depth of a type: 'depth', 'Depth'.
-/
namespace Go.Proofs.YtmpfkljjpnfloaaGreatDoor
open Go.RowKit
set_option linter.unusedVariables false
set_option linter.unusedSimpArgs false
set_option maxRecDepth 100000

theorem range_part {w : World} {g o : Nat} {p : PD} {t : TT} (h : w.rangeAt g o (pcells p t)) : w.rangeAt g (o + 1) t.cells := fun j v hv => by
  have hj : j < t.cells.length := (List.getElem?_eq_some_iff.1 hv).1
  have h2 : (pcells p t)[1 + j]? = some v := by
    show ([Value.string p.name] ++ t.cells ++ [.bool p.opt, p.d.v])[1 + j]? = some v
    rw [List.getElem?_append_left (by simp; omega), List.getElem?_append_right (by simp)]
    simpa using hv
  have h3 := h (1 + j) v h2
  rwa [← Nat.add_assoc] at h3
def RelDq (w : World) (g : Nat) (cs : List Value) (n off : Nat) (D : Nat → Nat) (dv iv : Value) (wr : World) : Prop :=
  ∃ i : Nat, i ≤ n ∧ iv = .int .i64 (i : Nat) ∧ dv = .int .i64 (D (off + i) : Nat) ∧ Bx wr g cs.toArray 29 ∧ Below w.heap.size w wr
theorem rdepth_0 (t : TT) (w : World) : Calls Tryz.prog 17 #[.agg t.cells.toArray, .int .i64 0] w fun e w' => e = .returned (.int .i64 0) ∧ Below w.heap.size w w' := by
  have HB0 := Lib.hid ((Below.refl w.heap.size w).alloc (Nat.le_refl _) (.cells t.cells.toArray 29))
  go_enter Tryz.func17, Tryz.ntmps17
  go_wp2_with fail
  go_ret
  exact ⟨rfl, HB0.out⟩
set_option maxHeartbeats 16000000 in
theorem rdepth_in (t : TT) (B : Nat) (m mp : Nat) (w : World) (hin : TIn B w t) (hB : B ≤ w.heap.size) (hm : m = mp + 1) (hm2 : m ≤ 1000)
    (hrec : ∀ k, k < t.kids → ∀ w' : World, Below w.heap.size w w' → Calls Tryz.prog 17 #[.agg (t.kid k).cells.toArray, .int .i64 (mp : Nat)] w' fun e w'' => e = .returned (.int .i64 (min (t.kid k).dep mp : Nat)) ∧ Below w'.heap.size w' w'') :
    Calls Tryz.prog 17 #[.agg t.cells.toArray, .int .i64 (m : Nat)] w fun e w' => e = .returned (.int .i64 (min t.dep m : Nat)) ∧ Below w.heap.size w w' := by
  have HDS := Lib.hid (fun k => t.dpt_succ mp k)
  have HDE := Lib.hid (show min t.dep m = t.dpt mp t.kids + 1 by rw [t.dep_eq]; unfold TT.dpt; omega)
  have HDL := Lib.hid (fun k => t.dpt_le mp k)
  have hone := one_tcells hin
  obtain ⟨kd, tn, op, lo, hi, lw, hg, ca, cn, cc, cch, ext, fr, sa, sn, sc, sf, ma, mn, mc, mf, pa, pn, pc, pf, ptf, aa, an, ac, af, atf, ea, en, ec, etf, rfl⟩ := hin.open
  obtain ⟨D, hD⟩ : ∃ D, TT.dpt (TT.mk kd tn (.mk op lo hi lw hg ca cn cc cch) ext fr ⟨sa, sn, sc, sf⟩ ⟨ma, mn, mc, mf⟩ ⟨pa, pn, pc, pf⟩ ptf ⟨aa, an, ac, af⟩ atf ea en ec etf) mp = D := ⟨_, rfl⟩
  rw [hD] at HDS HDE HDL
  have HDZ := Lib.hid (show D 0 = 0 by rw [← hD]; simp [TT.dpt, mxN])
  have RP : ∀ i, i < pn → ∀ w' : World, Below w.heap.size w w' → Calls Tryz.prog 17 #[.agg (ptf i).cells.toArray, .int .i64 (mp : Nat)] w' fun e w'' => e = .returned (.int .i64 (min (ptf i).dep mp : Nat)) ∧ Below w'.heap.size w' w'' := fun i hi => by
    have h := hrec i (by show i < pn + an + en; omega)
    simp only [TT.kid, if_pos hi] at h
    exact h
  have RA : ∀ i, i < an → ∀ w' : World, Below w.heap.size w w' → Calls Tryz.prog 17 #[.agg (atf i).cells.toArray, .int .i64 (mp : Nat)] w' fun e w'' => e = .returned (.int .i64 (min (atf i).dep mp : Nat)) ∧ Below w'.heap.size w' w'' := fun i hi => by
    have h := hrec (pn + i) (by show pn + i < pn + an + en; omega)
    simp only [TT.kid, if_neg (show ¬ pn + i < pn by omega), if_pos (show pn + i < pn + an by omega), show pn + i - pn = i by omega] at h
    exact h
  have RE : ∀ i, i < en → ∀ w' : World, Below w.heap.size w w' → Calls Tryz.prog 17 #[.agg (etf i).cells.toArray, .int .i64 (mp : Nat)] w' fun e w'' => e = .returned (.int .i64 (min (etf i).dep mp : Nat)) ∧ Below w'.heap.size w' w'' := fun i hi => by
    have h := hrec (pn + an + i) (by show pn + an + i < pn + an + en; omega)
    simp only [TT.kid, if_neg (show ¬ pn + an + i < pn by omega), if_neg (show ¬ pn + an + i < pn + an by omega), show pn + an + i - (pn + an) = i by omega] at h
    exact h
  have SP : ∀ i, i < pn → D (0 + (i + 1)) = max (D (0 + i)) (min (ptf i).dep mp) := fun i hi => by
    have h := HDS.out i
    simp only [TT.kid, if_pos hi] at h
    rw [Nat.zero_add, Nat.zero_add]
    exact h
  have SA : ∀ i, i < an → D (pn + (i + 1)) = max (D (pn + i)) (min (atf i).dep mp) := fun i hi => by
    have h := HDS.out (pn + i)
    simp only [TT.kid, if_neg (show ¬ pn + i < pn by omega), if_pos (show pn + i < pn + an by omega), show pn + i - pn = i by omega] at h
    exact h
  have SE : ∀ i, i < en → D (pn + an + (i + 1)) = max (D (pn + an + i)) (min (etf i).dep mp) := fun i hi => by
    have h := HDS.out (pn + an + i)
    simp only [TT.kid, if_neg (show ¬ pn + an + i < pn by omega), if_neg (show ¬ pn + an + i < pn + an by omega), show pn + an + i - (pn + an) = i by omega] at h
    exact h
  obtain ⟨res, hres⟩ : ∃ res, min (TT.mk kd tn (.mk op lo hi lw hg ca cn cc cch) ext fr ⟨sa, sn, sc, sf⟩ ⟨ma, mn, mc, mf⟩ ⟨pa, pn, pc, pf⟩ ptf ⟨aa, an, ac, af⟩ atf ea en ec etf).dep m = res := ⟨_, rfl⟩
  rw [hres] at HDE ⊢
  have HRES := Lib.hid (show res = D (pn + an + en) + 1 ∧ res ≤ 1000 from ⟨HDE.out, by rw [← hres]; omega⟩)
  obtain ⟨⟨_, _, _, _, _, _⟩, ⟨hpr, hp⟩, ⟨har, ha⟩, ⟨her, he⟩⟩ := hin
  have hpn : pn ≤ 9223372036854775807 := by have h1 : pn ≤ pc := hpr.1; have h2 : pc ≤ 140737488355328 := hpr.2.1; omega
  have han : an ≤ 9223372036854775807 := by have h1 : an ≤ ac := har.1; have h2 : ac ≤ 140737488355328 := har.2.1; omega
  have hen : en ≤ 9223372036854775807 := by have h1 : en ≤ ec := her.1; have h2 : ec ≤ 140737488355328 := her.2.1; omega
  obtain ⟨cs, hcs⟩ : ∃ cs, (TT.mk kd tn (.mk op lo hi lw hg ca cn cc cch) ext fr ⟨sa, sn, sc, sf⟩ ⟨ma, mn, mc, mf⟩ ⟨pa, pn, pc, pf⟩ ptf ⟨aa, an, ac, af⟩ atf ea en ec etf).cells = cs := ⟨_, rfl⟩
  have HC12 := Lib.hid (show cs[12]? = some (.slice pa pn pc) by rw [← hcs]; rfl)
  have HC13 := Lib.hid (show cs[13]? = some (.slice aa an ac) by rw [← hcs]; rfl)
  have HC14 := Lib.hid (show cs[14]? = some (.slice ea en ec) by rw [← hcs]; rfl)
  rw [hcs]
  have HX := Lib.hid (Bx.new w cs.toArray 29)
  have HB := Lib.hid ((Below.refl w.heap.size w).alloc (Nat.le_refl _) (.cells cs.toArray 29))
  have HPR := Lib.hid hpr
  have HP := Lib.hid hp
  have HAR := Lib.hid har
  have HA := Lib.hid ha
  have HER := Lib.hid her
  have HE := Lib.hid he
  have HPREC := Lib.hid RP
  have HAREC := Lib.hid RA
  have HEREC := Lib.hid RE
  have HPS := Lib.hid SP
  have HAS := Lib.hid SA
  have HES := Lib.hid SE
  have HBB := Lib.hid hB
  obtain ⟨M, hM⟩ : ∃ M : Int, (m : Int) = M := ⟨_, rfl⟩
  rw [hM]
  have q0 : decide (M ≤ 0) = false := decide_eq_false (by omega)
  have q9 : IntKind.i64.wrap (M - 1) = (mp : Int) := (wrap_ok (x := M - 1) (by unfold I64; omega)).trans (by omega)
  have c12 : (w.alloc (.cells cs.toArray 29)).cell? ⟨w.heap.size, 12, none⟩ = some (.slice pa pn pc) := HX.out.cell 12 (by rw [List.getElem?_toArray]; exact HC12.out)
  clear hpr hp har ha her he RP RA RE SP SA SE hrec hB hres hD hcs HDS HDE HDL hone hm hm2 hM
  go_enter Tryz.func17, Tryz.ntmps17
  go_wp2_with fail
  go_loopw [5, 6] (fun dv iv wr => RelDq w w.heap.size cs pn 0 D dv iv wr) (fun _ iv _ => pn - (Lib.intOf iv).toNat)
  case atStart => exact ⟨0, Nat.zero_le _, rfl, by rw [Nat.add_zero, HDZ.out]; rfl, HX.out, HB.out⟩
  case round =>
    obtain ⟨i, hli, rfl, rfl, hbx, hbel⟩ := hrel
    clear HX HB
    have HX := Lib.hid hbx
    have HB := Lib.hid hbel
    have c12 : wr.cell? ⟨w.heap.size, 12, none⟩ = some (.slice pa pn pc) := hbx.cell 12 (by rw [List.getElem?_toArray]; exact HC12.out)
    have hsz := hbel.size
    clear hbx hbel
    by_cases hlt : i < pn
    · have q1 : decide ((i : Int) < (pn : Int)) = true := decide_eq_true (by omega)
      have q1n : decide (i < pn) = true := decide_eq_true hlt
      have q3 : IntKind.i64.wrap ((i : Int) + 1) = ((i + 1 : Nat) : Int) := wrap_succ hlt hpn
      obtain ⟨gx, ox, hix, hgx, hrd⟩ := pRow_read HPR.out hlt
      have HR := Lib.hid (range_part (hrd wr (HB.out.block gx (by have := HBB.out; omega))))
      have HON := Lib.hid (one_tcells (HP.out i hlt).2)
      have HCT := Lib.hid (HPREC.out i hlt wr HB.out)
      obtain ⟨z, hz⟩ : ∃ z, min (ptf i).dep mp = z := ⟨_, rfl⟩
      rw [hz] at HCT
      obtain ⟨d0, hd0⟩ : ∃ d0, D (0 + i) = d0 := ⟨_, rfl⟩
      obtain ⟨d1, hd1⟩ : ∃ d1, D (0 + (i + 1)) = d1 := ⟨_, rfl⟩
      have q6 : max (d0 : Int) (z : Int) = (d1 : Int) := by
        have h := HPS.out i hlt
        rw [hz, hd0, hd1] at h
        omega
      have HD1 := Lib.hid hd1
      rw [hd0]
      clear hz hd0 hd1 hrd
      go_wp2_with (refine wpList_load_mid rfl 29 (.tmp 23) rfl gx (ox + 1) rfl (ptf i).cells _ HR.out Tryz.underlying29 rfl (by rw [info_T, HON.out.1]) ?_)
      refine HCT.out.mono ?_
      rintro e W2 ⟨rfl, hb2⟩
      have HB1 := Lib.hid (HB.out.trans (hb2.mono hsz))
      have HX1 := Lib.hid (HX.out.below hb2 HX.out.lt)
      clear hb2
      go_wp2_with fail
      go_roundw
      case rel => exact ⟨i + 1, hlt, rfl, by rw [HD1.out], HX1.out, HB1.out⟩
      case measure => simp only [Lib.intOf]; omega
    · have q1 : decide ((i : Int) < (pn : Int)) = false := decide_eq_false (by omega)
      have q1n : decide (i < pn) = false := decide_eq_false hlt
      obtain rfl : pn = i := by omega
      obtain ⟨wo0, rfl⟩ : ∃ wo : World, wo = wr := ⟨_, rfl⟩
      go_wp2_with fail
      go_loopw [5, 7] (fun dv iv wr => RelDq w w.heap.size cs an pn D dv iv wr) (fun _ iv _ => an - (Lib.intOf iv).toNat)
      case atStart => exact ⟨0, Nat.zero_le _, rfl, by simp, HX.out, HB.out⟩
      case round =>
        obtain ⟨i, hli, rfl, rfl, hbx, hbel⟩ := hrel
        clear HX HB
        have HX := Lib.hid hbx
        have HB := Lib.hid hbel
        have c13 : wr.cell? ⟨w.heap.size, 13, none⟩ = some (.slice aa an ac) := hbx.cell 13 (by rw [List.getElem?_toArray]; exact HC13.out)
        have hsz := hbel.size
        clear hbx hbel
        by_cases hlt : i < an
        · have q1 : decide ((i : Int) < (an : Int)) = true := decide_eq_true (by omega)
          have q1n : decide (i < an) = true := decide_eq_true hlt
          have q3 : IntKind.i64.wrap ((i : Int) + 1) = ((i + 1 : Nat) : Int) := wrap_succ hlt han
          obtain ⟨gx, ox, hix, hgx, hrd⟩ := pRow_read HAR.out hlt
          have HR := Lib.hid (range_part (hrd wr (HB.out.block gx (by have := HBB.out; omega))))
          have HON := Lib.hid (one_tcells (HA.out i hlt).2)
          have HCT := Lib.hid (HAREC.out i hlt wr HB.out)
          obtain ⟨z, hz⟩ : ∃ z, min (atf i).dep mp = z := ⟨_, rfl⟩
          rw [hz] at HCT
          obtain ⟨d0, hd0⟩ : ∃ d0, D (pn + i) = d0 := ⟨_, rfl⟩
          obtain ⟨d1, hd1⟩ : ∃ d1, D (pn + (i + 1)) = d1 := ⟨_, rfl⟩
          have q6 : max (d0 : Int) (z : Int) = (d1 : Int) := by
            have h := HAS.out i hlt
            rw [hz, hd0, hd1] at h
            omega
          have HD1 := Lib.hid hd1
          rw [hd0]
          clear hz hd0 hd1 hrd
          go_wp2_with (refine wpList_load_mid rfl 29 (.tmp 41) rfl gx (ox + 1) rfl (atf i).cells _ HR.out Tryz.underlying29 rfl (by rw [info_T, HON.out.1]) ?_)
          refine HCT.out.mono ?_
          rintro e W2 ⟨rfl, hb2⟩
          have HB1 := Lib.hid (HB.out.trans (hb2.mono hsz))
          have HX1 := Lib.hid (HX.out.below hb2 HX.out.lt)
          clear hb2
          go_wp2_with fail
          go_roundw
          case rel => exact ⟨i + 1, hlt, rfl, by rw [HD1.out], HX1.out, HB1.out⟩
          case measure => simp only [Lib.intOf]; omega
        · have q1 : decide ((i : Int) < (an : Int)) = false := decide_eq_false (by omega)
          have q1n : decide (i < an) = false := decide_eq_false hlt
          obtain rfl : an = i := by omega
          obtain ⟨wo1, rfl⟩ : ∃ wo : World, wo = wr := ⟨_, rfl⟩
          go_wp2_with fail
          go_loopw [5, 8] (fun dv iv wr => RelDq w w.heap.size cs en (pn + an) D dv iv wr) (fun _ iv _ => en - (Lib.intOf iv).toNat)
          case atStart => exact ⟨0, Nat.zero_le _, rfl, by simp, HX.out, HB.out⟩
          case round =>
            obtain ⟨i, hli, rfl, rfl, hbx, hbel⟩ := hrel
            clear HX HB
            have HX := Lib.hid hbx
            have HB := Lib.hid hbel
            have c14 : wr.cell? ⟨w.heap.size, 14, none⟩ = some (.slice ea en ec) := hbx.cell 14 (by rw [List.getElem?_toArray]; exact HC14.out)
            have hsz := hbel.size
            clear hbx hbel
            by_cases hlt : i < en
            · have q1 : decide ((i : Int) < (en : Int)) = true := decide_eq_true (by omega)
              have q1n : decide (i < en) = true := decide_eq_true hlt
              have q3 : IntKind.i64.wrap ((i : Int) + 1) = ((i + 1 : Nat) : Int) := wrap_succ hlt hen
              obtain ⟨gx, ox, hix, hgx, hrd⟩ := tRow_read HER.out hlt
              have HR := Lib.hid ((hrd wr (HB.out.block gx (by have := HBB.out; omega))))
              have HON := Lib.hid (one_tcells (HE.out i hlt))
              have HCT := Lib.hid (HEREC.out i hlt wr HB.out)
              obtain ⟨z, hz⟩ : ∃ z, min (etf i).dep mp = z := ⟨_, rfl⟩
              rw [hz] at HCT
              obtain ⟨d0, hd0⟩ : ∃ d0, D ((pn + an) + i) = d0 := ⟨_, rfl⟩
              obtain ⟨d1, hd1⟩ : ∃ d1, D ((pn + an) + (i + 1)) = d1 := ⟨_, rfl⟩
              have q6 : max (d0 : Int) (z : Int) = (d1 : Int) := by
                have h := HES.out i hlt
                rw [hz, hd0, hd1] at h
                omega
              have HD1 := Lib.hid hd1
              rw [hd0]
              clear hz hd0 hd1 hrd
              go_wp2_with (refine wpList_load_mid rfl 29 (.tmp 58) rfl gx ox rfl (etf i).cells _ HR.out Tryz.underlying29 rfl (by rw [info_T, HON.out.1]) ?_)
              refine HCT.out.mono ?_
              rintro e W2 ⟨rfl, hb2⟩
              have HB1 := Lib.hid (HB.out.trans (hb2.mono hsz))
              have HX1 := Lib.hid (HX.out.below hb2 HX.out.lt)
              clear hb2
              go_wp2_with fail
              go_roundw
              case rel => exact ⟨i + 1, hlt, rfl, by rw [HD1.out], HX1.out, HB1.out⟩
              case measure => simp only [Lib.intOf]; omega
            · have q1 : decide ((i : Int) < (en : Int)) = false := decide_eq_false (by omega)
              have q1n : decide (i < en) = false := decide_eq_false hlt
              obtain rfl : en = i := by omega
              have q8 : IntKind.i64.wrap ((D (pn + an + en) : Int) + 1) = (res : Int) := (wrap_ok (x := (D (pn + an + en) : Int) + 1) (by have := HRES.out; unfold I64; omega)).trans (by have := HRES.out; omega)
              go_wp2_with fail
              go_ret
              exact ⟨rfl, HB.out⟩
theorem rdepth_ok : ∀ (t : TT) (B : Nat) (m : Nat) (w : World), TIn B w t → B ≤ w.heap.size → m ≤ 1000 →
    Calls Tryz.prog 17 #[.agg t.cells.toArray, .int .i64 (m : Nat)] w fun e w' => e = .returned (.int .i64 (min t.dep m : Nat)) ∧ Below w.heap.size w w'
  | .nil, B, m, w, h, _, _ => h.elim
  | .mk kind name con ext fr nm mo pa pt ad at_ ea en ec et, B, m, w, h, hB, hm => by
    have RP := fun i (hi : i < pa.n) (z : Nat) (w' : World) (hb : Below w.heap.size w w') => rdepth_ok (pt i) w.heap.size z w' ((h.2.1.2 i hi).2.below hb hB) hb.size
    have RA := fun i (hi : i < ad.n) (z : Nat) (w' : World) (hb : Below w.heap.size w w') => rdepth_ok (at_ i) w.heap.size z w' ((h.2.2.1.2 i hi).2.below hb hB) hb.size
    have RE := fun i (hi : i < en) (z : Nat) (w' : World) (hb : Below w.heap.size w w') => rdepth_ok (et i) w.heap.size z w' ((h.2.2.2.2 i hi).below hb hB) hb.size
    cases m with
    | zero => simpa using rdepth_0 (TT.mk kind name con ext fr nm mo pa pt ad at_ ea en ec et) w
    | succ mp =>
      refine rdepth_in _ B (mp + 1) mp w h hB rfl hm (fun k hk w' hb => ?_)
      simp only [TT.kids] at hk
      simp only [TT.kid]
      split
      · exact RP k (by assumption) mp w' hb (by omega)
      · split
        · exact RA _ (by omega) mp w' hb (by omega)
        · exact RE _ (by omega) mp w' hb (by omega)
set_option maxHeartbeats 4000000 in
theorem rDepth_ok (t : TT) (B : Nat) (w : World) (ht : TIn B w t) (hB : B ≤ w.heap.size) :
    Calls Tryz.prog 9 #[.agg t.cells.toArray] w fun e w' => e = .returned (.int .i64 (min t.dep 41 : Nat)) ∧ Below w.heap.size w w' := by
  have HONE := Lib.hid (one_tcells ht)
  have HX := Lib.hid (Bx.new w t.cells.toArray 29)
  have HB0 := Lib.hid ((Below.refl w.heap.size w).alloc (Nat.le_refl _) (.cells t.cells.toArray 29))
  have HC := Lib.hid (rdepth_ok t B 41 _ (ht.below (HB0.out.mono hB) (Nat.le_refl _)) (Nat.le_trans hB HB0.out.size) (by omega))
  obtain ⟨z, hz⟩ : ∃ z, min t.dep 41 = z := ⟨_, rfl⟩
  rw [hz] at HC ⊢
  clear ht hB hz
  go_enter Tryz.func9, Tryz.ntmps9
  go_wp2_with (refine wpList_load_mid rfl 29 (.tmp 1) rfl w.heap.size 0 rfl t.cells _ HX.out.range Tryz.underlying29 rfl (by rw [info_T, HONE.out.1]) ?_)
  refine HC.out.mono ?_
  rintro e w1 ⟨rfl, hb1⟩
  have HB1 := Lib.hid (HB0.out.trans (hb1.mono HB0.out.size))
  clear hb1
  go_wp2_with fail
  go_ret
  exact ⟨rfl, HB1.out⟩
end Go.Proofs.YtmpfkljjpnfloaaGreatDoor
