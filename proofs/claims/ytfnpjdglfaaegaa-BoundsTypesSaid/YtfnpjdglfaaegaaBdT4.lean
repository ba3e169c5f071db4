/-
  The document's 'check', 'Check'.
-/
import Derived.Test.YtfnpjdglfaaegaaBdT3
namespace Go.Proofs.Ytfnpjdglfaaegaa
open Go.RowKit Go.Shelf
set_option linter.unusedVariables false
set_option linter.unusedSimpArgs false
set_option maxRecDepth 100000

theorem rangeP_at {w : World} {g o : Nat} {p : PD} {t : TT} (h : w.rangeAt g o (pcells p t)) : w.rangeAt g (o + 1) t.cells := fun j v hv => by
  have hj : j < t.cells.length := (List.getElem?_eq_some_iff.1 hv).1
  have := h (1 + j) v (by
    show ([Value.string p.name] ++ t.cells ++ [.bool p.opt, p.d.v])[1 + j]? = some v
    rw [List.getElem?_append_left (by simp; omega), List.getElem?_append_right (by simp)]
    simpa using hv)
  rw [Nat.add_assoc]
  exact this
def RelCk (w : World) (n g : Nat) (cs : Array Value) (p : Nat → Bool) (iv : Value) (wr : World) : Prop :=
  ∃ i : Nat, i ≤ n ∧ iv = .int .i64 (i : Nat) ∧ (∀ k, k < i → p k = false) ∧ Bx wr g cs 35 ∧ Below w.heap.size w wr
set_option maxHeartbeats 16000000 in
theorem rcheck_ok : ∀ (t : TT) (d : Nat) (B : Nat) (w : World), TIn B w t → B ≤ w.heap.size → 1 ≤ d → d ≤ 41 → t.small →
    Calls Try.prog 38 #[.agg t.cells.toArray, .int .i64 (d : Nat)] w fun e w' => e = .returned (.bool (!emp t (41 - d))) ∧ Below w.heap.size w w'
  | .nil, d, B, w, h, _, _, _, _ => h.elim
  | .mk kind name con ext fr nm mo pa pt ad at_ ea en ecap et, d, B, w, hin, hB, hd1, hd2, hsm => by
    obtain ⟨s0, s1, s2, s3⟩ := hsm
    have H1 := Lib.hid (one_tcells hin)
    obtain ⟨t, ht⟩ : ∃ t, TT.mk kind name con ext fr nm mo pa pt ad at_ ea en ecap et = t := ⟨_, rfl⟩
    have HT := Lib.hid ht
    have hcells : t.cells[12]? = some (.slice pa.a pa.n pa.cap) ∧ t.cells[13]? = some (.slice ad.a ad.n ad.cap) ∧ t.cells[14]? = some (.slice ea en ecap) := by
      rw [← ht]
      cases con with
      | nil => exact hin.1.2.2.1.elim
      | mk => exact ⟨rfl, rfl, rfl⟩
    have HCL := Lib.hid hcells
    have hint : TIn B w t := by rw [← ht]; exact hin
    rw [ht] at H1 ⊢
    have HX := Lib.hid (Bx.new w t.cells.toArray 35)
    have HB := Lib.hid ((Below.refl w.heap.size w).alloc (Nat.le_refl _) (.cells t.cells.toArray 35))
    have HOF := Lib.hid (rOf_ok t w.heap.size _ ((hint.below (Below.refl _ _) hB).below HB.out (Nat.le_refl _)) HB.out.size (by rw [← ht]; show 2 * con.sz ≤ 200; omega))
    have HRP := Lib.hid (show ∀ w1, Below w.heap.size w w1 → RowAt w.heap.size w1 pa.a pa.n pa.cap 18 (fun i => pcells (pa.f i) (pt i)) ∧ (∀ i, i < pa.n → TIn w.heap.size w1 (pt i)) ∧ RowAt w.heap.size w1 ad.a ad.n ad.cap 18 (fun i => pcells (ad.f i) (at_ i)) ∧ (∀ i, i < ad.n → TIn w.heap.size w1 (at_ i)) ∧ RowAt w.heap.size w1 ea en ecap 15 (fun i => (et i).cells) ∧ (∀ i, i < en → TIn w.heap.size w1 (et i)) from fun w1 hb => by
      have h2 := (hin.below (Below.refl _ _) hB).below hb (Nat.le_refl _)
      exact ⟨h2.2.1.1, fun i hi => (h2.2.1.2 i hi).2, h2.2.2.1.1, fun i hi => (h2.2.2.1.2 i hi).2, h2.2.2.2.1, h2.2.2.2.2⟩)
    have HN := Lib.hid (show pa.n ≤ 9223372036854775807 ∧ ad.n ≤ 9223372036854775807 ∧ en ≤ 9223372036854775807 from by
      have h2 := HRP.out w (Below.refl _ _)
      have a1 := h2.1.1; have a2 := h2.1.2.1; have a3 := h2.2.2.1.1; have a4 := h2.2.2.1.2.1; have a5 := h2.2.2.2.2.1.1; have a6 := h2.2.2.2.2.1.2.1
      omega)
    rcases Nat.lt_or_ge 40 d with hd | hd
    · obtain rfl : d = 41 := by omega
      rw [show 41 - 41 = 0 from rfl, emp_zero]
      clear hin hint hB s0 s1 s2 s3 hcells ht
      go_enter Try.func38, Try.ntmps38
      go_wp2_with fail
      go_ret
      exact ⟨rfl, HB.out⟩
    have qd : decide ((40 : Int) < (d : Int)) = false := decide_eq_false (by omega)
    have qdn : decide (40 < d) = false := decide_eq_false (by omega)
    obtain ⟨j, hj⟩ : ∃ j, 41 - d = j + 1 := ⟨40 - d, by omega⟩
    have hj2 : 41 - (d + 1) = j := by omega
    have RP := Lib.hid (show ∀ i, i < pa.n → ∀ w1, Below w.heap.size w w1 → Calls Try.prog 38 #[.agg (pt i).cells.toArray, .int .i64 ((d + 1 : Nat) : Int)] w1 fun e w' => e = .returned (.bool (!emp (pt i) j)) ∧ Below w1.heap.size w1 w' from fun i hi w1 hb => by
      have h := rcheck_ok (pt i) (d + 1) w.heap.size w1 ((HRP.out w1 hb).2.1 i hi) hb.size (by omega) (by omega) (s1 i hi)
      rwa [hj2] at h)
    have RA := Lib.hid (show ∀ i, i < ad.n → ∀ w1, Below w.heap.size w w1 → Calls Try.prog 38 #[.agg (at_ i).cells.toArray, .int .i64 ((d + 1 : Nat) : Int)] w1 fun e w' => e = .returned (.bool (!emp (at_ i) j)) ∧ Below w1.heap.size w1 w' from fun i hi w1 hb => by
      have h := rcheck_ok (at_ i) (d + 1) w.heap.size w1 ((HRP.out w1 hb).2.2.2.1 i hi) hb.size (by omega) (by omega) (s2 i hi)
      rwa [hj2] at h)
    have RE := Lib.hid (show ∀ i, i < en → ∀ w1, Below w.heap.size w w1 → Calls Try.prog 38 #[.agg (et i).cells.toArray, .int .i64 ((d + 1 : Nat) : Int)] w1 fun e w' => e = .returned (.bool (!emp (et i) j)) ∧ Below w1.heap.size w1 w' from fun i hi w1 hb => by
      have h := rcheck_ok (et i) (d + 1) w.heap.size w1 ((HRP.out w1 hb).2.2.2.2.2 i hi) hb.size (by omega) (by omega) (s3 i hi)
      rwa [hj2] at h)
    have hemp : emp t (j + 1) = (ofE t || (anyN (fun i => emp (pt i) j) pa.n || (anyN (fun i => emp (at_ i) j) ad.n || anyN (fun i => emp (et i) j) en))) := by
      rw [← ht]
      rfl
    rw [hj, hemp]
    have qs : IntKind.i64.wrap ((d : Int) + 1) = ((d + 1 : Nat) : Int) := wrap_succ (n := 100) (by omega) (by omega)
    obtain ⟨bp, hbp⟩ : ∃ b, anyN (fun i => emp (pt i) j) pa.n = b := ⟨_, rfl⟩
    obtain ⟨ba, hba⟩ : ∃ b, anyN (fun i => emp (at_ i) j) ad.n = b := ⟨_, rfl⟩
    obtain ⟨be, hbe⟩ : ∃ b, anyN (fun i => emp (et i) j) en = b := ⟨_, rfl⟩
    obtain ⟨bo, hbo⟩ : ∃ b, ofE t = b := ⟨_, rfl⟩
    have HBP := Lib.hid hbp
    have HBA := Lib.hid hba
    have HBE := Lib.hid hbe
    have HBO := Lib.hid hbo
    have QS := Lib.hid qs
    rw [hbp, hba, hbe, hbo]
    clear hin hint hB s0 s1 s2 s3 hcells ht hd1 hd2 hd hj hj2 hemp hbp hba hbe hbo qs
    go_enter Try.func38, Try.ntmps38
    go_wp2_with (refine wpList_load_mid rfl 35 (.tmp 2) rfl w.heap.size 0 rfl t.cells _ HX.out.range Try.underlying35 rfl (by rw [info_T, H1.out.1]) ?_)
    generalize w.alloc (.cells t.cells.toArray 35) = W at *
    refine HOF.out.mono ?_
    rintro e w1 ⟨v, r, rfl, h1, h2⟩
    have HB1 := Lib.hid (HB.out.trans (h2.mono HB.out.size))
    have HX1 := Lib.hid (HX.out.below h2 HX.out.lt)
    obtain ⟨sv, cv, rfl⟩ := h1.1.shape
    have hbo2 := HBO.out
    unfold ofE at hbo2
    rw [← noneB_len h1.2.1] at hbo2
    obtain ⟨nr, hnr⟩ : ∃ nr, r.length = nr := ⟨_, rfl⟩
    rw [hnr] at hbo2 ⊢
    have HBO2 := Lib.hid hbo2
    obtain ⟨ob, hob⟩ : ∃ ob, ofB t = ob := ⟨_, rfl⟩
    rw [hob] at HBO2 ⊢
    obtain ⟨g, hg⟩ : ∃ g, w.heap.size = g := ⟨_, rfl⟩
    have HG := Lib.hid hg
    rw [hg] at HX1 ⊢
    clear h1 h2 hbo2 hnr hob HOF HX HB hg
    cases ob with
    | true =>
      rcases Nat.eq_zero_or_pos nr with hz | hz
      · subst hz
        obtain rfl : bo = true := HBO2.out.symm.trans rfl
        go_wp2_with fail
        go_ret
        exact ⟨rfl, by first | exact HB1.out | (rw [← HG.out]; exact HB1.out)⟩
      · have e0 : ((nr : Int) == 0) = false := beq_false_of_ne (by omega)
        have e0n : (nr == 0) = false := beq_false_of_ne (by omega)
        obtain rfl : bo = false := HBO2.out.symm.trans (by rw [Bool.true_and]; exact decide_eq_false (by omega))
        simp only [Bool.false_or]
        go_wp2_with fail
        go_loopw [7] (fun iv wr => RelCk w pa.n g t.cells.toArray (fun i => emp (pt i) j) iv wr) (fun iv _ => pa.n - (Lib.intOf iv).toNat)
        case atStart => exact ⟨0, Nat.zero_le _, rfl, fun k hk => absurd hk (Nat.not_lt_zero _), HX1.out, HB1.out⟩
        case round =>
          obtain ⟨i, hi, rfl, hall, hbx, hbel⟩ := hrel
          have HB2 := Lib.hid hbel
          have HX2 := Lib.hid hbx
          have HA := Lib.hid hall
          have cc := HCL.out
          have c12 := hbx.cell 12 (v := .slice pa.a pa.n pa.cap) (by simpa using cc.1)
          have hsz := hbel.size
          have hn9 := HN.out
          clear hbel hbx hall cc
          by_cases hlt : i < pa.n
          · have q1 : decide ((i : Int) < (pa.n : Int)) = true := decide_eq_true (by omega)
            have q1n : decide (i < pa.n) = true := decide_eq_true hlt
            have y1 : (i : Int) < (pa.n : Int) := by omega
            obtain ⟨gx, ox, hix, hgx, hrd⟩ := pRow_read (HRP.out wr HB2.out).1 hlt
            have HR := Lib.hid (rangeP_at (hrd wr rfl))
            have H2 := Lib.hid (one_tcells ((HRP.out wr HB2.out).2.1 i hlt))
            have HC := Lib.hid (RP.out i hlt wr HB2.out)
            obtain ⟨b, hb⟩ : ∃ b, emp (pt i) j = b := ⟨_, rfl⟩
            have HBI := Lib.hid hb
            rw [hb] at HC
            have q3 : IntKind.i64.wrap ((i : Int) + 1) = ((i + 1 : Nat) : Int) := wrap_succ hlt (by omega)
            clear hb hrd hn9
            have qs := QS.out
            cases b with
            | true =>
              obtain rfl : bp = true := HBP.out.symm.trans (anyN_yes hlt HBI.out)
              go_wp2_with (refine wpList_load_mid rfl 35 (.tmp 34) rfl gx (ox + 1) rfl (pt i).cells _ HR.out Try.underlying35 rfl (by rw [info_T, H2.out.1]) ?_)
              refine HC.out.mono ?_
              rintro e w9 ⟨rfl, hb⟩
              have HB9 := Lib.hid (HB2.out.trans (hb.mono hsz))
              clear hb
              go_wp2_with fail
              go_ret
              exact ⟨rfl, by first | exact HB9.out | (rw [← HG.out]; exact HB9.out)⟩
            | false =>
              have HNX := Lib.hid (relIx_next HA.out HBI.out)
              go_wp2_with (refine wpList_load_mid rfl 35 (.tmp 34) rfl gx (ox + 1) rfl (pt i).cells _ HR.out Try.underlying35 rfl (by rw [info_T, H2.out.1]) ?_)
              refine HC.out.mono ?_
              rintro e w9 ⟨rfl, hb⟩
              have HX9 := Lib.hid (HX2.out.below hb HX2.out.lt)
              have HB9 := Lib.hid (HB2.out.trans (hb.mono hsz))
              clear hb
              go_wp2_with fail
              go_roundw
              case rel => exact ⟨i + 1, hlt, rfl, HNX.out, HX9.out, HB9.out⟩
              case measure => simp only [Lib.intOf]; omega
          · have q1 : decide ((i : Int) < (pa.n : Int)) = false := decide_eq_false (by omega)
            have q1n : decide (i < pa.n) = false := decide_eq_false hlt
            obtain rfl : bp = false := HBP.out.symm.trans (anyN_no (fun k hk => HA.out k (by omega)))
            clear hi HA hsz hn9
            try simp only [Bool.false_or]
            rename World => wa
            go_wp2_with fail
            go_loopw [8] (fun iv wr => RelCk w ad.n g t.cells.toArray (fun i => emp (at_ i) j) iv wr) (fun iv _ => ad.n - (Lib.intOf iv).toNat)
            case atStart => exact ⟨0, Nat.zero_le _, rfl, fun k hk => absurd hk (Nat.not_lt_zero _), HX2.out, HB2.out⟩
            case round =>
              obtain ⟨i, hi, rfl, hall, hbx, hbel⟩ := hrel
              have HB3 := Lib.hid hbel
              have HX3 := Lib.hid hbx
              have HA := Lib.hid hall
              have cc := HCL.out
              have c13 := hbx.cell 13 (v := .slice ad.a ad.n ad.cap) (by simpa using cc.2.1)
              have hsz := hbel.size
              have hn9 := HN.out
              clear hbel hbx hall cc
              by_cases hlt : i < ad.n
              · have q1 : decide ((i : Int) < (ad.n : Int)) = true := decide_eq_true (by omega)
                have q1n : decide (i < ad.n) = true := decide_eq_true hlt
                have y1 : (i : Int) < (ad.n : Int) := by omega
                obtain ⟨gx, ox, hix, hgx, hrd⟩ := pRow_read (HRP.out wr HB3.out).2.2.1 hlt
                have HR := Lib.hid (rangeP_at (hrd wr rfl))
                have H2 := Lib.hid (one_tcells ((HRP.out wr HB3.out).2.2.2.1 i hlt))
                have HC := Lib.hid (RA.out i hlt wr HB3.out)
                obtain ⟨b, hb⟩ : ∃ b, emp (at_ i) j = b := ⟨_, rfl⟩
                have HBI := Lib.hid hb
                rw [hb] at HC
                have q3 : IntKind.i64.wrap ((i : Int) + 1) = ((i + 1 : Nat) : Int) := wrap_succ hlt (by omega)
                clear hb hrd hn9
                have qs := QS.out
                cases b with
                | true =>
                  obtain rfl : ba = true := HBA.out.symm.trans (anyN_yes hlt HBI.out)
                  go_wp2_with (refine wpList_load_mid rfl 35 (.tmp 51) rfl gx (ox + 1) rfl (at_ i).cells _ HR.out Try.underlying35 rfl (by rw [info_T, H2.out.1]) ?_)
                  refine HC.out.mono ?_
                  rintro e w9 ⟨rfl, hb⟩
                  have HB9 := Lib.hid (HB3.out.trans (hb.mono hsz))
                  clear hb
                  go_wp2_with fail
                  go_ret
                  exact ⟨rfl, by first | exact HB9.out | (rw [← HG.out]; exact HB9.out)⟩
                | false =>
                  have HNX := Lib.hid (relIx_next HA.out HBI.out)
                  go_wp2_with (refine wpList_load_mid rfl 35 (.tmp 51) rfl gx (ox + 1) rfl (at_ i).cells _ HR.out Try.underlying35 rfl (by rw [info_T, H2.out.1]) ?_)
                  refine HC.out.mono ?_
                  rintro e w9 ⟨rfl, hb⟩
                  have HX9 := Lib.hid (HX3.out.below hb HX3.out.lt)
                  have HB9 := Lib.hid (HB3.out.trans (hb.mono hsz))
                  clear hb
                  go_wp2_with fail
                  go_roundw
                  case rel => exact ⟨i + 1, hlt, rfl, HNX.out, HX9.out, HB9.out⟩
                  case measure => simp only [Lib.intOf]; omega
              · have q1 : decide ((i : Int) < (ad.n : Int)) = false := decide_eq_false (by omega)
                have q1n : decide (i < ad.n) = false := decide_eq_false hlt
                obtain rfl : ba = false := HBA.out.symm.trans (anyN_no (fun k hk => HA.out k (by omega)))
                clear hi HA hsz hn9
                try simp only [Bool.false_or]
                rename World => wb
                go_wp2_with fail
                go_loopw [9] (fun iv wr => RelCk w en g t.cells.toArray (fun i => emp (et i) j) iv wr) (fun iv _ => en - (Lib.intOf iv).toNat)
                case atStart => exact ⟨0, Nat.zero_le _, rfl, fun k hk => absurd hk (Nat.not_lt_zero _), HX3.out, HB3.out⟩
                case round =>
                  obtain ⟨i, hi, rfl, hall, hbx, hbel⟩ := hrel
                  have HB4 := Lib.hid hbel
                  have HX4 := Lib.hid hbx
                  have HA := Lib.hid hall
                  have cc := HCL.out
                  have c14 := hbx.cell 14 (v := .slice ea en ecap) (by simpa using cc.2.2)
                  have hsz := hbel.size
                  have hn9 := HN.out
                  clear hbel hbx hall cc
                  by_cases hlt : i < en
                  · have q1 : decide ((i : Int) < (en : Int)) = true := decide_eq_true (by omega)
                    have q1n : decide (i < en) = true := decide_eq_true hlt
                    have y1 : (i : Int) < (en : Int) := by omega
                    obtain ⟨gx, ox, hix, hgx, hrd⟩ := tRow_read (HRP.out wr HB4.out).2.2.2.2.1 hlt
                    have HR := Lib.hid (hrd wr rfl)
                    have H2 := Lib.hid (one_tcells ((HRP.out wr HB4.out).2.2.2.2.2 i hlt))
                    have HC := Lib.hid (RE.out i hlt wr HB4.out)
                    obtain ⟨b, hb⟩ : ∃ b, emp (et i) j = b := ⟨_, rfl⟩
                    have HBI := Lib.hid hb
                    rw [hb] at HC
                    have q3 : IntKind.i64.wrap ((i : Int) + 1) = ((i + 1 : Nat) : Int) := wrap_succ hlt (by omega)
                    clear hb hrd hn9
                    have qs := QS.out
                    cases b with
                    | true =>
                      obtain rfl : be = true := HBE.out.symm.trans (anyN_yes hlt HBI.out)
                      go_wp2_with (refine wpList_load_mid rfl 35 (.tmp 67) rfl gx ox rfl (et i).cells _ HR.out Try.underlying35 rfl (by rw [info_T, H2.out.1]) ?_)
                      refine HC.out.mono ?_
                      rintro e w9 ⟨rfl, hb⟩
                      have HB9 := Lib.hid (HB4.out.trans (hb.mono hsz))
                      clear hb
                      go_wp2_with fail
                      go_ret
                      exact ⟨rfl, by first | exact HB9.out | (rw [← HG.out]; exact HB9.out)⟩
                    | false =>
                      have HNX := Lib.hid (relIx_next HA.out HBI.out)
                      go_wp2_with (refine wpList_load_mid rfl 35 (.tmp 67) rfl gx ox rfl (et i).cells _ HR.out Try.underlying35 rfl (by rw [info_T, H2.out.1]) ?_)
                      refine HC.out.mono ?_
                      rintro e w9 ⟨rfl, hb⟩
                      have HX9 := Lib.hid (HX4.out.below hb HX4.out.lt)
                      have HB9 := Lib.hid (HB4.out.trans (hb.mono hsz))
                      clear hb
                      go_wp2_with fail
                      go_roundw
                      case rel => exact ⟨i + 1, hlt, rfl, HNX.out, HX9.out, HB9.out⟩
                      case measure => simp only [Lib.intOf]; omega
                  · have q1 : decide ((i : Int) < (en : Int)) = false := decide_eq_false (by omega)
                    have q1n : decide (i < en) = false := decide_eq_false hlt
                    obtain rfl : be = false := HBE.out.symm.trans (anyN_no (fun k hk => HA.out k (by omega)))
                    clear hi HA hsz hn9
                    go_wp2_with fail
                    go_ret
                    exact ⟨rfl, by first | exact HB4.out | (rw [← HG.out]; exact HB4.out)⟩
    | false =>
      obtain rfl : bo = false := HBO2.out.symm.trans rfl
      simp only [Bool.false_or]
      go_wp2_with fail
      go_loopw [7] (fun iv wr => RelCk w pa.n g t.cells.toArray (fun i => emp (pt i) j) iv wr) (fun iv _ => pa.n - (Lib.intOf iv).toNat)
      case atStart => exact ⟨0, Nat.zero_le _, rfl, fun k hk => absurd hk (Nat.not_lt_zero _), HX1.out, HB1.out⟩
      case round =>
        obtain ⟨i, hi, rfl, hall, hbx, hbel⟩ := hrel
        have HB2 := Lib.hid hbel
        have HX2 := Lib.hid hbx
        have HA := Lib.hid hall
        have cc := HCL.out
        have c12 := hbx.cell 12 (v := .slice pa.a pa.n pa.cap) (by simpa using cc.1)
        have hsz := hbel.size
        have hn9 := HN.out
        clear hbel hbx hall cc
        by_cases hlt : i < pa.n
        · have q1 : decide ((i : Int) < (pa.n : Int)) = true := decide_eq_true (by omega)
          have q1n : decide (i < pa.n) = true := decide_eq_true hlt
          have y1 : (i : Int) < (pa.n : Int) := by omega
          obtain ⟨gx, ox, hix, hgx, hrd⟩ := pRow_read (HRP.out wr HB2.out).1 hlt
          have HR := Lib.hid (rangeP_at (hrd wr rfl))
          have H2 := Lib.hid (one_tcells ((HRP.out wr HB2.out).2.1 i hlt))
          have HC := Lib.hid (RP.out i hlt wr HB2.out)
          obtain ⟨b, hb⟩ : ∃ b, emp (pt i) j = b := ⟨_, rfl⟩
          have HBI := Lib.hid hb
          rw [hb] at HC
          have q3 : IntKind.i64.wrap ((i : Int) + 1) = ((i + 1 : Nat) : Int) := wrap_succ hlt (by omega)
          clear hb hrd hn9
          have qs := QS.out
          cases b with
          | true =>
            obtain rfl : bp = true := HBP.out.symm.trans (anyN_yes hlt HBI.out)
            go_wp2_with (refine wpList_load_mid rfl 35 (.tmp 34) rfl gx (ox + 1) rfl (pt i).cells _ HR.out Try.underlying35 rfl (by rw [info_T, H2.out.1]) ?_)
            refine HC.out.mono ?_
            rintro e w9 ⟨rfl, hb⟩
            have HB9 := Lib.hid (HB2.out.trans (hb.mono hsz))
            clear hb
            go_wp2_with fail
            go_ret
            exact ⟨rfl, by first | exact HB9.out | (rw [← HG.out]; exact HB9.out)⟩
          | false =>
            have HNX := Lib.hid (relIx_next HA.out HBI.out)
            go_wp2_with (refine wpList_load_mid rfl 35 (.tmp 34) rfl gx (ox + 1) rfl (pt i).cells _ HR.out Try.underlying35 rfl (by rw [info_T, H2.out.1]) ?_)
            refine HC.out.mono ?_
            rintro e w9 ⟨rfl, hb⟩
            have HX9 := Lib.hid (HX2.out.below hb HX2.out.lt)
            have HB9 := Lib.hid (HB2.out.trans (hb.mono hsz))
            clear hb
            go_wp2_with fail
            go_roundw
            case rel => exact ⟨i + 1, hlt, rfl, HNX.out, HX9.out, HB9.out⟩
            case measure => simp only [Lib.intOf]; omega
        · have q1 : decide ((i : Int) < (pa.n : Int)) = false := decide_eq_false (by omega)
          have q1n : decide (i < pa.n) = false := decide_eq_false hlt
          obtain rfl : bp = false := HBP.out.symm.trans (anyN_no (fun k hk => HA.out k (by omega)))
          clear hi HA hsz hn9
          try simp only [Bool.false_or]
          rename World => wa
          go_wp2_with fail
          go_loopw [8] (fun iv wr => RelCk w ad.n g t.cells.toArray (fun i => emp (at_ i) j) iv wr) (fun iv _ => ad.n - (Lib.intOf iv).toNat)
          case atStart => exact ⟨0, Nat.zero_le _, rfl, fun k hk => absurd hk (Nat.not_lt_zero _), HX2.out, HB2.out⟩
          case round =>
            obtain ⟨i, hi, rfl, hall, hbx, hbel⟩ := hrel
            have HB3 := Lib.hid hbel
            have HX3 := Lib.hid hbx
            have HA := Lib.hid hall
            have cc := HCL.out
            have c13 := hbx.cell 13 (v := .slice ad.a ad.n ad.cap) (by simpa using cc.2.1)
            have hsz := hbel.size
            have hn9 := HN.out
            clear hbel hbx hall cc
            by_cases hlt : i < ad.n
            · have q1 : decide ((i : Int) < (ad.n : Int)) = true := decide_eq_true (by omega)
              have q1n : decide (i < ad.n) = true := decide_eq_true hlt
              have y1 : (i : Int) < (ad.n : Int) := by omega
              obtain ⟨gx, ox, hix, hgx, hrd⟩ := pRow_read (HRP.out wr HB3.out).2.2.1 hlt
              have HR := Lib.hid (rangeP_at (hrd wr rfl))
              have H2 := Lib.hid (one_tcells ((HRP.out wr HB3.out).2.2.2.1 i hlt))
              have HC := Lib.hid (RA.out i hlt wr HB3.out)
              obtain ⟨b, hb⟩ : ∃ b, emp (at_ i) j = b := ⟨_, rfl⟩
              have HBI := Lib.hid hb
              rw [hb] at HC
              have q3 : IntKind.i64.wrap ((i : Int) + 1) = ((i + 1 : Nat) : Int) := wrap_succ hlt (by omega)
              clear hb hrd hn9
              have qs := QS.out
              cases b with
              | true =>
                obtain rfl : ba = true := HBA.out.symm.trans (anyN_yes hlt HBI.out)
                go_wp2_with (refine wpList_load_mid rfl 35 (.tmp 51) rfl gx (ox + 1) rfl (at_ i).cells _ HR.out Try.underlying35 rfl (by rw [info_T, H2.out.1]) ?_)
                refine HC.out.mono ?_
                rintro e w9 ⟨rfl, hb⟩
                have HB9 := Lib.hid (HB3.out.trans (hb.mono hsz))
                clear hb
                go_wp2_with fail
                go_ret
                exact ⟨rfl, by first | exact HB9.out | (rw [← HG.out]; exact HB9.out)⟩
              | false =>
                have HNX := Lib.hid (relIx_next HA.out HBI.out)
                go_wp2_with (refine wpList_load_mid rfl 35 (.tmp 51) rfl gx (ox + 1) rfl (at_ i).cells _ HR.out Try.underlying35 rfl (by rw [info_T, H2.out.1]) ?_)
                refine HC.out.mono ?_
                rintro e w9 ⟨rfl, hb⟩
                have HX9 := Lib.hid (HX3.out.below hb HX3.out.lt)
                have HB9 := Lib.hid (HB3.out.trans (hb.mono hsz))
                clear hb
                go_wp2_with fail
                go_roundw
                case rel => exact ⟨i + 1, hlt, rfl, HNX.out, HX9.out, HB9.out⟩
                case measure => simp only [Lib.intOf]; omega
            · have q1 : decide ((i : Int) < (ad.n : Int)) = false := decide_eq_false (by omega)
              have q1n : decide (i < ad.n) = false := decide_eq_false hlt
              obtain rfl : ba = false := HBA.out.symm.trans (anyN_no (fun k hk => HA.out k (by omega)))
              clear hi HA hsz hn9
              try simp only [Bool.false_or]
              rename World => wb
              go_wp2_with fail
              go_loopw [9] (fun iv wr => RelCk w en g t.cells.toArray (fun i => emp (et i) j) iv wr) (fun iv _ => en - (Lib.intOf iv).toNat)
              case atStart => exact ⟨0, Nat.zero_le _, rfl, fun k hk => absurd hk (Nat.not_lt_zero _), HX3.out, HB3.out⟩
              case round =>
                obtain ⟨i, hi, rfl, hall, hbx, hbel⟩ := hrel
                have HB4 := Lib.hid hbel
                have HX4 := Lib.hid hbx
                have HA := Lib.hid hall
                have cc := HCL.out
                have c14 := hbx.cell 14 (v := .slice ea en ecap) (by simpa using cc.2.2)
                have hsz := hbel.size
                have hn9 := HN.out
                clear hbel hbx hall cc
                by_cases hlt : i < en
                · have q1 : decide ((i : Int) < (en : Int)) = true := decide_eq_true (by omega)
                  have q1n : decide (i < en) = true := decide_eq_true hlt
                  have y1 : (i : Int) < (en : Int) := by omega
                  obtain ⟨gx, ox, hix, hgx, hrd⟩ := tRow_read (HRP.out wr HB4.out).2.2.2.2.1 hlt
                  have HR := Lib.hid (hrd wr rfl)
                  have H2 := Lib.hid (one_tcells ((HRP.out wr HB4.out).2.2.2.2.2 i hlt))
                  have HC := Lib.hid (RE.out i hlt wr HB4.out)
                  obtain ⟨b, hb⟩ : ∃ b, emp (et i) j = b := ⟨_, rfl⟩
                  have HBI := Lib.hid hb
                  rw [hb] at HC
                  have q3 : IntKind.i64.wrap ((i : Int) + 1) = ((i + 1 : Nat) : Int) := wrap_succ hlt (by omega)
                  clear hb hrd hn9
                  have qs := QS.out
                  cases b with
                  | true =>
                    obtain rfl : be = true := HBE.out.symm.trans (anyN_yes hlt HBI.out)
                    go_wp2_with (refine wpList_load_mid rfl 35 (.tmp 67) rfl gx ox rfl (et i).cells _ HR.out Try.underlying35 rfl (by rw [info_T, H2.out.1]) ?_)
                    refine HC.out.mono ?_
                    rintro e w9 ⟨rfl, hb⟩
                    have HB9 := Lib.hid (HB4.out.trans (hb.mono hsz))
                    clear hb
                    go_wp2_with fail
                    go_ret
                    exact ⟨rfl, by first | exact HB9.out | (rw [← HG.out]; exact HB9.out)⟩
                  | false =>
                    have HNX := Lib.hid (relIx_next HA.out HBI.out)
                    go_wp2_with (refine wpList_load_mid rfl 35 (.tmp 67) rfl gx ox rfl (et i).cells _ HR.out Try.underlying35 rfl (by rw [info_T, H2.out.1]) ?_)
                    refine HC.out.mono ?_
                    rintro e w9 ⟨rfl, hb⟩
                    have HX9 := Lib.hid (HX4.out.below hb HX4.out.lt)
                    have HB9 := Lib.hid (HB4.out.trans (hb.mono hsz))
                    clear hb
                    go_wp2_with fail
                    go_roundw
                    case rel => exact ⟨i + 1, hlt, rfl, HNX.out, HX9.out, HB9.out⟩
                    case measure => simp only [Lib.intOf]; omega
                · have q1 : decide ((i : Int) < (en : Int)) = false := decide_eq_false (by omega)
                  have q1n : decide (i < en) = false := decide_eq_false hlt
                  obtain rfl : be = false := HBE.out.symm.trans (anyN_no (fun k hk => HA.out k (by omega)))
                  clear hi HA hsz hn9
                  go_wp2_with fail
                  go_ret
                  exact ⟨rfl, by first | exact HB4.out | (rw [← HG.out]; exact HB4.out)⟩
set_option maxHeartbeats 4000000 in
theorem rCheck_ok (t : TT) (B : Nat) (w : World) (ht : TIn B w t) (hB : B ≤ w.heap.size) (hsm : t.small) :
    Calls Try.prog 19 #[.agg t.cells.toArray] w fun e w' => e = .returned (.int .i64 (if emp t 40 then 10 else 0)) ∧ Below w.heap.size w w' := by
  have H1 := Lib.hid (one_tcells ht)
  have HX := Lib.hid (Bx.new w t.cells.toArray 35)
  have HB0 := Lib.hid ((Below.refl w.heap.size w).alloc (Nat.le_refl _) (.cells t.cells.toArray 35))
  have hc := rcheck_ok t 1 w.heap.size _ ((ht.below (Below.refl _ _) hB).below HB0.out (Nat.le_refl _)) HB0.out.size (by omega) (by omega) hsm
  rw [show ((1 : Nat) : Int) = 1 from rfl, show 41 - 1 = 40 from rfl] at hc
  have HC := Lib.hid hc
  obtain ⟨b, hb⟩ : ∃ b, emp t 40 = b := ⟨_, rfl⟩
  rw [hb] at HC ⊢
  clear ht hB hsm hc hb
  cases b with
  | true =>
    go_enter Try.func19, Try.ntmps19
    go_wp2_with (refine wpList_load_mid rfl 35 (.tmp 1) rfl w.heap.size 0 rfl t.cells _ HX.out.range Try.underlying35 rfl (by rw [info_T, H1.out.1]) ?_)
    refine HC.out.mono ?_
    rintro e w1 ⟨rfl, hb⟩
    have HB1 := Lib.hid (HB0.out.trans (hb.mono HB0.out.size))
    clear hb
    go_wp2_with fail
    go_ret
    exact ⟨rfl, HB1.out⟩
  | false =>
    go_enter Try.func19, Try.ntmps19
    go_wp2_with (refine wpList_load_mid rfl 35 (.tmp 1) rfl w.heap.size 0 rfl t.cells _ HX.out.range Try.underlying35 rfl (by rw [info_T, H1.out.1]) ?_)
    refine HC.out.mono ?_
    rintro e w1 ⟨rfl, hb⟩
    have HB1 := Lib.hid (HB0.out.trans (hb.mono HB0.out.size))
    clear hb
    go_wp2_with fail
    go_ret
    exact ⟨rfl, HB1.out⟩
end Go.Proofs.Ytfnpjdglfaaegaa
