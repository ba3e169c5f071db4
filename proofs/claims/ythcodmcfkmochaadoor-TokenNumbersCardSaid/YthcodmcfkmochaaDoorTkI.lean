/-
  Package token: where an integer ends.
-/
import Derived.Test.YthcodmcfkmochaaDoorTkS
import Derived.Deep.Cut
namespace Go.Proofs.YthcodmcfkmochaaDoor
open Go.RowKit
set_option linter.unusedVariables false
set_option linter.unusedSimpArgs false
set_option maxRecDepth 100000

/-- the library's error for numbers that are too great is an error in w -/
def ErAt (w : World) : Prop := ∃ tp p, w.cell? ⟨2, 0, none⟩ = some (.iface tp p)
theorem ErAt.below {w w' : World} (h : ErAt w) (hb : Below w.heap.size w w') : ErAt w' := by
  obtain ⟨tp, p, h⟩ := h
  exact ⟨tp, p, (World.cell?_of_block (w := w) (a := ⟨2, 0, none⟩) (hb.block 2 (World.block_lt_of_cell? w _ h))).trans h⟩
theorem atoi_yes (D : ByteArray) (v : Int) (hs : D.size ≤ 1000000) (h : Lib.atoiAll D.data.toList = .ok v) (w : World) : Calls Tryd.prog 33 #[.string D] w fun e w' => e = .returned (.tuple #[.int .i64 v, .nilIface]) ∧ Below w.heap.size w w' := by
  refine (Tryd.strconv_Atoi_ok D (by omega) v h w).mono ?_
  rintro e w' ⟨rfl, rfl | ⟨t, rfl⟩⟩
  · exact ⟨rfl, Below.refl _ _⟩
  · exact ⟨rfl, Lib.bytesWorld_below _ _ _⟩
theorem atoi_no (D : ByteArray) (hs : D.size ≤ 1000000) (h : Lib.atoiAll D.data.toList = .range) (w : World) (her : ErAt w) : Calls Tryd.prog 33 #[.string D] w fun e w' => ∃ (n : Int) (t N : Nat), e = .returned (.tuple #[.int .i64 n, .iface t (.pointer (some ⟨N, 0, none⟩))]) ∧ Below w.heap.size w w' := by
  obtain ⟨tp, p, hc⟩ := her
  refine (Tryd.strconv_Atoi_range D (by omega) h (.iface tp p) w hc (.inr ⟨tp, p, rfl⟩)).mono ?_
  rintro e w' ⟨N, rfl, _, _, hb⟩
  exact ⟨_, _, _, rfl, hb⟩
theorem sub_head (s : ByteArray) (i j : Nat) (h : i < j) (hj : j ≤ s.size) : ∃ h0 : 0 < (s.extract i j).size, ((s.extract i j)[0]'h0).toNat = tAt (cods s) i := by
  have hsz : (s.extract i j).size = j - i := by rw [ByteArray.size_extract]; omega
  refine ⟨by omega, ?_⟩
  rw [cods_at]
  have h1 := cods_sub s i j
  unfold sub at h1
  rw [h1, cut_at (by omega), Nat.add_zero]
def RelD (W : World) (l : List Nat) (E f : Nat) (ev : Value) (wr : World) : Prop := ∃ j n : Nat, ev = .int .i64 j ∧ f ≤ j ∧ j ≤ l.length ∧ dGo l n j = E ∧ l.length + 1 ≤ n + j ∧ Below W.heap.size W wr
set_option maxHeartbeats 8000000 in
theorem integerEnd_ok (s : ByteArray) (p : Nat) (w : World) (her : ErAt w) (hp : p < s.size) (hs : s.size ≤ 100000) (hdg : isDg (tAt (cods s) p) = true ∨ (tAt (cods s) p = 45 ∧ isDg (tAt (cods s) (p + 1)) = true)) :
    Calls Tryd.prog 30 #[.agg #[.string s, .int .i64 (p : Nat)]] w fun e w' => e = .returned (.int .i64 (iEnd (cods s) p : Nat)) ∧ Below w.heap.size w w' := by
  obtain ⟨hb0, hk⟩ := scbox w s p
  have HB0 := Lib.hid hb0
  have HK := Lib.hid hk
  have HER := Lib.hid (her.below hb0)
  have HAT := Lib.hid (fun z i h x hx w => tat_int s z i h x hx w)
  have hlen := cods_length s
  obtain ⟨f1, f2, f3, f4, f5⟩ := iFst_le hdg
  rw [hlen] at f3 f5
  have HATOI := Lib.hid (atoi_digits s p hdg)
  have HHD := Lib.hid (sub_head s _ _ f4 f5)
  have HSZ := Lib.hid (show (s.extract (iFst (cods s) p) (dEnd (cods s) (iFst (cods s) p))).size = dEnd (cods s) (iFst (cods s) p) - iFst (cods s) p by rw [ByteArray.size_extract]; omega)
  have HI := Lib.hid (show (iBad (cods s) p → p = iEnd (cods s) p) ∧ (¬ iBad (cods s) p → iVal (cods s) p < 9223372036854775808 → dEnd (cods s) (iFst (cods s) p) = iEnd (cods s) p) ∧ (¬ iBad (cods s) p → ¬ iVal (cods s) p < 9223372036854775808 → p = iEnd (cods s) p) from ⟨fun h => (if_pos h).symm, fun h h2 => ((if_neg h).trans (if_pos h2)).symm, fun h h2 => ((if_neg h).trans (if_neg h2)).symm⟩)
  have HF := Lib.hid (show iFst (cods s) p = if tAt (cods s) p = 45 then p + 1 else p from rfl)
  have HBAD := Lib.hid (show iBad (cods s) p ↔ ((tAt (cods s) (iFst (cods s) p) = 48 ∧ (tAt (cods s) p = 45 ∨ 1 < dEnd (cods s) (iFst (cods s) p) - iFst (cods s) p)) ∨ isLt (tAt (cods s) (dEnd (cods s) (iFst (cods s) p))) = true) from Iff.rfl)
  have HG0 := Lib.hid (show dGo (cods s) (s.size + 1) (iFst (cods s) p) = dEnd (cods s) (iFst (cods s) p) by unfold dEnd; rw [hlen])
  have hnd : ¬ isDg (tAt (cods s) (dEnd (cods s) (iFst (cods s) p))) = true := dEnd_stop _ _ (by rw [hlen]; omega)
  have HND := Lib.hid hnd
  unfold sub at HATOI
  generalize iEnd (cods s) p = R at *
  generalize iVal (cods s) p = V at *
  have HL := Lib.hid hlen
  obtain ⟨E, hE⟩ : ∃ E, dEnd (cods s) (iFst (cods s) p) = E := ⟨_, rfl⟩
  obtain ⟨f, hf⟩ : ∃ f, iFst (cods s) p = f := ⟨_, rfl⟩
  rw [hf] at hE f1 f2 f3 f4 f5 HATOI HHD HSZ HI HF HBAD HG0 HND
  rw [hE] at f4 f5 HATOI HHD HSZ HI HBAD HG0 HND
  generalize iBad (cods s) p = BAD at *
  obtain ⟨x, hx⟩ : ∃ x, tAt (cods s) p = x := ⟨_, rfl⟩
  obtain ⟨y, hy⟩ : ∃ y, tAt (cods s) E = y := ⟨_, rfl⟩
  obtain ⟨z, hz⟩ : ∃ z, tAt (cods s) f = z := ⟨_, rfl⟩
  rw [hx, hy, hz] at HBAD
  rw [hx] at HF
  rw [hz] at HHD
  have HA0 := Lib.hid (fun w => HAT.out (p : Int) p rfl x hx w)
  have HAE := Lib.hid (fun w => HAT.out (E : Int) E rfl y hy w)
  have HDy := Lib.hid (fun w => tdg_ok y w)
  have HLy := Lib.hid (fun w => tlt_ok y w)
  rw [hy] at HND
  have hndy : isDg y = false := by simpa using HND.out
  rw [hndy] at HDy
  have HATj := Lib.hid (fun (j : Nat) w => HAT.out (j : Int) j rfl _ rfl w)
  have HDj := Lib.hid (fun (j : Nat) (h : isDg (tAt (cods s) j) = true) w => (show Calls Tryd.prog 29 #[.int .u8 (tAt (cods s) j : Nat)] w fun e w' => e = .returned (.bool true) ∧ w = w' from h ▸ tdg_ok (tAt (cods s) j) w))
  generalize cods s = l at *
  clear hb0 hk hlen hdg hE hf hx hy hz hnd HND hndy her HAT
  by_cases hx : x = 45
  · have hfp : f = p + 1 := HF.out.trans (if_pos hx)
    have qx : ((x : Int) == 45) = true := by rw [hx]; rfl
    have HX45 := Lib.hid hx
    have hfi : (p : Int) + 1 = (f : Int) := by omega
    clear hx HF hfp
    go_enter Tryd.func30, Tryd.ntmps30
    go_wp2_with fail
    generalize w.alloc (.cells #[.string s, .int .i64 (p : Nat)] 38) = W at *
    refine (HA0.out _).mono ?_
    rintro e w5 ⟨rfl, rfl⟩
    go_wp2_with fail
    go_loopw [5] (fun ev wr => RelD W l E f ev wr) (fun ev _ => s.size + 1 - (intOf ev).toNat)
    case atStart => exact ⟨f, s.size + 1, rfl, Nat.le_refl _, by rw [HL.out]; omega, HG0.out, by rw [HL.out]; omega, Below.refl _ _⟩
    case round =>
      clear HG0
      obtain ⟨j, n, rfl, hfj, hj, hgo, hn, hb⟩ := hrel
      rw [HL.out] at hj hn
      obtain ⟨m, rfl⟩ : ∃ m, n = m + 1 := ⟨n - 1, by omega⟩
      have HGO := Lib.hid hgo
      have HB := Lib.hid hb
      obtain ⟨k0, k1⟩ := HK.out wr hb
      clear hgo hb
      by_cases hdj : isDg (tAt l j) = true
      · have h1 := isDg_in hdj
        rw [HL.out] at h1
        have HN := Lib.hid ((dGo_step hdj).symm.trans HGO.out)
        have HDD := Lib.hid (fun w => HDj.out j hdj w)
        have HAj := Lib.hid (fun w => HATj.out j w)
        generalize tAt l j = u at *
        clear hdj
        go_wp2_with fail
        refine (HAj.out _).mono ?_
        rintro e w5 ⟨rfl, rfl⟩
        go_wp2_with fail
        refine (HDD.out _).mono ?_
        rintro e w5 ⟨rfl, rfl⟩
        go_wp2_with fail
        go_roundw
        case rel => exact ⟨j + 1, m, by go_num, by omega, by rw [HL.out]; exact h1, HN.out, by rw [HL.out]; omega, HB.out⟩
        case measure => simp [intOf]; omega
      · obtain rfl : j = E := (dGo_end hdj).symm.trans HGO.out
        clear hdj HGO HDj HATj
        have e1 : (f : Int) ≤ (j : Int) := by omega
        have e2 : (j : Int) ≤ (s.size : Int) := by omega
        have e3 : (0 : Int) ≤ (f : Int) := by omega
        have e4 : (0 : Int) ≤ (j : Int) := by omega
        go_wp2_with fail
        refine (HAE.out _).mono ?_
        rintro e w5 ⟨rfl, rfl⟩
        go_wp2_with fail
        refine (HDy.out _).mono ?_
        rintro e w5 ⟨rfl, rfl⟩
        go_upto_region 9 with fail
        obtain ⟨hd0, hd1⟩ := HHD.out
        have hdsz := HSZ.out
        have HA := Lib.hid HATOI.out
        clear HATOI HHD HSZ
        generalize s.extract f j = D at *
        have HDS := Lib.hid hdsz
        have d1 : (0 : Int) < (D.size : Int) := by omega
        have d2 : D.size ≤ 1000000 := by omega
        have hlenD : (D.size : Int) = ((j - f : Nat) : Int) := by omega
        have HLD := Lib.hid hlenD
        clear hdsz hlenD
        by_cases hz : z = 48
        · have q2 : ((z : Int) == 48) = true := by rw [hz]; rfl
          have hb : BAD := by rw [HBAD.out]; exact .inl ⟨hz, .inl HX45.out⟩
          clear hz
          have HE := Lib.hid (show p = R from HI.out.1 hb)
          clear hb
          go_wp2_with fail
          go_ret
          rw [← HE.out]
          exact ⟨rfl, HB0.out.trans (HB.out.mono HB0.out.size)⟩
        · have q2 : ((z : Int) == 48) = false := beq_false_of_ne (by omega)
          have q3 : decide (z = 48) = false := decide_eq_false hz
          cases hly : isLt y with
          | true =>
            rw [hly] at HLy
            have hb : BAD := by rw [HBAD.out]; exact .inr hly
            clear hly hz
            have HE := Lib.hid (show p = R from HI.out.1 hb)
            clear hb
            go_wp2_with fail
            refine (HAE.out _).mono ?_
            rintro e w5 ⟨rfl, rfl⟩
            go_wp2_with fail
            refine (HLy.out _).mono ?_
            rintro e w5 ⟨rfl, rfl⟩
            go_wp2_with fail
            go_ret
            rw [← HE.out]
            exact ⟨rfl, HB0.out.trans (HB.out.mono HB0.out.size)⟩
          | false =>
            rw [hly] at HLy
            have hnb : ¬ BAD := by rw [HBAD.out, hly]; rintro (h | h); exact (hz h.1); cases h
            clear hly hz
            have HNB := Lib.hid hnb
            clear hnb
            by_cases hv : V < 9223372036854775808
            · have HY := Lib.hid (fun w => atoi_yes D _ d2 (by rw [HA.out, if_pos hv]) w)
              have HE := Lib.hid (show j = R from HI.out.2.1 HNB.out hv)
              clear hv
              go_wp2_with fail
              refine (HAE.out _).mono ?_
              rintro e w5 ⟨rfl, rfl⟩
              go_wp2_with fail
              refine (HLy.out _).mono ?_
              rintro e w5 ⟨rfl, rfl⟩
              go_wp2_with fail
              refine (HY.out _).mono ?_
              rintro e w5 ⟨rfl, hb5⟩
              have HB5 := Lib.hid (HB.out.trans (hb5.mono HB.out.size))
              clear hb5
              go_wp2_with fail
              go_ret
              rw [← HE.out]
              exact ⟨rfl, HB0.out.trans (HB5.out.mono HB0.out.size)⟩
            · have HE := Lib.hid (show p = R from HI.out.2.2 HNB.out hv)
              have HY := Lib.hid (fun w h => atoi_no D d2 (by rw [HA.out, if_neg hv]) w h)
              clear hv
              go_wp2_with fail
              refine (HAE.out _).mono ?_
              rintro e w5 ⟨rfl, rfl⟩
              go_wp2_with fail
              refine (HLy.out _).mono ?_
              rintro e w5 ⟨rfl, rfl⟩
              go_wp2_with fail
              refine (HY.out _ (HER.out.below HB.out)).mono ?_
              rintro e w5 ⟨n5, t5, N5, rfl, hb5⟩
              have HB5 := Lib.hid (HB.out.trans (hb5.mono HB.out.size))
              clear hb5
              obtain ⟨k0, k1⟩ := HK.out w5 HB5.out
              go_wp2_with fail
              go_ret
              rw [← HE.out]
              exact ⟨rfl, HB0.out.trans (HB5.out.mono HB0.out.size)⟩
  · obtain rfl : p = f := (HF.out.trans (if_neg hx)).symm
    have qx : ((x : Int) == 45) = false := beq_false_of_ne (by omega)
    have qxn : decide (x = 45) = false := decide_eq_false hx
    have HX45 := Lib.hid hx
    clear hx HF
    go_enter Tryd.func30, Tryd.ntmps30
    go_wp2_with fail
    generalize w.alloc (.cells #[.string s, .int .i64 (p : Nat)] 38) = W at *
    refine (HA0.out _).mono ?_
    rintro e w5 ⟨rfl, rfl⟩
    go_wp2_with fail
    go_loopw [5] (fun ev wr => RelD W l E p ev wr) (fun ev _ => s.size + 1 - (intOf ev).toNat)
    case atStart => exact ⟨p, s.size + 1, rfl, Nat.le_refl _, by rw [HL.out]; omega, HG0.out, by rw [HL.out]; omega, Below.refl _ _⟩
    case round =>
      clear HG0
      obtain ⟨j, n, rfl, hfj, hj, hgo, hn, hb⟩ := hrel
      rw [HL.out] at hj hn
      obtain ⟨m, rfl⟩ : ∃ m, n = m + 1 := ⟨n - 1, by omega⟩
      have HGO := Lib.hid hgo
      have HB := Lib.hid hb
      obtain ⟨k0, k1⟩ := HK.out wr hb
      clear hgo hb
      by_cases hdj : isDg (tAt l j) = true
      · have h1 := isDg_in hdj
        rw [HL.out] at h1
        have HN := Lib.hid ((dGo_step hdj).symm.trans HGO.out)
        have HDD := Lib.hid (fun w => HDj.out j hdj w)
        have HAj := Lib.hid (fun w => HATj.out j w)
        generalize tAt l j = u at *
        clear hdj
        go_wp2_with fail
        refine (HAj.out _).mono ?_
        rintro e w5 ⟨rfl, rfl⟩
        go_wp2_with fail
        refine (HDD.out _).mono ?_
        rintro e w5 ⟨rfl, rfl⟩
        go_wp2_with fail
        go_roundw
        case rel => exact ⟨j + 1, m, by go_num, by omega, by rw [HL.out]; exact h1, HN.out, by rw [HL.out]; omega, HB.out⟩
        case measure => simp [intOf]; omega
      · obtain rfl : j = E := (dGo_end hdj).symm.trans HGO.out
        clear hdj HGO HDj HATj
        have e1 : (p : Int) ≤ (j : Int) := by omega
        have e2 : (j : Int) ≤ (s.size : Int) := by omega
        have e3 : (0 : Int) ≤ (p : Int) := by omega
        have e4 : (0 : Int) ≤ (j : Int) := by omega
        go_wp2_with fail
        refine (HAE.out _).mono ?_
        rintro e w5 ⟨rfl, rfl⟩
        go_wp2_with fail
        refine (HDy.out _).mono ?_
        rintro e w5 ⟨rfl, rfl⟩
        go_upto_region 9 with fail
        obtain ⟨hd0, hd1⟩ := HHD.out
        have hdsz := HSZ.out
        have HA := Lib.hid HATOI.out
        clear HATOI HHD HSZ
        generalize s.extract p j = D at *
        have HDS := Lib.hid hdsz
        have d1 : (0 : Int) < (D.size : Int) := by omega
        have d2 : D.size ≤ 1000000 := by omega
        have hlenD : (D.size : Int) = ((j - p : Nat) : Int) := by omega
        have HLD := Lib.hid hlenD
        clear hdsz hlenD
        by_cases hz : z = 48
        · have q2 : ((z : Int) == 48) = true := by rw [hz]; rfl
          by_cases h1 : 1 < j - p
          · have q3 : decide ((1 : Int) < (D.size : Int)) = true := decide_eq_true (by have := HLD.out; omega)
            have q3n : decide (1 < D.size) = true := decide_eq_true (by have := HDS.out; omega)
            have hb : BAD := by rw [HBAD.out]; exact .inl ⟨hz, .inr h1⟩
            clear hz h1
            have HE := Lib.hid (show p = R from HI.out.1 hb)
            clear hb
            go_wp2_with fail
            go_ret
            rw [← HE.out]
            exact ⟨rfl, HB0.out.trans (HB.out.mono HB0.out.size)⟩
          · have q3 : decide ((1 : Int) < (D.size : Int)) = false := decide_eq_false (by have := HLD.out; omega)
            have q3n : decide (1 < D.size) = false := decide_eq_false (by have := HDS.out; omega)
            cases hly : isLt y with
            | true =>
              rw [hly] at HLy
              have hb : BAD := by rw [HBAD.out]; exact .inr hly
              clear hly hz h1
              have HE := Lib.hid (show p = R from HI.out.1 hb)
              clear hb
              go_wp2_with fail
              refine (HAE.out _).mono ?_
              rintro e w5 ⟨rfl, rfl⟩
              go_wp2_with fail
              refine (HLy.out _).mono ?_
              rintro e w5 ⟨rfl, rfl⟩
              go_wp2_with fail
              go_ret
              rw [← HE.out]
              exact ⟨rfl, HB0.out.trans (HB.out.mono HB0.out.size)⟩
            | false =>
              rw [hly] at HLy
              have hnb : ¬ BAD := by rw [HBAD.out, hly]; rintro (h | h); exact (h.2.elim HX45.out h1); cases h
              clear hly hz h1
              have HNB := Lib.hid hnb
              clear hnb
              by_cases hv : V < 9223372036854775808
              · have HY := Lib.hid (fun w => atoi_yes D _ d2 (by rw [HA.out, if_pos hv]) w)
                have HE := Lib.hid (show j = R from HI.out.2.1 HNB.out hv)
                clear hv
                go_wp2_with fail
                refine (HAE.out _).mono ?_
                rintro e w5 ⟨rfl, rfl⟩
                go_wp2_with fail
                refine (HLy.out _).mono ?_
                rintro e w5 ⟨rfl, rfl⟩
                go_wp2_with fail
                refine (HY.out _).mono ?_
                rintro e w5 ⟨rfl, hb5⟩
                have HB5 := Lib.hid (HB.out.trans (hb5.mono HB.out.size))
                clear hb5
                go_wp2_with fail
                go_ret
                rw [← HE.out]
                exact ⟨rfl, HB0.out.trans (HB5.out.mono HB0.out.size)⟩
              · have HE := Lib.hid (show p = R from HI.out.2.2 HNB.out hv)
                have HY := Lib.hid (fun w h => atoi_no D d2 (by rw [HA.out, if_neg hv]) w h)
                clear hv
                go_wp2_with fail
                refine (HAE.out _).mono ?_
                rintro e w5 ⟨rfl, rfl⟩
                go_wp2_with fail
                refine (HLy.out _).mono ?_
                rintro e w5 ⟨rfl, rfl⟩
                go_wp2_with fail
                refine (HY.out _ (HER.out.below HB.out)).mono ?_
                rintro e w5 ⟨n5, t5, N5, rfl, hb5⟩
                have HB5 := Lib.hid (HB.out.trans (hb5.mono HB.out.size))
                clear hb5
                obtain ⟨k0, k1⟩ := HK.out w5 HB5.out
                go_wp2_with fail
                go_ret
                rw [← HE.out]
                exact ⟨rfl, HB0.out.trans (HB5.out.mono HB0.out.size)⟩
        · have q2 : ((z : Int) == 48) = false := beq_false_of_ne (by omega)
          have q3 : decide (z = 48) = false := decide_eq_false hz
          cases hly : isLt y with
          | true =>
            rw [hly] at HLy
            have hb : BAD := by rw [HBAD.out]; exact .inr hly
            clear hly hz
            have HE := Lib.hid (show p = R from HI.out.1 hb)
            clear hb
            go_wp2_with fail
            refine (HAE.out _).mono ?_
            rintro e w5 ⟨rfl, rfl⟩
            go_wp2_with fail
            refine (HLy.out _).mono ?_
            rintro e w5 ⟨rfl, rfl⟩
            go_wp2_with fail
            go_ret
            rw [← HE.out]
            exact ⟨rfl, HB0.out.trans (HB.out.mono HB0.out.size)⟩
          | false =>
            rw [hly] at HLy
            have hnb : ¬ BAD := by rw [HBAD.out, hly]; rintro (h | h); exact (hz h.1); cases h
            clear hly hz
            have HNB := Lib.hid hnb
            clear hnb
            by_cases hv : V < 9223372036854775808
            · have HY := Lib.hid (fun w => atoi_yes D _ d2 (by rw [HA.out, if_pos hv]) w)
              have HE := Lib.hid (show j = R from HI.out.2.1 HNB.out hv)
              clear hv
              go_wp2_with fail
              refine (HAE.out _).mono ?_
              rintro e w5 ⟨rfl, rfl⟩
              go_wp2_with fail
              refine (HLy.out _).mono ?_
              rintro e w5 ⟨rfl, rfl⟩
              go_wp2_with fail
              refine (HY.out _).mono ?_
              rintro e w5 ⟨rfl, hb5⟩
              have HB5 := Lib.hid (HB.out.trans (hb5.mono HB.out.size))
              clear hb5
              go_wp2_with fail
              go_ret
              rw [← HE.out]
              exact ⟨rfl, HB0.out.trans (HB5.out.mono HB0.out.size)⟩
            · have HE := Lib.hid (show p = R from HI.out.2.2 HNB.out hv)
              have HY := Lib.hid (fun w h => atoi_no D d2 (by rw [HA.out, if_neg hv]) w h)
              clear hv
              go_wp2_with fail
              refine (HAE.out _).mono ?_
              rintro e w5 ⟨rfl, rfl⟩
              go_wp2_with fail
              refine (HLy.out _).mono ?_
              rintro e w5 ⟨rfl, rfl⟩
              go_wp2_with fail
              refine (HY.out _ (HER.out.below HB.out)).mono ?_
              rintro e w5 ⟨n5, t5, N5, rfl, hb5⟩
              have HB5 := Lib.hid (HB.out.trans (hb5.mono HB.out.size))
              clear hb5
              obtain ⟨k0, k1⟩ := HK.out w5 HB5.out
              go_wp2_with fail
              go_ret
              rw [← HE.out]
              exact ⟨rfl, HB0.out.trans (HB5.out.mono HB0.out.size)⟩
end Go.Proofs.YthcodmcfkmochaaDoor
