/-
  A bundle of texts, one behind the other: SpQ, SpW, SpV.
-/
import Derived.Test.YtjhecpkdpomkmaaGreatQG
import Derived.Test.YtjhecpkdpomkmaaGreatQE
namespace Go.Proofs.YtjhecpkdpomkmaaGreat
open Go.RowKit Go.Shelf
set_option linter.unusedVariables false
set_option linter.unusedSimpArgs false
set_option maxRecDepth 100000

theorem isl_lit (w : World) : ISl (w.alloc (.cells #[.int .i64 (-9223372036854775808)] 3)) (.slice (some ⟨w.heap.size, 0, none⟩) 1 1) [-9223372036854775808] := by
  refine ⟨by intro x hx; simp at hx; subst hx; unfold I64; omega, w.heap.size, 0, 1, rfl, by simp, by simp, fun i hi => ?_⟩
  obtain rfl : i = 0 := by simpa using hi
  simp
def RelQ (w : World) (L : List Int) (sel : Int → Bool) (ov iv : Value) (wr : World) : Prop :=
  ∃ (i : Nat) (out : List Rg), i ≤ L.length ∧ iv = .int .i64 (i : Nat) ∧ OwnR w.heap.size wr ov out ∧ OInv L sel i out ∧ Below w.heap.size w wr
theorem ownsN {base : Nat} {w : World} {v : Value} {l : List Rg} {n : Nat} (e : l.length = n) (h : OwnR base w v l) : w.ownsRow base 66 2 v n (rcells l) := by subst e; exact h
theorem own_snocN {base : Nat} {w : World} {v : Value} {l : List Rg} {n : Nat} {x y : Int} (e : l.length = n) (h : w.ownsRow base 66 2 v (n + 1) (rcells l ++ [.int .i64 x, .int .i64 y])) : OwnR base w v (l ++ [(x, y)]) := by subst e; exact own_snoc h
theorem OInv.last_lt {L : List Int} {sel : Int → Bool} {i : Nat} {o : List Rg} {k : Rg} (h : OInv L sel i (o ++ [k])) : k.2 < nxt L i ∧ I64 k.2 := by
  have hbk := (h.bd k (by simp)).2
  have hk := h.rgt.2 k (by simp)
  exact ⟨((h.tells k.2 hbk).1 ⟨k, by simp, hk, Int.le_refl _⟩).2, hbk⟩
set_option maxHeartbeats 8000000 in
theorem ofLoop_ok (op : Int) (hop : op = 0 ∨ op = 1 ∨ op = 2) (w : World) (va vb : Value) (a b : List Rg) (ha : RSl w va a) (hb : RSl w vb b) (hla : a.length ≤ 300) (hlb : b.length ≤ 300) :
    Calls Tryz.prog 291 #[va, vb, .int .i64 op] w fun e w' => ∃ v r, e = .returned v ∧ RSl w' v r ∧ Says r (fun n => selOp a b op n = true) ∧ r.length ≤ 10000 ∧ Below w.heap.size w w' := by
  obtain ⟨i0, hi0, hz0, hz1, hz2⟩ := info_parts info_rg
  have hb0 := (Below.refl w.heap.size w).alloc (Nat.le_refl _) (.cells #[.int .i64 (-9223372036854775808)] 3)
  have HB0 := Lib.hid hb0
  have HA := Lib.hid ha
  have HBB := Lib.hid hb
  have HLA := Lib.hid (And.intro hla hlb)
  have HS1 := Lib.hid (starts_ok (w.alloc (.cells #[.int .i64 (-9223372036854775808)] 3)) _ va [-9223372036854775808] a (isl_lit w) (by simp [Srt]) (ha.below hb0) (by omega) (by simp))
  clear hb0 ha hb hla hlb
  go_enter Tryz.func291, Tryz.ntmps291
  go_wp2_with fail
  refine HS1.out.mono ?_
  rintro e w1 ⟨v1, L1, rfl, h1, h2, hb⟩
  have HB1 := Lib.hid (HB0.out.trans (hb.mono (by simp)))
  have HST1 := Lib.hid h2
  have HS2 := Lib.hid (starts_ok w1 v1 vb L1 b h1 h2.srt (HBB.out.below HB1.out) (by have := HLA.out; omega) (by have h5 := h2.len; have := HLA.out; simp only [List.length_singleton] at h5; omega))
  clear h1 h2 hb HS1 HB0
  go_wp2_with fail
  refine HS2.out.mono ?_
  rintro e w2 ⟨v2, L, rfl, h1, h2, hb⟩
  have HB2 := Lib.hid (HB1.out.trans (hb.mono HB1.out.size))
  have HA2 := Lib.hid (HA.out.below HB2.out)
  have HBB2 := Lib.hid (HBB.out.below HB2.out)
  have HSRT := Lib.hid h2.srt
  have HBI := Lib.hid h1.1
  have HMIN := Lib.hid (show (-9223372036854775808 : Int) ∈ L from h2.old _ (HST1.out.old _ (by simp)))
  have HCST := Lib.hid (show Cst L (selOp a b op) from by
    have c1 := HST1.out.cuts
    rw [List.take_length] at c1
    have c2 := h2.cuts
    rw [List.take_length] at c2
    exact selOp_cst ((c1.mono h2.old).cst HA.out.bd) (c2.cst HBB.out.bd) op)
  have hll : L.length ≤ 2000 := by have h3 := h2.len; have h4 := HST1.out.len; have := HLA.out; simp at h4; omega
  obtain ⟨_, g, o, cap, rfl, hcap, hg, hd⟩ := h1
  obtain ⟨n, hn⟩ : ∃ n, L.length = n := ⟨_, rfl⟩
  rw [hn] at hcap hd hll ⊢
  have HN := Lib.hid hn
  have HD := Lib.hid (fun j (hj : j < n) (W : World) (hW : Below w2.heap.size w2 W) => (World.cell?_of_block (w := w2) (a := ⟨g, o + j, none⟩) (hW.block g hg)).trans (hd j hj))
  have HG := Lib.hid hg
  have HOP := Lib.hid hop
  have H0 := Lib.hid (show RelQ w2 L (selOp a b op) (.slice none 0 0) (.int .i64 0) w2 from ⟨0, [], Nat.zero_le _, rfl, OwnR.nil _ _, OInv.start HSRT.out HBI.out HMIN.out, Below.refl _ _⟩)
  clear h2 hb HS2 HB1 hn hd hg hop HA HBB HST1
  go_wp2_with fail
  go_loopw [8, 9] (fun ov iv wr => RelQ w2 L (selOp a b op) ov iv wr) (fun _ iv _ => n - (Lib.intOf iv).toNat)
  case atStart => exact H0.out
  case round =>
    clear H0
    obtain ⟨i, out, hi, rfl, hown, hinv, hbel⟩ := hrel
    have HO := Lib.hid hown
    have HI := Lib.hid hinv
    have HB := Lib.hid hbel
    have hbw := hbel.size
    clear hown hinv hbel
    have hin : i ≤ n := by have := HN.out; omega
    by_cases hlt : i < n
    · have q1 : decide ((i : Int) < (n : Int)) = true := decide_eq_true (by omega)
      have q1n : decide (i < n) = true := decide_eq_true hlt
      have q3 : IntKind.i64.wrap ((i : Int) + 1) = ((i + 1 : Nat) : Int) := wrap_succ hlt (by omega)
      have x1 : (i : Int) < (n : Int) := by omega
      have hil : i < L.length := by have := HN.out; omega
      have hgw : g < wr.heap.size := Nat.lt_of_lt_of_le HG.out hbw
      have c1 := HD.out i hlt wr HB.out
      obtain ⟨x, hx⟩ : ∃ x, L[i]! = x := ⟨_, rfl⟩
      rw [hx] at c1
      have hnx : nxt L i = x := by rw [nxt_lt hil, ← hx, getElem!_pos L i hil]
      have HX := Lib.hid hnx
      have hxi : I64 x := by rw [← hnx]; exact nxt_I64 HBI.out hil
      have HXI := Lib.hid hxi
      have HH1 := Lib.hid (rHas_ok wr va a x (HA2.out.below HB.out) (by have := HLA.out; omega))
      have HH2 := Lib.hid (rHas_ok wr vb b x (HBB2.out.below HB.out) (by have := HLA.out; omega))
      have HSEL := Lib.hid (show selOp a b op x = if op = 0 then hasB a x || hasB b x else if op = 1 then hasB a x && hasB b x else hasB a x && !hasB b x from rfl)
      obtain ⟨xb, hxb⟩ : ∃ xb, hasB a x = xb := ⟨_, rfl⟩
      obtain ⟨yb, hyb⟩ : ∃ yb, hasB b x = yb := ⟨_, rfl⟩
      rw [hxb] at HH1 HSEL
      rw [hyb] at HH2 HSEL
      obtain ⟨s, hs⟩ : ∃ s, selOp a b op x = s := ⟨_, rfl⟩
      have HSX := Lib.hid hs
      rw [hs] at HSEL
      clear hx hnx hxi hxb hyb hs
      go_wp2_with fail
      refine HH1.out.mono ?_
      rintro e w3 ⟨rfl, hw⟩
      obtain rfl : wr = w3 := hw.symm
      clear hw
      go_wp2_with fail
      refine HH2.out.mono ?_
      rintro e w3 ⟨rfl, hw⟩
      obtain rfl : wr = w3 := hw.symm
      clear hw HH1 HH2
      go_upto_region 8 with fail
      go_cut [67] from 18 to 119 (fun v wx => v = .bool (!s) ∧ wx = wr)
      case first =>
        have hsel := HSEL.out
        clear HSEL HSX
        rcases HOP.out with rfl | rfl | rfl
        · cases xb <;> cases yb <;> (simp at hsel; subst hsel; go_wp2_with fail; go_meet; exact ⟨rfl, rfl⟩)
        · cases xb <;> cases yb <;> (simp at hsel; subst hsel; go_wp2_with fail; go_meet; exact ⟨rfl, rfl⟩)
        · cases xb <;> cases yb <;> (simp at hsel; subst hsel; go_wp2_with fail; go_meet; exact ⟨rfl, rfl⟩)
      obtain ⟨rfl, hw⟩ := hcut
      obtain rfl : wr = wc := hw.symm
      clear hw HSEL
      cases s with
      | false =>
        have HI2 := Lib.hid (HI.out.no HSRT.out HBI.out HCST.out hil (by rw [HX.out]; exact HSX.out))
        simp only [Bool.not_false]
        go_wp2_with fail
        go_roundw
        case rel => exact ⟨i + 1, out, hil, rfl, HO.out, HI2.out, HB.out⟩
        case measure => simp only [Lib.intOf]; omega
      | true =>
        have HI2 := Lib.hid (HI.out.yes HSRT.out HBI.out HCST.out hil (by rw [HX.out]; exact HSX.out))
        simp only [Bool.not_true]
        obtain ⟨h, hh⟩ : ∃ h, nxt L (i + 1) - 1 = h := ⟨_, rfl⟩
        have HHI := Lib.hid (show I64 h from by rw [← hh]; exact nxt_hi HSRT.out HBI.out hil)
        have HH := Lib.hid hh
        have HIN := HI2
        rw [HX.out, hh] at HIN
        have HXL := Lib.hid (show L[i]! = x from by rw [← HX.out, nxt_lt hil, getElem!_pos L i hil])
        have hol : out.length ≤ 10000 := by have := HI.out.len; omega
        clear hh HI2
        rcases snoc_cases out with rfl | ⟨o', k, rfl⟩
        · rw [addp_nil] at HIN
          obtain ⟨sa, capo, rfl⟩ := (HO.out.rsl Bd.nil).shape
          simp only [List.length_nil] at HO ⊢
          by_cases h1 : i + 1 < n
          · have q5 : decide ((i : Int) + 1 < (n : Int)) = true := decide_eq_true (by omega)
            have q5n : decide (i + 1 < n) = true := decide_eq_true h1
            have x5 : (i : Int) + 1 < (n : Int) := by omega
            have q5b : decide (((i + 1 : Nat) : Int) < (n : Int)) = true := decide_eq_true (by omega)
            have x5b : ((i + 1 : Nat) : Int) < (n : Int) := by omega
            obtain ⟨z, hz⟩ : ∃ z, L[i + 1]! = z := ⟨_, rfl⟩
            have c2 := HD.out (i + 1) h1 wr HB.out
            rw [hz] at c2
            have hnz : nxt L (i + 1) = z := by rw [nxt_lt (by have := HN.out; omega), ← hz, getElem!_pos L (i + 1) (by have := HN.out; omega)]
            have q6 : IntKind.i64.wrap (z - 1) = h := by rw [← HH.out, hnz]; exact wrap_ok (by have h2 := HHI.out; rw [← HH.out, hnz] at h2; exact h2)
            clear hz hnz
            go_wp2_with fail
            go_quiet (fail)
            clear c1
            generalize hW1 : wr.drewN _ = W1
            have hbw1 : Below wr.heap.size wr W1 := by rw [← hW1]; exact ⟨rfl, rfl, rfl, Nat.le_refl _, fun _ _ => rfl⟩
            have HB1 := Lib.hid (HB.out.trans (hbw1.mono HB.out.size))
            have HO1 := Lib.hid (HO.out.below hbw1)
            have c1 := HD.out i hlt W1 HB1.out
            rw [HXL.out] at c1
            have hgw1 : g < W1.heap.size := Nat.lt_of_lt_of_le HG.out HB1.out.size
            have hbw1s := HB1.out.size
            go_wp2_with (at_builtin; refine wpList_append_own _ rfl (.tmp 111) (.tmp 118) 42 rfl w2.heap.size 66 i0 rgZero 2 16 Tryz.underlying42 hi0 hz0 hz1 hz2 rfl (by decide) _ ([] : List Rg).length (rcells []) rfl (World.ownsRow.alloc HO1.out _) ⟨W1.heap.size, 0, none⟩ 1 1 [.int .i64 x, .int .i64 h] rfl rfl (new_rg _ _ _) (one_rg x h) (by unfold maxLen; simp) (by simp) (by simp; omega) ?_; intro v' w4 hown4 hgr4 _; have HO4 := Lib.hid (own_snoc hown4); have HB4 := Lib.hid (own_grown HB1.out HO1.out (Nat.le_refl _) HB1.out.size _ hgr4); clear hown4 hgr4)
            go_roundw
            case rel => exact ⟨i + 1, [(x, h)], hil, rfl, HO4.out, HIN.out, HB4.out⟩
            case measure => simp only [Lib.intOf]; omega
          · have q5 : decide ((i : Int) + 1 < (n : Int)) = false := decide_eq_false (by omega)
            have q5n : decide (i + 1 < n) = false := decide_eq_false h1
            have q5b : decide (((i + 1 : Nat) : Int) < (n : Int)) = false := decide_eq_false (by omega)
            obtain rfl : h = 9223372036854775807 := by rw [← HH.out, nxt_end (by have := HN.out; omega)]; rfl
            go_wp2_with fail
            go_quiet (fail)
            clear c1
            generalize hW1 : wr.drewN _ = W1
            have hbw1 : Below wr.heap.size wr W1 := by rw [← hW1]; exact ⟨rfl, rfl, rfl, Nat.le_refl _, fun _ _ => rfl⟩
            have HB1 := Lib.hid (HB.out.trans (hbw1.mono HB.out.size))
            have HO1 := Lib.hid (HO.out.below hbw1)
            have c1 := HD.out i hlt W1 HB1.out
            rw [HXL.out] at c1
            have hgw1 : g < W1.heap.size := Nat.lt_of_lt_of_le HG.out HB1.out.size
            have hbw1s := HB1.out.size
            go_wp2_with (at_builtin; refine wpList_append_own _ rfl (.tmp 111) (.tmp 118) 42 rfl w2.heap.size 66 i0 rgZero 2 16 Tryz.underlying42 hi0 hz0 hz1 hz2 rfl (by decide) _ ([] : List Rg).length (rcells []) rfl (World.ownsRow.alloc HO1.out _) ⟨W1.heap.size, 0, none⟩ 1 1 [.int .i64 x, .int .i64 9223372036854775807] rfl rfl (new_rg _ _ _) (one_rg x 9223372036854775807) (by unfold maxLen; simp) (by simp) (by simp; omega) ?_; intro v' w4 hown4 hgr4 _; have HO4 := Lib.hid (own_snoc hown4); have HB4 := Lib.hid (own_grown HB1.out HO1.out (Nat.le_refl _) HB1.out.size _ hgr4); clear hown4 hgr4)
            go_roundw
            case rel => exact ⟨i + 1, [(x, 9223372036854775807)], hil, rfl, HO4.out, HIN.out, HB4.out⟩
            case measure => simp only [Lib.intOf]; omega
        · obtain ⟨k1, k2⟩ := k
          obtain ⟨g2, cap2, rfl, hg2, hc2, hrow⟩ := HO.out.row (by simp)
          obtain ⟨m, hm2⟩ : ∃ m, o'.length = m := ⟨_, rfl⟩
          have HM2 := Lib.hid hm2
          have e1 : (o' ++ [(k1, k2)]).length = m + 1 := by rw [List.length_append, List.length_singleton, hm2]
          have HK := Lib.hid (show (o' ++ [(k1, k2)])[m]! = (k1, k2) by rw [← hm2]; simp)
          rw [e1] at hol HO ⊢
          have HR := Lib.hid hrow
          have HG2 := Lib.hid hg2
          have HC2 := Lib.hid hc2
          obtain ⟨hk, hki⟩ := HI.out.last_lt
          rw [HX.out] at hk
          simp only at hk hki
          have hg2w : g2 < wr.heap.size := hrow.lt
          have d1 := (hrow.cell m (by rw [e1]; omega)).2
          rw [HK.out] at d1
          simp only at d1
          obtain ⟨xm, hxm⟩ : ∃ xm, x - 1 = xm := ⟨_, rfl⟩
          have q8 : IntKind.i64.wrap (x - 1) = xm := by rw [hxm]; exact wrap_ok (by have h3 := HXI.out; unfold I64 at *; omega)
          have q9 : IntKind.i64.wrap (((m + 1 : Nat) : Int) - 1) = (m : Int) := by rw [IntKind.wrap_i64]; omega
          have q9b : IntKind.i64.wrap ((m : Int) + 1 - 1) = (m : Int) := by rw [IntKind.wrap_i64]; omega
          have y1 : decide (0 < (m : Int) + 1) = true := decide_eq_true (by omega)
          have y1n : decide (0 < m + 1) = true := decide_eq_true (by omega)
          have y2 : (m : Int) < (m : Int) + 1 := by omega
          have y2b : (m : Int) < ((m + 1 : Nat) : Int) := by omega
          have y3 : decide ((-9223372036854775808 : Int) < x) = true := decide_eq_true (by unfold I64 at hki; omega)
          clear hm2 hrow hg2 hc2 hki
          by_cases hkx : k2 = x - 1
          · rw [addp_join hkx] at HIN
            have q10 : (k2 == xm) = true := by rw [hkx, hxm]; simp
            clear hkx hxm hk
            by_cases h1 : i + 1 < n
            · have q5 : decide ((i : Int) + 1 < (n : Int)) = true := decide_eq_true (by omega)
              have q5n : decide (i + 1 < n) = true := decide_eq_true h1
              have x5 : (i : Int) + 1 < (n : Int) := by omega
              have q5b : decide (((i + 1 : Nat) : Int) < (n : Int)) = true := decide_eq_true (by omega)
              have x5b : ((i + 1 : Nat) : Int) < (n : Int) := by omega
              obtain ⟨z, hz⟩ : ∃ z, L[i + 1]! = z := ⟨_, rfl⟩
              have c2 := HD.out (i + 1) h1 wr HB.out
              rw [hz] at c2
              have hnz : nxt L (i + 1) = z := by rw [nxt_lt (by have := HN.out; omega), ← hz, getElem!_pos L (i + 1) (by have := HN.out; omega)]
              have q6 : IntKind.i64.wrap (z - 1) = h := by rw [← HH.out, hnz]; exact wrap_ok (by have h2 := HHI.out; rw [← HH.out, hnz] at h2; exact h2)
              clear hz hnz
              go_wp2_with fail
              go_quiet (fail)
              clear c1
              generalize hW1 : wr.drewN _ = W1
              have hbw1 : Below wr.heap.size wr W1 := by rw [← hW1]; exact ⟨rfl, rfl, rfl, Nat.le_refl _, fun _ _ => rfl⟩
              have HB1 := Lib.hid (HB.out.trans (hbw1.mono HB.out.size))
              have HO1 := Lib.hid (HO.out.below hbw1)
              have c1 := HD.out i hlt W1 HB1.out
              rw [HXL.out] at c1
              have hgw1 : g < W1.heap.size := Nat.lt_of_lt_of_le HG.out HB1.out.size
              have hbw1s := HB1.out.size
              have HR1 := Lib.hid (HR.out.below hbw1)
              have f4 := (HR1.out.cell m (by rw [e1]; omega)).2
              have fz := HR1.out.frozen (m * 2 + 1)
              rw [HK.out] at f4
              simp only at f4
              have HR2 := Lib.hid (HR1.out.setHi (k := m) (by rw [e1]; omega) h)
              rw [HK.out] at HR2
              have HO2 := Lib.hid (show OwnR w2.heap.size (W1.setCell ⟨g2, m * 2 + 1, none⟩ (.int .i64 h)) (.slice (some ⟨g2, 0, none⟩) (m + 1) cap2) (o' ++ [(k1, h)]) by
                have h5 := HR2.out.own (base := w2.heap.size) (n := m + 1) HG2.out HC2.out (by rw [List.length_set, e1]; omega)
                rw [List.take_of_length_le (by rw [List.length_set, e1]; omega)] at h5
                have h6 : (o' ++ [(k1, k2)]).set m (k1, h) = o' ++ [(k1, h)] := by rw [← HM2.out]; simp
                rw [h6] at h5
                exact h5)
              have HB2' := Lib.hid (HB1.out.setCell (p := ⟨g2, m * 2 + 1, none⟩) HG2.out (.int .i64 h))
              go_wp2_with fail
              go_roundw
              case rel => exact ⟨i + 1, o' ++ [(k1, h)], hil, rfl, HO2.out, HIN.out, HB2'.out⟩
              case measure => simp only [Lib.intOf]; omega
            · have q5 : decide ((i : Int) + 1 < (n : Int)) = false := decide_eq_false (by omega)
              have q5n : decide (i + 1 < n) = false := decide_eq_false h1
              have q5b : decide (((i + 1 : Nat) : Int) < (n : Int)) = false := decide_eq_false (by omega)
              obtain rfl : h = 9223372036854775807 := by rw [← HH.out, nxt_end (by have := HN.out; omega)]; rfl
              go_wp2_with fail
              go_quiet (fail)
              clear c1
              generalize hW1 : wr.drewN _ = W1
              have hbw1 : Below wr.heap.size wr W1 := by rw [← hW1]; exact ⟨rfl, rfl, rfl, Nat.le_refl _, fun _ _ => rfl⟩
              have HB1 := Lib.hid (HB.out.trans (hbw1.mono HB.out.size))
              have HO1 := Lib.hid (HO.out.below hbw1)
              have c1 := HD.out i hlt W1 HB1.out
              rw [HXL.out] at c1
              have hgw1 : g < W1.heap.size := Nat.lt_of_lt_of_le HG.out HB1.out.size
              have hbw1s := HB1.out.size
              have HR1 := Lib.hid (HR.out.below hbw1)
              have f4 := (HR1.out.cell m (by rw [e1]; omega)).2
              have fz := HR1.out.frozen (m * 2 + 1)
              rw [HK.out] at f4
              simp only at f4
              have HR2 := Lib.hid (HR1.out.setHi (k := m) (by rw [e1]; omega) 9223372036854775807)
              rw [HK.out] at HR2
              have HO2 := Lib.hid (show OwnR w2.heap.size (W1.setCell ⟨g2, m * 2 + 1, none⟩ (.int .i64 9223372036854775807)) (.slice (some ⟨g2, 0, none⟩) (m + 1) cap2) (o' ++ [(k1, 9223372036854775807)]) by
                have h5 := HR2.out.own (base := w2.heap.size) (n := m + 1) HG2.out HC2.out (by rw [List.length_set, e1]; omega)
                rw [List.take_of_length_le (by rw [List.length_set, e1]; omega)] at h5
                have h6 : (o' ++ [(k1, k2)]).set m (k1, 9223372036854775807) = o' ++ [(k1, 9223372036854775807)] := by rw [← HM2.out]; simp
                rw [h6] at h5
                exact h5)
              have HB2' := Lib.hid (HB1.out.setCell (p := ⟨g2, m * 2 + 1, none⟩) HG2.out (.int .i64 9223372036854775807))
              go_wp2_with fail
              go_roundw
              case rel => exact ⟨i + 1, o' ++ [(k1, 9223372036854775807)], hil, rfl, HO2.out, HIN.out, HB2'.out⟩
              case measure => simp only [Lib.intOf]; omega
          · rw [addp_apart hkx] at HIN
            have q10 : (k2 == xm) = false := beq_false_of_ne (by omega)
            clear hkx hxm hk
            by_cases h1 : i + 1 < n
            · have q5 : decide ((i : Int) + 1 < (n : Int)) = true := decide_eq_true (by omega)
              have q5n : decide (i + 1 < n) = true := decide_eq_true h1
              have x5 : (i : Int) + 1 < (n : Int) := by omega
              have q5b : decide (((i + 1 : Nat) : Int) < (n : Int)) = true := decide_eq_true (by omega)
              have x5b : ((i + 1 : Nat) : Int) < (n : Int) := by omega
              obtain ⟨z, hz⟩ : ∃ z, L[i + 1]! = z := ⟨_, rfl⟩
              have c2 := HD.out (i + 1) h1 wr HB.out
              rw [hz] at c2
              have hnz : nxt L (i + 1) = z := by rw [nxt_lt (by have := HN.out; omega), ← hz, getElem!_pos L (i + 1) (by have := HN.out; omega)]
              have q6 : IntKind.i64.wrap (z - 1) = h := by rw [← HH.out, hnz]; exact wrap_ok (by have h2 := HHI.out; rw [← HH.out, hnz] at h2; exact h2)
              clear hz hnz
              go_wp2_with fail
              go_quiet (fail)
              clear c1
              generalize hW1 : wr.drewN _ = W1
              have hbw1 : Below wr.heap.size wr W1 := by rw [← hW1]; exact ⟨rfl, rfl, rfl, Nat.le_refl _, fun _ _ => rfl⟩
              have HB1 := Lib.hid (HB.out.trans (hbw1.mono HB.out.size))
              have HO1 := Lib.hid (HO.out.below hbw1)
              have c1 := HD.out i hlt W1 HB1.out
              rw [HXL.out] at c1
              have hgw1 : g < W1.heap.size := Nat.lt_of_lt_of_le HG.out HB1.out.size
              have hbw1s := HB1.out.size
              go_wp2_with (at_builtin; refine wpList_append_own _ rfl (.tmp 111) (.tmp 118) 42 rfl w2.heap.size 66 i0 rgZero 2 16 Tryz.underlying42 hi0 hz0 hz1 hz2 rfl (by decide) _ (m + 1) (rcells (o' ++ [(k1, k2)])) rfl (World.ownsRow.alloc (ownsN e1 HO1.out) _) ⟨W1.heap.size, 0, none⟩ 1 1 [.int .i64 x, .int .i64 h] rfl rfl (new_rg _ _ _) (one_rg x h) (by unfold maxLen; omega) (by omega) (by simp; omega) ?_; intro v' w4 hown4 hgr4 _; have HO4 := Lib.hid (own_snocN e1 hown4); have HB4 := Lib.hid (own_grown HB1.out HO1.out (Nat.le_refl _) HB1.out.size _ hgr4); clear hown4 hgr4)
              go_roundw
              case rel => exact ⟨i + 1, o' ++ [(k1, k2)] ++ [(x, h)], hil, rfl, HO4.out, HIN.out, HB4.out⟩
              case measure => simp only [Lib.intOf]; omega
            · have q5 : decide ((i : Int) + 1 < (n : Int)) = false := decide_eq_false (by omega)
              have q5n : decide (i + 1 < n) = false := decide_eq_false h1
              have q5b : decide (((i + 1 : Nat) : Int) < (n : Int)) = false := decide_eq_false (by omega)
              obtain rfl : h = 9223372036854775807 := by rw [← HH.out, nxt_end (by have := HN.out; omega)]; rfl
              go_wp2_with fail
              go_quiet (fail)
              clear c1
              generalize hW1 : wr.drewN _ = W1
              have hbw1 : Below wr.heap.size wr W1 := by rw [← hW1]; exact ⟨rfl, rfl, rfl, Nat.le_refl _, fun _ _ => rfl⟩
              have HB1 := Lib.hid (HB.out.trans (hbw1.mono HB.out.size))
              have HO1 := Lib.hid (HO.out.below hbw1)
              have c1 := HD.out i hlt W1 HB1.out
              rw [HXL.out] at c1
              have hgw1 : g < W1.heap.size := Nat.lt_of_lt_of_le HG.out HB1.out.size
              have hbw1s := HB1.out.size
              go_wp2_with (at_builtin; refine wpList_append_own _ rfl (.tmp 111) (.tmp 118) 42 rfl w2.heap.size 66 i0 rgZero 2 16 Tryz.underlying42 hi0 hz0 hz1 hz2 rfl (by decide) _ (m + 1) (rcells (o' ++ [(k1, k2)])) rfl (World.ownsRow.alloc (ownsN e1 HO1.out) _) ⟨W1.heap.size, 0, none⟩ 1 1 [.int .i64 x, .int .i64 9223372036854775807] rfl rfl (new_rg _ _ _) (one_rg x 9223372036854775807) (by unfold maxLen; omega) (by omega) (by simp; omega) ?_; intro v' w4 hown4 hgr4 _; have HO4 := Lib.hid (own_snocN e1 hown4); have HB4 := Lib.hid (own_grown HB1.out HO1.out (Nat.le_refl _) HB1.out.size _ hgr4); clear hown4 hgr4)
              go_roundw
              case rel => exact ⟨i + 1, o' ++ [(k1, k2)] ++ [(x, 9223372036854775807)], hil, rfl, HO4.out, HIN.out, HB4.out⟩
              case measure => simp only [Lib.intOf]; omega
    · have q1 : decide ((i : Int) < (n : Int)) = false := decide_eq_false (by omega)
      have q1n : decide (i < n) = false := decide_eq_false hlt
      obtain rfl : i = L.length := by have := HN.out; omega
      have HF := Lib.hid HI.out.fin
      have hlen := HI.out.len
      go_wp2_with fail
      go_ret
      exact ⟨_, out, rfl, HO.out.rsl HF.out.2.1, HF.out, by have := HN.out; omega, HB2.out.trans (HB.out.mono HB2.out.size)⟩
end Go.Proofs.YtjhecpkdpomkmaaGreat

namespace Go.Proofs.YtjhecpkdpomkmaaGreat
open Go.RowKit Go.Shelf
set_option linter.unusedVariables false
set_option linter.unusedSimpArgs false
set_option maxRecDepth 100000

def RelWS (w : World) (s : List Rg) (iv : Value) (wr : World) : Prop :=
  ∃ i : Nat, i ≤ s.length ∧ iv = .int .i64 (i : Nat) ∧ rgt (s.take i) ∧ Below w.heap.size w wr
end Go.Proofs.YtjhecpkdpomkmaaGreat

namespace Go.Proofs.YtjhecpkdpomkmaaGreat
open Go.RowKit Go.Shelf
set_option linter.unusedVariables false
set_option linter.unusedSimpArgs false
set_option maxRecDepth 100000

theorem RSl.nil (w : World) : RSl w (.slice none 0 0) [] := ⟨Bd.nil, .inr ⟨rfl, _, _, rfl⟩⟩
theorem Says.cast {r : List Rg} {p q : Int → Prop} (h : Says r p) (hpq : ∀ n, p n ↔ q n) : Says r q := ⟨h.1, h.2.1, fun n hn => (h.2.2 n hn).trans (hpq n)⟩
theorem sel0 (a b : List Rg) (n : Int) : selOp a b 0 n = true ↔ mem a n ∨ mem b n := by
  unfold selOp
  rw [if_pos rfl, Bool.or_eq_true, hasB_iff, hasB_iff]
theorem sel0n (a : List Rg) (n : Int) : selOp a [] 0 n = true ↔ mem a n := by
  rw [sel0]
  simp [mem_nil]
set_option maxHeartbeats 1000000 in
theorem rNorm_ok (w : World) (v : Value) (l : List Rg) (h : RSl w v l) (hl : l.length ≤ 300) :
    Calls Tryz.prog 260 #[v] w fun e w' => ∃ v' r, e = .returned v' ∧ Ans w' v' (mem l) 10000 r ∧ Below w.heap.size w w' := by
  have HC := Lib.hid (ofLoop_ok 0 (.inl rfl) w v (.slice none 0 0) l [] h (RSl.nil w) hl (by simp))
  clear h hl
  go_enter Tryz.func260, Tryz.ntmps260
  go_wp2_with fail
  refine HC.out.mono ?_
  rintro e w' ⟨v', r, rfl, h1, h2, h3, h4⟩
  have HA := Lib.hid (show Ans w' v' (mem l) 10000 r from ⟨h1, h2.cast (sel0n l), h3⟩)
  have HB := Lib.hid h4
  clear h1 h2 h3 h4
  go_wp2_with fail
  go_ret
  exact ⟨_, r, rfl, HA.out, HB.out⟩
theorem rgt_iff_norm {s r : List Rg} (h : Says r (mem s)) (hb : Bd s) : s = r ↔ rgt s := by
  constructor
  · intro e
    rw [e]
    exact h.1
  · intro hs
    exact hs.uniq h.1 fun n => ⟨fun hm => (h.2.2 n (hb.mem hm)).2 hm, fun hm => (h.2.2 n (h.2.1.mem hm)).1 hm⟩
set_option maxHeartbeats 1000000 in
theorem rRight_ok (w : World) (v : Value) (s : List Rg) (h : RSl w v s) (hl : s.length ≤ 300) :
    Calls Tryz.prog 245 #[v] w fun e w' => ∃ b, e = .returned (.bool b) ∧ (b = true ↔ rgt s) ∧ Below w.heap.size w w' := by
  have HC := Lib.hid (rNorm_ok w v s h hl)
  have HV := Lib.hid h
  have HL := Lib.hid hl
  clear h hl
  go_enter Tryz.func245, Tryz.ntmps245
  go_wp2_with fail
  refine HC.out.mono ?_
  rintro e w' ⟨v', r, rfl, h1, h2⟩
  have HB := Lib.hid h2
  have HS := Lib.hid (Same_ok w' v v' s r (HV.out.below h2) h1.1 (by have := HL.out; omega))
  have HI := Lib.hid (show decide (s = r) = true ↔ rgt s from by rw [decide_eq_true_iff]; exact rgt_iff_norm h1.2.1 HV.out.bd)
  generalize decide (s = r) = b at *
  clear h1 h2 HC
  go_wp2_with fail
  refine HS.out.mono ?_
  rintro e w2 ⟨rfl, h⟩
  have HB2 := Lib.hid (HB.out.trans (h.mono HB.out.size))
  clear h HS HB
  go_wp2_with fail
  go_ret
  exact ⟨b, rfl, HI.out, HB2.out⟩
end Go.Proofs.YtjhecpkdpomkmaaGreat
