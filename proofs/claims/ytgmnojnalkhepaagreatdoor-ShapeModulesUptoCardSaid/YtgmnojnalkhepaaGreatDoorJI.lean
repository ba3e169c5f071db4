/-
  A bundle of texts, one behind the other: ShP4, ShP5A, ShP5B, ShP5C, ShP6.
-/
import Derived.Test.YtgmnojnalkhepaaGreatDoorJH
import Derived.Test.YtgmnojnalkhepaaGreatDoorJF
/-
  Package shape's writer: 'value', 'part'.
-/
namespace Go.Proofs.YtgmnojnalkhepaaGreatDoor
open Go.RowKit
set_option linter.unusedVariables false
set_option linter.unusedSimpArgs false
set_option maxRecDepth 100000

/-- a string that may be put in quotes: not too long -/
def QOk (s : ByteArray) : Prop := s.size ≤ 1000000000 ∧ (quoT s).length ≤ 140737488355328 ∧ s.size + Lib.countB s (bs [34]) * 2 ≤ 140737488355328
/-- a default value's text -/
def VT.txt : VT → List UInt8
  | .nil => []
  | .mk kd m s _ _ _ _ _ => if kd = 2 then Lib.itoa m else if kd = 3 then s.data.toList else if kd = 7 then quoT s else if m = 0 then [70, 65, 76, 83, 69] else [84, 82, 85, 69]
def VQ : VT → Prop
  | .nil => False
  | .mk kd m s _ _ _ _ _ => kd = 7 → QOk s
set_option maxHeartbeats 4000000 in
theorem value_ok (B : Nat) (x : VT) (w : World) (hgs : Gs w) (hx : VIn B w x) (hq : VQ x) :
    Calls Tryz.prog 78 #[x.v] w fun e w' => e = .returned (.string (bs x.txt)) ∧ Below w.heap.size w w' := by
  obtain ⟨kd, m, s, ⟨na, nn, ncap, nf⟩, a, n, cap, ch, rfl⟩ := hx.open
  obtain ⟨⟨hk, hm, hs, _⟩, _, _⟩ := hx
  have hb1 : Below w.heap.size w (w.alloc (.cells #[.int .i64 kd, .int .i64 m, .string s, .slice na nn ncap, .slice a n cap] 44)) := (Below.refl _ _).alloc (Nat.le_refl _) _
  have HB1 := Lib.hid hb1
  have HI := Lib.hid (itoa_ok m _ hm (hgs.below hb1))
  have HT := Lib.hid (show (VT.mk kd m s ⟨na, nn, ncap, nf⟩ a n cap ch).txt = (if kd = 2 then Lib.itoa m else if kd = 3 then s.data.toList else if kd = 7 then quoT s else if m = 0 then [70, 65, 76, 83, 69] else [84, 82, 85, 69]) from rfl)
  obtain ⟨R, hR⟩ : ∃ R, (VT.mk kd m s ⟨na, nn, ncap, nf⟩ a n cap ch).txt = R := ⟨_, rfl⟩
  rw [hR] at HT ⊢
  show Calls _ _ #[.agg #[.int .i64 kd, .int .i64 m, .string s, .slice na nn ncap, .slice a n cap]] w _
  by_cases k2 : kd = 2
  · subst k2
    obtain rfl : R = Lib.itoa m := by rw [HT.out, if_pos rfl]
    clear hgs hk hm hs hq hb1 hR HT
    go_enter Tryz.func78, Tryz.ntmps78
    go_wp2_with fail
    refine HI.out.mono ?_
    rintro e w1 ⟨rfl, hb⟩
    have HB2 := Lib.hid (HB1.out.trans (hb.mono HB1.out.size))
    clear hb
    go_wp2_with fail
    go_ret
    exact ⟨rfl, HB2.out⟩
  by_cases k3 : kd = 3
  · subst k3
    obtain rfl : R = s.data.toList := by rw [HT.out, if_neg (by decide), if_pos rfl]
    rw [bs_data]
    clear hgs hk hm hs hq hb1 hR HT HI
    go_enter Tryz.func78, Tryz.ntmps78
    go_wp2_with fail
    go_ret
    exact ⟨rfl, HB1.out⟩
  by_cases k7 : kd = 7
  · subst k7
    obtain rfl : R = quoT s := by rw [HT.out, if_neg (by decide), if_neg (by decide), if_pos rfl]
    obtain ⟨u1, u2, u3⟩ := hq rfl
    have HQ := Lib.hid (quoted_ok s _ (hgs.below hb1) u1 u2 u3)
    clear hgs hk hm hs hb1 hR HT HI u1 u2 u3 hq
    go_enter Tryz.func78, Tryz.ntmps78
    go_wp2_with fail
    refine HQ.out.mono ?_
    rintro e w1 ⟨rfl, hb⟩
    have HB2 := Lib.hid (HB1.out.trans (hb.mono HB1.out.size))
    clear hb
    go_wp2_with fail
    go_ret
    exact ⟨rfl, HB2.out⟩
  have p2 : (kd == 2) = false := by simpa using k2
  have p3 : (kd == 3) = false := by simpa using k3
  have p7 : (kd == 7) = false := by simpa using k7
  by_cases hm0 : m = 0
  · subst hm0
    obtain rfl : R = [70, 65, 76, 83, 69] := by rw [HT.out, if_neg k2, if_neg k3, if_neg k7, if_pos rfl]
    clear hgs hk hm hs hq hb1 hR HT HI k2 k3 k7
    go_enter Tryz.func78, Tryz.ntmps78
    go_wp2_with fail
    go_ret
    exact ⟨rfl, HB1.out⟩
  · have p0 : (m == 0) = false := by simpa using hm0
    obtain rfl : R = [84, 82, 85, 69] := by rw [HT.out, if_neg k2, if_neg k3, if_neg k7, if_neg hm0]
    clear hgs hk hm hs hq hb1 hR HT HI k2 k3 k7 hm0
    go_enter Tryz.func78, Tryz.ntmps78
    go_wp2_with fail
    go_ret
    exact ⟨rfl, HB1.out⟩
def optT : List UInt8 := [32, 79, 80, 84, 73, 79, 78, 65, 76]
def dfT : List UInt8 := [32, 68, 69, 70, 65, 85, 76, 84, 32]
/-- a part's text -/
def partT (p : PD) (t : List UInt8) : List UInt8 := (p.name.data.toList ++ [32]) ++ (t ++ ((if p.opt then optT else []) ++ catL (fun i => dfT ++ (p.d.f i).txt) p.d.n))
def RelPt (w0 w : World) (b : Nat) (l : List UInt8) (F : Nat → List UInt8) (n : Nat) (iv : Value) (wr : World) : Prop :=
  ∃ i : Nat, i ≤ n ∧ iv = .int .i64 (i : Nat) ∧ Wr w0.heap.size b (l ++ catL F i) wr ∧ Below w0.heap.size w wr ∧ Lib.OthersKept 5 (some b) w wr
set_option maxHeartbeats 8000000 in
theorem part_ok (w0 : World) (hgs : Gs w0) (p : PD) (t : TT) (hp : PDIn w0.heap.size w0 p) (ht : TIn w0.heap.size w0 t) (hq : ∀ i, i < p.d.n → VQ (p.d.f i)) (X : List UInt8) (hty : Writes w0 26 t.v X) :
    Writes w0 50 (pval p t) (partT p X) := by
  intro b l w h0 hw hlen
  obtain ⟨kd, tn, op, lo, hi, lw, hg, ca, cn, cc, cch, ext, fr, sa, sn, sc, sf, ma, mn, mc, mf, pa, pn, pc, pf, ptf, aa, an, ac, af, atf, ea, en, ec, etf, rfl⟩ := ht.open
  obtain ⟨qn, qo, ⟨qa, qk, qc, qf⟩⟩ := p
  obtain ⟨hqn, hd⟩ := hp
  have hk : qk ≤ 9223372036854775807 := by have := hd.1.1; have := hd.1.2.1; dsimp only at *; omega
  have hb1 : Below w.heap.size w (w.alloc (.cells #[.string qn, .int .i64 kd, .string tn, .int .i64 op, .int .i64 lo, .int .i64 hi, .bool lw, .bool hg, .slice ca cn cc, .bool ext, .string fr, .slice sa sn sc, .slice ma mn mc, .slice pa pn pc, .slice aa an ac, .slice ea en ec, .bool qo, .slice qa qk qc] 42)) := (Below.refl _ _).alloc (Nat.le_refl _) _
  have HB1 := Lib.hid hb1
  have HX := Lib.hid (Bx.new w #[.string qn, .int .i64 kd, .string tn, .int .i64 op, .int .i64 lo, .int .i64 hi, .bool lw, .bool hg, .slice ca cn cc, .bool ext, .string fr, .slice sa sn sc, .slice ma mn mc, .slice pa pn pc, .slice aa an ac, .slice ea en ec, .bool qo, .slice qa qk qc] 42)
  have HW := Lib.hid (hw.below hb1)
  have H0 := Lib.hid (h0.trans (hb1.mono h0.size))
  have HSZ := Lib.hid h0.size
  have HWS := Lib.hid (show (w.alloc (.cells #[.string qn, .int .i64 kd, .string tn, .int .i64 op, .int .i64 lo, .int .i64 hi, .bool lw, .bool hg, .slice ca cn cc, .bool ext, .string fr, .slice sa sn sc, .slice ma mn mc, .slice pa pn pc, .slice aa an ac, .slice ea en ec, .bool qo, .slice qa qk qc] 42)).heap.size = w.heap.size + 1 by simp)
  have hgb : w.heap.size ≠ b := by have := hw.lt; omega
  have HROW := Lib.hid (show RowAt w0.heap.size w0 qa qk qc 5 (fun i => (qf i).cells) from hd.1)
  have HCH := Lib.hid (show ∀ i, i < qk → VIn w0.heap.size w0 (qf i) from hd.2)
  have HVQ := Lib.hid (show ∀ i, i < qk → VQ (qf i) from hq)
  have HGS := Lib.hid hgs
  have HTY := Lib.hid (show Writes w0 26 (.agg #[.int .i64 kd, .string tn, .int .i64 op, .int .i64 lo, .int .i64 hi, .bool lw, .bool hg, .slice ca cn cc, .bool ext, .string fr, .slice sa sn sc, .slice ma mn mc, .slice pa pn pc, .slice aa an ac, .slice ea en ec]) X from hty)
  have HL := Lib.hid (show l.length + ((qn.data.toList ++ [32]) ++ (X ++ ((if qo then optT else []) ++ catL (fun i => dfT ++ (qf i).txt) qk))).length + 100 ≤ 140737488355328 from hlen)
  obtain ⟨R, hR⟩ : ∃ R, partT ⟨qn, qo, ⟨qa, qk, qc, qf⟩⟩ X = R := ⟨_, rfl⟩
  have HR := Lib.hid (show R = (qn.data.toList ++ [32]) ++ (X ++ ((if qo then optT else []) ++ catL (fun i => dfT ++ (qf i).txt) qk)) by rw [← hR]; rfl)
  rw [hR]
  clear hgs hqn hd hb1 h0 hw hlen hq hR ht hty
  show Calls _ _ #[_, .agg #[.string qn, .int .i64 kd, .string tn, .int .i64 op, .int .i64 lo, .int .i64 hi, .bool lw, .bool hg, .slice ca cn cc, .bool ext, .string fr, .slice sa sn sc, .slice ma mn mc, .slice pa pn pc, .slice aa an ac, .slice ea en ec, .bool qo, .slice qa qk qc]] w _
  go_enter Tryz.func50, Tryz.ntmps50
  go_wp2_with fail
  generalize w.alloc (.cells #[.string qn, .int .i64 kd, .string tn, .int .i64 op, .int .i64 lo, .int .i64 hi, .bool lw, .bool hg, .slice ca cn cc, .bool ext, .string fr, .slice sa sn sc, .slice ma mn mc, .slice pa pn pc, .slice aa an ac, .slice ea en ec, .bool qo, .slice qa qk qc] 42) = W at *
  have HP := Lib.hid (put2_at w0 b l qn.data.toList [32] W _ 2 HWS.out HW.out H0.out.size (by have := HL.out; simp only [List.length_append] at this ⊢; omega))
  rw [bs_data] at HP
  refine HP.out.mono ?_
  rintro e w1 ha
  have HA1 := Lib.hid ha
  have HBB1 := Lib.hid (H0.out.trans ha.2.2.1)
  have HX1 := Lib.hid (HX.out.kept ha.2.2.2 hgb (by decide))
  have hx := HX1.out
  have c1 := hx.cell 1 rfl
  have c2 := hx.cell 2 rfl
  have c3 := hx.cell 3 rfl
  have c4 := hx.cell 4 rfl
  have c5 := hx.cell 5 rfl
  have c6 := hx.cell 6 rfl
  have c7 := hx.cell 7 rfl
  have c8 := hx.cell 8 rfl
  have c9 := hx.cell 9 rfl
  have c10 := hx.cell 10 rfl
  have c11 := hx.cell 11 rfl
  have c12 := hx.cell 12 rfl
  have c13 := hx.cell 13 rfl
  have c14 := hx.cell 14 rfl
  have c15 := hx.cell 15 rfl
  obtain ⟨rfl, _⟩ := ha
  clear hx HP
  go_wp2_with fail
  refine (HTY.out b _ w1 HBB1.out HA1.out.wr (by have := HL.out; simp only [List.length_append] at this ⊢; omega)).mono ?_
  rintro e w2 ha
  have HA2 := Lib.hid (HA1.out.step ha)
  have HBB2 := Lib.hid (HBB1.out.trans ha.2.2.1)
  have HX2 := Lib.hid (HX1.out.kept ha.2.2.2 hgb (by decide))
  clear c1 c2 c3 c4 c5 c6 c7 c8 c9 c10 c11 c12 c13 c14 c15
  have c16 := HX2.out.cell 16 rfl
  have c17 := HX2.out.cell 17 rfl
  obtain ⟨rfl, _⟩ := ha

  cases qo with
  | false =>
    have HL2 := Lib.hid (show (l ++ ((qn.data.toList ++ [32]) ++ X)).length + (catL (fun i => dfT ++ (qf i).txt) qk).length + 100 ≤ 140737488355328 by have := HL.out; simp only [List.length_append] at this ⊢; simp at this ⊢; omega)
    have HWC := Lib.hid HA2.out.wr
    have HBC := Lib.hid HA2.out.2.2.1
    have HKC := Lib.hid HA2.out.2.2.2
    clear HX1 HX2 HBB1 HA1 HX HW HWS
    go_wp2_with fail
    go_loopw [23] (fun iv wr => RelPt w0 W b (l ++ ((qn.data.toList ++ [32]) ++ X)) (fun i => dfT ++ (qf i).txt) qk iv wr) (fun iv _ => qk - (Lib.intOf iv).toNat)
    case atStart => exact ⟨0, Nat.zero_le _, rfl, by rw [show catL (fun i => dfT ++ (qf i).txt) 0 = [] from rfl, List.append_nil]; exact HWC.out, HBC.out, HKC.out⟩
    case round =>
      clear HWC HBC HKC
      obtain ⟨i, hi, rfl, hwr, hbel, hkp⟩ := hrel
      have HWR := Lib.hid hwr
      have HB := Lib.hid hbel
      have HK := Lib.hid hkp
      have HBB := Lib.hid (H0.out.trans hbel)
      have hsz := (H0.out.trans hbel).size
      have hbl := hwr.lt
      clear hwr hbel hkp
      by_cases hlt : i < qk
      · have q1 : decide ((i : Int) < (qk : Int)) = true := decide_eq_true (by omega)
        have q1n : decide (i < qk) = true := decide_eq_true hlt
        have q3 : IntKind.i64.wrap ((i : Int) + 1) = ((i + 1 : Nat) : Int) := wrap_succ hlt hk
        obtain ⟨gx, ox, kd', m', s', na', nn', ncap', nf', a', n', cap', ch', hchi, hix, hgx, hrd⟩ := vRow_read HROW.out hlt (HCH.out i hlt)
        obtain ⟨k0, k1, k2, k3, k4⟩ := hrd wr (HBB.out.block gx hgx)
        have hba : Below wr.heap.size wr (wr.alloc (.cells #[.int .i64 kd', .int .i64 m', .string s', .slice na' nn' ncap', .slice a' n' cap'] 44)) := (Below.refl _ _).alloc (Nat.le_refl _) _
        have HBA := Lib.hid hba
        have HV := Lib.hid (value_ok w0.heap.size (qf i) (wr.alloc (.cells #[.int .i64 kd', .int .i64 m', .string s', .slice na' nn' ncap', .slice a' n' cap'] 44)) (HGS.out.below (HBB.out.trans (hba.mono hsz))) ((HCH.out i hlt).below (HBB.out.trans (hba.mono hsz)) (Nat.le_refl _)) (HVQ.out i hlt))
        have hl2 : (l ++ ((qn.data.toList ++ [32]) ++ X) ++ catL (fun i => dfT ++ (qf i).txt) i).length + (dfT ++ (qf i).txt).length + 100 ≤ 140737488355328 := by
          have e1 := catL_mono (f := (fun i => dfT ++ (qf i).txt)) (n := qk) (i := i + 1) (by omega)
          have e2 := HL2.out
          simp only [catL, List.length_append] at e1 e2 ⊢
          omega
        obtain ⟨V, hV⟩ : ∃ V, (qf i).txt = V := ⟨_, rfl⟩
        rw [hV] at HV hl2
        have HVV := Lib.hid hV
        rw [hchi] at HV
        simp only [VT.v, VT.cells, SL.v] at HV
        clear hba hchi hrd hV
        go_wp2_with fail
        refine HV.out.mono ?_
        rintro e w3 ⟨rfl, hb⟩
        have HB3 := Lib.hid (HBA.out.trans (hb.mono HBA.out.size))
        clear hb
        go_wp2_with fail
        refine (put2_at w0 b _ dfT V w3 _ _ rfl (HWR.out.below HB3.out) (Nat.le_trans hsz HB3.out.size) (by omega)).mono ?_
        rintro e w4 ha
        have HA := Lib.hid (ha.from HB3.out hsz)
        obtain ⟨rfl, _⟩ := ha
        go_wp2_with fail
        go_roundw
        case rel => exact ⟨i + 1, hlt, rfl, by have h3 := HA.out.wr; simp only [catL]; rw [HVV.out, ← List.append_assoc (l ++ ((qn.data.toList ++ [32]) ++ X))]; exact h3, HB.out.trans HA.out.2.2.1, HK.out.trans HA.out.2.2.2⟩
        case measure => simp only [Lib.intOf]; omega
      · have q1 : decide ((i : Int) < (qk : Int)) = false := decide_eq_false (by omega)
        have q1n : decide (i < qk) = false := decide_eq_false hlt
        obtain rfl : i = qk := by omega
        go_wp2_with fail
        go_end0
        refine Adds.from HB1.out HSZ.out ⟨rfl, ?_, HB.out, HK.out⟩
        rw [HR.out]
        have h3 := HWR.out
        simpa only [List.append_assoc, List.nil_append, if_true, if_false, Bool.false_eq_true] using h3
  | true =>
    have HL2 := Lib.hid (show (l ++ (((qn.data.toList ++ [32]) ++ X) ++ optT)).length + (catL (fun i => dfT ++ (qf i).txt) qk).length + 100 ≤ 140737488355328 by have := HL.out; simp only [List.length_append] at this ⊢; simp at this ⊢; omega)
    go_wp2_with fail
    refine (put1_at w0 b _ optT w2 _ _ rfl HA2.out.wr HBB2.out.size (by have := HL2.out; simp only [List.length_append] at this ⊢; omega)).mono ?_
    rintro e w3 ha
    have HA3 := Lib.hid (HA2.out.step ha)
    have HX3 := Lib.hid (HX2.out.kept ha.2.2.2 hgb (by decide))
    clear c16 c17
    have c17 := HX3.out.cell 17 rfl
    obtain ⟨rfl, _⟩ := ha
    have HWC := Lib.hid HA3.out.wr
    have HBC := Lib.hid HA3.out.2.2.1
    have HKC := Lib.hid HA3.out.2.2.2
    clear HX1 HX2 HX3 HBB1 HBB2 HA1 HA2 HX HW HWS
    go_wp2_with fail
    go_loopw [23] (fun iv wr => RelPt w0 W b (l ++ (((qn.data.toList ++ [32]) ++ X) ++ optT)) (fun i => dfT ++ (qf i).txt) qk iv wr) (fun iv _ => qk - (Lib.intOf iv).toNat)
    case atStart => exact ⟨0, Nat.zero_le _, rfl, by rw [show catL (fun i => dfT ++ (qf i).txt) 0 = [] from rfl, List.append_nil]; exact HWC.out, HBC.out, HKC.out⟩
    case round =>
      clear HWC HBC HKC
      obtain ⟨i, hi, rfl, hwr, hbel, hkp⟩ := hrel
      have HWR := Lib.hid hwr
      have HB := Lib.hid hbel
      have HK := Lib.hid hkp
      have HBB := Lib.hid (H0.out.trans hbel)
      have hsz := (H0.out.trans hbel).size
      have hbl := hwr.lt
      clear hwr hbel hkp
      by_cases hlt : i < qk
      · have q1 : decide ((i : Int) < (qk : Int)) = true := decide_eq_true (by omega)
        have q1n : decide (i < qk) = true := decide_eq_true hlt
        have q3 : IntKind.i64.wrap ((i : Int) + 1) = ((i + 1 : Nat) : Int) := wrap_succ hlt hk
        obtain ⟨gx, ox, kd', m', s', na', nn', ncap', nf', a', n', cap', ch', hchi, hix, hgx, hrd⟩ := vRow_read HROW.out hlt (HCH.out i hlt)
        obtain ⟨k0, k1, k2, k3, k4⟩ := hrd wr (HBB.out.block gx hgx)
        have hba : Below wr.heap.size wr (wr.alloc (.cells #[.int .i64 kd', .int .i64 m', .string s', .slice na' nn' ncap', .slice a' n' cap'] 44)) := (Below.refl _ _).alloc (Nat.le_refl _) _
        have HBA := Lib.hid hba
        have HV := Lib.hid (value_ok w0.heap.size (qf i) (wr.alloc (.cells #[.int .i64 kd', .int .i64 m', .string s', .slice na' nn' ncap', .slice a' n' cap'] 44)) (HGS.out.below (HBB.out.trans (hba.mono hsz))) ((HCH.out i hlt).below (HBB.out.trans (hba.mono hsz)) (Nat.le_refl _)) (HVQ.out i hlt))
        have hl2 : (l ++ (((qn.data.toList ++ [32]) ++ X) ++ optT) ++ catL (fun i => dfT ++ (qf i).txt) i).length + (dfT ++ (qf i).txt).length + 100 ≤ 140737488355328 := by
          have e1 := catL_mono (f := (fun i => dfT ++ (qf i).txt)) (n := qk) (i := i + 1) (by omega)
          have e2 := HL2.out
          simp only [catL, List.length_append] at e1 e2 ⊢
          omega
        obtain ⟨V, hV⟩ : ∃ V, (qf i).txt = V := ⟨_, rfl⟩
        rw [hV] at HV hl2
        have HVV := Lib.hid hV
        rw [hchi] at HV
        simp only [VT.v, VT.cells, SL.v] at HV
        clear hba hchi hrd hV
        go_wp2_with fail
        refine HV.out.mono ?_
        rintro e w3 ⟨rfl, hb⟩
        have HB3 := Lib.hid (HBA.out.trans (hb.mono HBA.out.size))
        clear hb
        go_wp2_with fail
        refine (put2_at w0 b _ dfT V w3 _ _ rfl (HWR.out.below HB3.out) (Nat.le_trans hsz HB3.out.size) (by omega)).mono ?_
        rintro e w4 ha
        have HA := Lib.hid (ha.from HB3.out hsz)
        obtain ⟨rfl, _⟩ := ha
        go_wp2_with fail
        go_roundw
        case rel => exact ⟨i + 1, hlt, rfl, by have h3 := HA.out.wr; simp only [catL]; rw [HVV.out, ← List.append_assoc (l ++ (((qn.data.toList ++ [32]) ++ X) ++ optT))]; exact h3, HB.out.trans HA.out.2.2.1, HK.out.trans HA.out.2.2.2⟩
        case measure => simp only [Lib.intOf]; omega
      · have q1 : decide ((i : Int) < (qk : Int)) = false := decide_eq_false (by omega)
        have q1n : decide (i < qk) = false := decide_eq_false hlt
        obtain rfl : i = qk := by omega
        go_wp2_with fail
        go_end0
        refine Adds.from HB1.out HSZ.out ⟨rfl, ?_, HB.out, HK.out⟩
        rw [HR.out]
        have h3 := HWR.out
        simpa only [List.append_assoc, List.nil_append, if_true, if_false, Bool.false_eq_true] using h3
end Go.Proofs.YtgmnojnalkhepaaGreatDoor

/-
  Package shape's writer: 'typ' (A).
-/
namespace Go.Proofs.YtgmnojnalkhepaaGreatDoor
open Go.RowKit
set_option linter.unusedVariables false
set_option linter.unusedSimpArgs false
set_option maxRecDepth 100000

set_option maxHeartbeats 8000000 in
theorem typ_1 (w0 : World) (tn : ByteArray) (op lo hi : Int) (lw hg : Bool) (ca : Option Addr) (cn cc : Nat) (ext : Bool) (fr : ByteArray) (sa : Option Addr) (sn sc : Nat) (ma : Option Addr) (mn mc : Nat) (pa : Option Addr) (pn pc : Nat) (aa : Option Addr) (an ac : Nat) (ea : Option Addr) (en ec : Nat) 
     : Writes w0 26 (.agg #[.int .i64 1, .string tn, .int .i64 op, .int .i64 lo, .int .i64 hi, .bool lw, .bool hg, .slice ca cn cc, .bool ext, .string fr, .slice sa sn sc, .slice ma mn mc, .slice pa pn pc, .slice aa an ac, .slice ea en ec]) [66, 79, 79, 76, 69, 65, 78] := by
  intro b l w h0 hw hlen
  have hb1 : Below w.heap.size w (w.alloc (.cells #[.int .i64 1, .string tn, .int .i64 op, .int .i64 lo, .int .i64 hi, .bool lw, .bool hg, .slice ca cn cc, .bool ext, .string fr, .slice sa sn sc, .slice ma mn mc, .slice pa pn pc, .slice aa an ac, .slice ea en ec] 39)) := (Below.refl _ _).alloc (Nat.le_refl _) _
  have HB1 := Lib.hid hb1
  have HX := Lib.hid (Bx.new w #[.int .i64 1, .string tn, .int .i64 op, .int .i64 lo, .int .i64 hi, .bool lw, .bool hg, .slice ca cn cc, .bool ext, .string fr, .slice sa sn sc, .slice ma mn mc, .slice pa pn pc, .slice aa an ac, .slice ea en ec] 39)
  have HW := Lib.hid (hw.below hb1)
  have H0 := Lib.hid (h0.trans (hb1.mono h0.size))
  have HSZ := Lib.hid h0.size
  have HWS := Lib.hid (show (w.alloc (.cells #[.int .i64 1, .string tn, .int .i64 op, .int .i64 lo, .int .i64 hi, .bool lw, .bool hg, .slice ca cn cc, .bool ext, .string fr, .slice sa sn sc, .slice ma mn mc, .slice pa pn pc, .slice aa an ac, .slice ea en ec] 39)).heap.size = w.heap.size + 1 by simp)
  have hgb : w.heap.size ≠ b := by have := hw.lt; omega
  have HL := Lib.hid hlen
  clear h0 hw hlen hb1 
  go_enter Tryz.func26, Tryz.ntmps26
  go_wp2_with fail
  generalize w.alloc (.cells #[.int .i64 1, .string tn, .int .i64 op, .int .i64 lo, .int .i64 hi, .bool lw, .bool hg, .slice ca cn cc, .bool ext, .string fr, .slice sa sn sc, .slice ma mn mc, .slice pa pn pc, .slice aa an ac, .slice ea en ec] 39) = W at *
  skip
  have HP := Lib.hid (put1_at w0 b l [66, 79, 79, 76, 69, 65, 78] _ _ 1 HWS.out HW.out H0.out.size (by have := HL.out; (try simp only [List.length_append] at this); (try simp only [List.length_append]); omega))
  refine HP.out.mono ?_
  rintro e w1 ha
  have HA1 := Lib.hid (ha.from HB1.out HSZ.out)
  obtain ⟨rfl, _⟩ := ha
  go_wp2_with fail
  go_end0
  exact HA1.out
set_option maxHeartbeats 8000000 in
theorem typ_4 (w0 : World) (tn : ByteArray) (op lo hi : Int) (lw hg : Bool) (ca : Option Addr) (cn cc : Nat) (ext : Bool) (fr : ByteArray) (sa : Option Addr) (sn sc : Nat) (ma : Option Addr) (mn mc : Nat) (pa : Option Addr) (pn pc : Nat) (aa : Option Addr) (an ac : Nat) (ea : Option Addr) (en ec : Nat) 
     : Writes w0 26 (.agg #[.int .i64 4, .string tn, .int .i64 op, .int .i64 lo, .int .i64 hi, .bool lw, .bool hg, .slice ca cn cc, .bool ext, .string fr, .slice sa sn sc, .slice ma mn mc, .slice pa pn pc, .slice aa an ac, .slice ea en ec]) [78, 85, 76, 76] := by
  intro b l w h0 hw hlen
  have hb1 : Below w.heap.size w (w.alloc (.cells #[.int .i64 4, .string tn, .int .i64 op, .int .i64 lo, .int .i64 hi, .bool lw, .bool hg, .slice ca cn cc, .bool ext, .string fr, .slice sa sn sc, .slice ma mn mc, .slice pa pn pc, .slice aa an ac, .slice ea en ec] 39)) := (Below.refl _ _).alloc (Nat.le_refl _) _
  have HB1 := Lib.hid hb1
  have HX := Lib.hid (Bx.new w #[.int .i64 4, .string tn, .int .i64 op, .int .i64 lo, .int .i64 hi, .bool lw, .bool hg, .slice ca cn cc, .bool ext, .string fr, .slice sa sn sc, .slice ma mn mc, .slice pa pn pc, .slice aa an ac, .slice ea en ec] 39)
  have HW := Lib.hid (hw.below hb1)
  have H0 := Lib.hid (h0.trans (hb1.mono h0.size))
  have HSZ := Lib.hid h0.size
  have HWS := Lib.hid (show (w.alloc (.cells #[.int .i64 4, .string tn, .int .i64 op, .int .i64 lo, .int .i64 hi, .bool lw, .bool hg, .slice ca cn cc, .bool ext, .string fr, .slice sa sn sc, .slice ma mn mc, .slice pa pn pc, .slice aa an ac, .slice ea en ec] 39)).heap.size = w.heap.size + 1 by simp)
  have hgb : w.heap.size ≠ b := by have := hw.lt; omega
  have HL := Lib.hid hlen
  clear h0 hw hlen hb1 
  go_enter Tryz.func26, Tryz.ntmps26
  go_wp2_with fail
  generalize w.alloc (.cells #[.int .i64 4, .string tn, .int .i64 op, .int .i64 lo, .int .i64 hi, .bool lw, .bool hg, .slice ca cn cc, .bool ext, .string fr, .slice sa sn sc, .slice ma mn mc, .slice pa pn pc, .slice aa an ac, .slice ea en ec] 39) = W at *
  skip
  have HP := Lib.hid (put1_at w0 b l [78, 85, 76, 76] _ _ 1 HWS.out HW.out H0.out.size (by have := HL.out; (try simp only [List.length_append] at this); (try simp only [List.length_append]); omega))
  refine HP.out.mono ?_
  rintro e w1 ha
  have HA1 := Lib.hid (ha.from HB1.out HSZ.out)
  obtain ⟨rfl, _⟩ := ha
  go_wp2_with fail
  go_end0
  exact HA1.out
set_option maxHeartbeats 8000000 in
theorem typ_11 (w0 : World) (tn : ByteArray) (op lo hi : Int) (lw hg : Bool) (ca : Option Addr) (cn cc : Nat) (ext : Bool) (fr : ByteArray) (sa : Option Addr) (sn sc : Nat) (ma : Option Addr) (mn mc : Nat) (pa : Option Addr) (pn pc : Nat) (aa : Option Addr) (an ac : Nat) (ea : Option Addr) (en ec : Nat) 
     : Writes w0 26 (.agg #[.int .i64 11, .string tn, .int .i64 op, .int .i64 lo, .int .i64 hi, .bool lw, .bool hg, .slice ca cn cc, .bool ext, .string fr, .slice sa sn sc, .slice ma mn mc, .slice pa pn pc, .slice aa an ac, .slice ea en ec]) tn.data.toList := by
  intro b l w h0 hw hlen
  have hb1 : Below w.heap.size w (w.alloc (.cells #[.int .i64 11, .string tn, .int .i64 op, .int .i64 lo, .int .i64 hi, .bool lw, .bool hg, .slice ca cn cc, .bool ext, .string fr, .slice sa sn sc, .slice ma mn mc, .slice pa pn pc, .slice aa an ac, .slice ea en ec] 39)) := (Below.refl _ _).alloc (Nat.le_refl _) _
  have HB1 := Lib.hid hb1
  have HX := Lib.hid (Bx.new w #[.int .i64 11, .string tn, .int .i64 op, .int .i64 lo, .int .i64 hi, .bool lw, .bool hg, .slice ca cn cc, .bool ext, .string fr, .slice sa sn sc, .slice ma mn mc, .slice pa pn pc, .slice aa an ac, .slice ea en ec] 39)
  have HW := Lib.hid (hw.below hb1)
  have H0 := Lib.hid (h0.trans (hb1.mono h0.size))
  have HSZ := Lib.hid h0.size
  have HWS := Lib.hid (show (w.alloc (.cells #[.int .i64 11, .string tn, .int .i64 op, .int .i64 lo, .int .i64 hi, .bool lw, .bool hg, .slice ca cn cc, .bool ext, .string fr, .slice sa sn sc, .slice ma mn mc, .slice pa pn pc, .slice aa an ac, .slice ea en ec] 39)).heap.size = w.heap.size + 1 by simp)
  have hgb : w.heap.size ≠ b := by have := hw.lt; omega
  have HL := Lib.hid hlen
  clear h0 hw hlen hb1 
  go_enter Tryz.func26, Tryz.ntmps26
  go_wp2_with fail
  generalize w.alloc (.cells #[.int .i64 11, .string tn, .int .i64 op, .int .i64 lo, .int .i64 hi, .bool lw, .bool hg, .slice ca cn cc, .bool ext, .string fr, .slice sa sn sc, .slice ma mn mc, .slice pa pn pc, .slice aa an ac, .slice ea en ec] 39) = W at *
  skip
  have HP := Lib.hid (put1_at w0 b l tn.data.toList _ _ 1 HWS.out HW.out H0.out.size (by have := HL.out; (try simp only [List.length_append] at this); (try simp only [List.length_append]); omega))
  rw [bs_data] at HP
  refine HP.out.mono ?_
  rintro e w1 ha
  have HA1 := Lib.hid (ha.from HB1.out HSZ.out)
  obtain ⟨rfl, _⟩ := ha
  go_wp2_with fail
  go_end0
  exact HA1.out
set_option maxHeartbeats 8000000 in
theorem typ_2 (w0 : World) (tn : ByteArray) (op lo hi : Int) (lw hg : Bool) (ca : Option Addr) (cn cc : Nat) (ext : Bool) (fr : ByteArray) (sa : Option Addr) (sn sc : Nat) (ma : Option Addr) (mn mc : Nat) (pa : Option Addr) (pn pc : Nat) (aa : Option Addr) (an ac : Nat) (ea : Option Addr) (en ec : Nat) (SZ : List UInt8)
    (hbd : ∀ (b : Nat) (l : List UInt8) (w : World), Below w0.heap.size w0 w → Wr w0.heap.size b l w → l.length + SZ.length + 100 ≤ 140737488355328 → Calls Tryz.prog 44 #[.pointer (some ⟨b, 0, none⟩), .agg #[.int .i64 2, .string tn, .int .i64 op, .int .i64 lo, .int .i64 hi, .bool lw, .bool hg, .slice ca cn cc, .bool ext, .string fr, .slice sa sn sc, .slice ma mn mc, .slice pa pn pc, .slice aa an ac, .slice ea en ec], .string (bs [32, 40]), .string (bs [41])] w fun e w' => Adds w0 w b l SZ e w') : Writes w0 26 (.agg #[.int .i64 2, .string tn, .int .i64 op, .int .i64 lo, .int .i64 hi, .bool lw, .bool hg, .slice ca cn cc, .bool ext, .string fr, .slice sa sn sc, .slice ma mn mc, .slice pa pn pc, .slice aa an ac, .slice ea en ec]) ([73, 78, 84, 69, 71, 69, 82] ++ SZ) := by
  intro b l w h0 hw hlen
  have hb1 : Below w.heap.size w (w.alloc (.cells #[.int .i64 2, .string tn, .int .i64 op, .int .i64 lo, .int .i64 hi, .bool lw, .bool hg, .slice ca cn cc, .bool ext, .string fr, .slice sa sn sc, .slice ma mn mc, .slice pa pn pc, .slice aa an ac, .slice ea en ec] 39)) := (Below.refl _ _).alloc (Nat.le_refl _) _
  have HB1 := Lib.hid hb1
  have HX := Lib.hid (Bx.new w #[.int .i64 2, .string tn, .int .i64 op, .int .i64 lo, .int .i64 hi, .bool lw, .bool hg, .slice ca cn cc, .bool ext, .string fr, .slice sa sn sc, .slice ma mn mc, .slice pa pn pc, .slice aa an ac, .slice ea en ec] 39)
  have HW := Lib.hid (hw.below hb1)
  have H0 := Lib.hid (h0.trans (hb1.mono h0.size))
  have HSZ := Lib.hid h0.size
  have HWS := Lib.hid (show (w.alloc (.cells #[.int .i64 2, .string tn, .int .i64 op, .int .i64 lo, .int .i64 hi, .bool lw, .bool hg, .slice ca cn cc, .bool ext, .string fr, .slice sa sn sc, .slice ma mn mc, .slice pa pn pc, .slice aa an ac, .slice ea en ec] 39)).heap.size = w.heap.size + 1 by simp)
  have hgb : w.heap.size ≠ b := by have := hw.lt; omega
  have HL := Lib.hid hlen
  have HBD := Lib.hid hbd
  clear h0 hw hlen hb1 hbd
  go_enter Tryz.func26, Tryz.ntmps26
  go_wp2_with fail
  generalize w.alloc (.cells #[.int .i64 2, .string tn, .int .i64 op, .int .i64 lo, .int .i64 hi, .bool lw, .bool hg, .slice ca cn cc, .bool ext, .string fr, .slice sa sn sc, .slice ma mn mc, .slice pa pn pc, .slice aa an ac, .slice ea en ec] 39) = W at *
  skip
  have HP := Lib.hid (put1_at w0 b l [73, 78, 84, 69, 71, 69, 82] _ _ 1 HWS.out HW.out H0.out.size (by have := HL.out; (try simp only [List.length_append] at this); (try simp only [List.length_append]); omega))
  refine HP.out.mono ?_
  rintro e w1 ha
  have HA1 := Lib.hid ha
  have HBB1 := Lib.hid (H0.out.trans ha.2.2.1)
  have HX1 := Lib.hid (HX.out.kept ha.2.2.2 hgb (by decide))
  obtain ⟨rfl, _⟩ := ha
  go_wp2_with (refine wpList_load_mid rfl 39 (.tmp 3) rfl w.heap.size 0 rfl [.int .i64 2, .string tn, .int .i64 op, .int .i64 lo, .int .i64 hi, .bool lw, .bool hg, .slice ca cn cc, .bool ext, .string fr, .slice sa sn sc, .slice ma mn mc, .slice pa pn pc, .slice aa an ac, .slice ea en ec] _ HX1.out.range Tryz.underlying39 rfl (by kernel_rfl) ?_)
  refine (HBD.out b _ w1 HBB1.out HA1.out.wr (by have := HL.out; (try simp only [List.length_append] at this); (try simp only [List.length_append]); omega)).mono ?_
  rintro e w2 ha
  have HA2 := Lib.hid ((HA1.out.step ha).from HB1.out HSZ.out)
  obtain ⟨rfl, _⟩ := ha
  go_wp2_with fail
  go_end0
  exact HA2.out
set_option maxHeartbeats 8000000 in
theorem typ_5 (w0 : World) (tn : ByteArray) (op lo hi : Int) (lw hg : Bool) (ca : Option Addr) (cn cc : Nat) (ext : Bool) (fr : ByteArray) (sa : Option Addr) (sn sc : Nat) (ma : Option Addr) (mn mc : Nat) (pa : Option Addr) (pn pc : Nat) (aa : Option Addr) (an ac : Nat) (ea : Option Addr) (en ec : Nat) (SZ : List UInt8)
    (hsz : Writes w0 47 (.agg #[.int .i64 5, .string tn, .int .i64 op, .int .i64 lo, .int .i64 hi, .bool lw, .bool hg, .slice ca cn cc, .bool ext, .string fr, .slice sa sn sc, .slice ma mn mc, .slice pa pn pc, .slice aa an ac, .slice ea en ec]) SZ) : Writes w0 26 (.agg #[.int .i64 5, .string tn, .int .i64 op, .int .i64 lo, .int .i64 hi, .bool lw, .bool hg, .slice ca cn cc, .bool ext, .string fr, .slice sa sn sc, .slice ma mn mc, .slice pa pn pc, .slice aa an ac, .slice ea en ec]) ([66, 73, 84, 32, 83, 84, 82, 73, 78, 71] ++ SZ) := by
  intro b l w h0 hw hlen
  have hb1 : Below w.heap.size w (w.alloc (.cells #[.int .i64 5, .string tn, .int .i64 op, .int .i64 lo, .int .i64 hi, .bool lw, .bool hg, .slice ca cn cc, .bool ext, .string fr, .slice sa sn sc, .slice ma mn mc, .slice pa pn pc, .slice aa an ac, .slice ea en ec] 39)) := (Below.refl _ _).alloc (Nat.le_refl _) _
  have HB1 := Lib.hid hb1
  have HX := Lib.hid (Bx.new w #[.int .i64 5, .string tn, .int .i64 op, .int .i64 lo, .int .i64 hi, .bool lw, .bool hg, .slice ca cn cc, .bool ext, .string fr, .slice sa sn sc, .slice ma mn mc, .slice pa pn pc, .slice aa an ac, .slice ea en ec] 39)
  have HW := Lib.hid (hw.below hb1)
  have H0 := Lib.hid (h0.trans (hb1.mono h0.size))
  have HSZ := Lib.hid h0.size
  have HWS := Lib.hid (show (w.alloc (.cells #[.int .i64 5, .string tn, .int .i64 op, .int .i64 lo, .int .i64 hi, .bool lw, .bool hg, .slice ca cn cc, .bool ext, .string fr, .slice sa sn sc, .slice ma mn mc, .slice pa pn pc, .slice aa an ac, .slice ea en ec] 39)).heap.size = w.heap.size + 1 by simp)
  have hgb : w.heap.size ≠ b := by have := hw.lt; omega
  have HL := Lib.hid hlen
  have HSI := Lib.hid hsz
  clear h0 hw hlen hb1 hsz
  go_enter Tryz.func26, Tryz.ntmps26
  go_wp2_with fail
  generalize w.alloc (.cells #[.int .i64 5, .string tn, .int .i64 op, .int .i64 lo, .int .i64 hi, .bool lw, .bool hg, .slice ca cn cc, .bool ext, .string fr, .slice sa sn sc, .slice ma mn mc, .slice pa pn pc, .slice aa an ac, .slice ea en ec] 39) = W at *
  skip
  have HP := Lib.hid (put1_at w0 b l [66, 73, 84, 32, 83, 84, 82, 73, 78, 71] _ _ 1 HWS.out HW.out H0.out.size (by have := HL.out; (try simp only [List.length_append] at this); (try simp only [List.length_append]); omega))
  refine HP.out.mono ?_
  rintro e w1 ha
  have HA1 := Lib.hid ha
  have HBB1 := Lib.hid (H0.out.trans ha.2.2.1)
  have HX1 := Lib.hid (HX.out.kept ha.2.2.2 hgb (by decide))
  obtain ⟨rfl, _⟩ := ha
  go_wp2_with (refine wpList_load_mid rfl 39 (.tmp 3) rfl w.heap.size 0 rfl [.int .i64 5, .string tn, .int .i64 op, .int .i64 lo, .int .i64 hi, .bool lw, .bool hg, .slice ca cn cc, .bool ext, .string fr, .slice sa sn sc, .slice ma mn mc, .slice pa pn pc, .slice aa an ac, .slice ea en ec] _ HX1.out.range Tryz.underlying39 rfl (by kernel_rfl) ?_)
  refine (HSI.out b _ w1 HBB1.out HA1.out.wr (by have := HL.out; (try simp only [List.length_append] at this); (try simp only [List.length_append]); omega)).mono ?_
  rintro e w2 ha
  have HA2 := Lib.hid ((HA1.out.step ha).from HB1.out HSZ.out)
  obtain ⟨rfl, _⟩ := ha
  go_wp2_with fail
  go_end0
  exact HA2.out
set_option maxHeartbeats 8000000 in
theorem typ_6 (w0 : World) (tn : ByteArray) (op lo hi : Int) (lw hg : Bool) (ca : Option Addr) (cn cc : Nat) (ext : Bool) (fr : ByteArray) (sa : Option Addr) (sn sc : Nat) (ma : Option Addr) (mn mc : Nat) (pa : Option Addr) (pn pc : Nat) (aa : Option Addr) (an ac : Nat) (ea : Option Addr) (en ec : Nat) (SZ : List UInt8)
    (hsz : Writes w0 47 (.agg #[.int .i64 6, .string tn, .int .i64 op, .int .i64 lo, .int .i64 hi, .bool lw, .bool hg, .slice ca cn cc, .bool ext, .string fr, .slice sa sn sc, .slice ma mn mc, .slice pa pn pc, .slice aa an ac, .slice ea en ec]) SZ) : Writes w0 26 (.agg #[.int .i64 6, .string tn, .int .i64 op, .int .i64 lo, .int .i64 hi, .bool lw, .bool hg, .slice ca cn cc, .bool ext, .string fr, .slice sa sn sc, .slice ma mn mc, .slice pa pn pc, .slice aa an ac, .slice ea en ec]) ([79, 67, 84, 69, 84, 32, 83, 84, 82, 73, 78, 71] ++ SZ) := by
  intro b l w h0 hw hlen
  have hb1 : Below w.heap.size w (w.alloc (.cells #[.int .i64 6, .string tn, .int .i64 op, .int .i64 lo, .int .i64 hi, .bool lw, .bool hg, .slice ca cn cc, .bool ext, .string fr, .slice sa sn sc, .slice ma mn mc, .slice pa pn pc, .slice aa an ac, .slice ea en ec] 39)) := (Below.refl _ _).alloc (Nat.le_refl _) _
  have HB1 := Lib.hid hb1
  have HX := Lib.hid (Bx.new w #[.int .i64 6, .string tn, .int .i64 op, .int .i64 lo, .int .i64 hi, .bool lw, .bool hg, .slice ca cn cc, .bool ext, .string fr, .slice sa sn sc, .slice ma mn mc, .slice pa pn pc, .slice aa an ac, .slice ea en ec] 39)
  have HW := Lib.hid (hw.below hb1)
  have H0 := Lib.hid (h0.trans (hb1.mono h0.size))
  have HSZ := Lib.hid h0.size
  have HWS := Lib.hid (show (w.alloc (.cells #[.int .i64 6, .string tn, .int .i64 op, .int .i64 lo, .int .i64 hi, .bool lw, .bool hg, .slice ca cn cc, .bool ext, .string fr, .slice sa sn sc, .slice ma mn mc, .slice pa pn pc, .slice aa an ac, .slice ea en ec] 39)).heap.size = w.heap.size + 1 by simp)
  have hgb : w.heap.size ≠ b := by have := hw.lt; omega
  have HL := Lib.hid hlen
  have HSI := Lib.hid hsz
  clear h0 hw hlen hb1 hsz
  go_enter Tryz.func26, Tryz.ntmps26
  go_wp2_with fail
  generalize w.alloc (.cells #[.int .i64 6, .string tn, .int .i64 op, .int .i64 lo, .int .i64 hi, .bool lw, .bool hg, .slice ca cn cc, .bool ext, .string fr, .slice sa sn sc, .slice ma mn mc, .slice pa pn pc, .slice aa an ac, .slice ea en ec] 39) = W at *
  skip
  have HP := Lib.hid (put1_at w0 b l [79, 67, 84, 69, 84, 32, 83, 84, 82, 73, 78, 71] _ _ 1 HWS.out HW.out H0.out.size (by have := HL.out; (try simp only [List.length_append] at this); (try simp only [List.length_append]); omega))
  refine HP.out.mono ?_
  rintro e w1 ha
  have HA1 := Lib.hid ha
  have HBB1 := Lib.hid (H0.out.trans ha.2.2.1)
  have HX1 := Lib.hid (HX.out.kept ha.2.2.2 hgb (by decide))
  obtain ⟨rfl, _⟩ := ha
  go_wp2_with (refine wpList_load_mid rfl 39 (.tmp 3) rfl w.heap.size 0 rfl [.int .i64 6, .string tn, .int .i64 op, .int .i64 lo, .int .i64 hi, .bool lw, .bool hg, .slice ca cn cc, .bool ext, .string fr, .slice sa sn sc, .slice ma mn mc, .slice pa pn pc, .slice aa an ac, .slice ea en ec] _ HX1.out.range Tryz.underlying39 rfl (by kernel_rfl) ?_)
  refine (HSI.out b _ w1 HBB1.out HA1.out.wr (by have := HL.out; (try simp only [List.length_append] at this); (try simp only [List.length_append]); omega)).mono ?_
  rintro e w2 ha
  have HA2 := Lib.hid ((HA1.out.step ha).from HB1.out HSZ.out)
  obtain ⟨rfl, _⟩ := ha
  go_wp2_with fail
  go_end0
  exact HA2.out
end Go.Proofs.YtgmnojnalkhepaaGreatDoor

/-
  Package shape's writer: 'typ' (B).
-/
namespace Go.Proofs.YtgmnojnalkhepaaGreatDoor
open Go.RowKit
set_option linter.unusedVariables false
set_option linter.unusedSimpArgs false
set_option maxRecDepth 100000

set_option maxHeartbeats 8000000 in
theorem typ_3 (w0 : World) (tn : ByteArray) (op lo hi : Int) (lw hg : Bool) (ca : Option Addr) (cn cc : Nat) (ext : Bool) (fr : ByteArray) (sa : Option Addr) (sn sc : Nat) (ma : Option Addr) (mn mc : Nat) (pa : Option Addr) (pn pc : Nat) (aa : Option Addr) (an ac : Nat) (ea : Option Addr) (en ec : Nat) (BR : List UInt8)
    (hbr : ∀ (b : Nat) (l : List UInt8) (w : World), Below w0.heap.size w0 w → Wr w0.heap.size b l w → l.length + BR.length + 100 ≤ 140737488355328 → Calls Tryz.prog 45 #[.pointer (some ⟨b, 0, none⟩), .slice sa sn sc, .bool ext, .slice ma mn mc, .func (.func 46) #[.pointer (some ⟨b, 0, none⟩)] #[]] w fun e w' => Adds w0 w b l BR e w') : Writes w0 26 (.agg #[.int .i64 3, .string tn, .int .i64 op, .int .i64 lo, .int .i64 hi, .bool lw, .bool hg, .slice ca cn cc, .bool ext, .string fr, .slice sa sn sc, .slice ma mn mc, .slice pa pn pc, .slice aa an ac, .slice ea en ec]) ([69, 78, 85, 77, 69, 82, 65, 84, 69, 68, 32] ++ BR) := by
  intro b l w h0 hw hlen
  have hb1 : Below w.heap.size w (w.alloc (.cells #[.int .i64 3, .string tn, .int .i64 op, .int .i64 lo, .int .i64 hi, .bool lw, .bool hg, .slice ca cn cc, .bool ext, .string fr, .slice sa sn sc, .slice ma mn mc, .slice pa pn pc, .slice aa an ac, .slice ea en ec] 39)) := (Below.refl _ _).alloc (Nat.le_refl _) _
  have HB1 := Lib.hid hb1
  have HX := Lib.hid (Bx.new w #[.int .i64 3, .string tn, .int .i64 op, .int .i64 lo, .int .i64 hi, .bool lw, .bool hg, .slice ca cn cc, .bool ext, .string fr, .slice sa sn sc, .slice ma mn mc, .slice pa pn pc, .slice aa an ac, .slice ea en ec] 39)
  have HW := Lib.hid (hw.below hb1)
  have H0 := Lib.hid (h0.trans (hb1.mono h0.size))
  have HSZ := Lib.hid h0.size
  have HWS := Lib.hid (show (w.alloc (.cells #[.int .i64 3, .string tn, .int .i64 op, .int .i64 lo, .int .i64 hi, .bool lw, .bool hg, .slice ca cn cc, .bool ext, .string fr, .slice sa sn sc, .slice ma mn mc, .slice pa pn pc, .slice aa an ac, .slice ea en ec] 39)).heap.size = w.heap.size + 1 by simp)
  have hgb : w.heap.size ≠ b := by have := hw.lt; omega
  have HL := Lib.hid hlen
  have HBR := Lib.hid hbr
  clear h0 hw hlen hb1 hbr
  go_enter Tryz.func26, Tryz.ntmps26
  go_wp2_with fail
  generalize w.alloc (.cells #[.int .i64 3, .string tn, .int .i64 op, .int .i64 lo, .int .i64 hi, .bool lw, .bool hg, .slice ca cn cc, .bool ext, .string fr, .slice sa sn sc, .slice ma mn mc, .slice pa pn pc, .slice aa an ac, .slice ea en ec] 39) = W at *
  skip
  have HP := Lib.hid (put1_at w0 b l [69, 78, 85, 77, 69, 82, 65, 84, 69, 68, 32] _ _ 1 HWS.out HW.out H0.out.size (by have := HL.out; simp only [List.length_append] at this ⊢; omega))
  refine HP.out.mono ?_
  rintro e w1 ha
  have HA1 := Lib.hid ha
  have HBB1 := Lib.hid (H0.out.trans ha.2.2.1)
  have HX1 := Lib.hid (HX.out.kept ha.2.2.2 hgb (by decide))
  have c8 := HX1.out.cell 8 rfl
  have c10 := HX1.out.cell 10 rfl
  have c11 := HX1.out.cell 11 rfl
  obtain ⟨rfl, _⟩ := ha
  go_wp2_with fail
  refine (HBR.out b _ w1 HBB1.out HA1.out.wr (by have := HL.out; simp only [List.length_append] at this ⊢; omega)).mono ?_
  rintro e w2 ha
  have HA2 := Lib.hid ((HA1.out.step ha).from HB1.out HSZ.out)
  obtain ⟨rfl, _⟩ := ha
  go_wp2_with fail
  go_end0
  exact HA2.out
set_option maxHeartbeats 8000000 in
theorem typ_8 (w0 : World) (tn : ByteArray) (op lo hi : Int) (lw hg : Bool) (ca : Option Addr) (cn cc : Nat) (ext : Bool) (fr : ByteArray) (sa : Option Addr) (sn sc : Nat) (ma : Option Addr) (mn mc : Nat) (pa : Option Addr) (pn pc : Nat) (aa : Option Addr) (an ac : Nat) (ea : Option Addr) (en ec : Nat) (BR : List UInt8)
    (hbr : ∀ (b : Nat) (l : List UInt8) (w : World), Below w0.heap.size w0 w → Wr w0.heap.size b l w → l.length + BR.length + 100 ≤ 140737488355328 → Calls Tryz.prog 49 #[.pointer (some ⟨b, 0, none⟩), .slice pa pn pc, .bool ext, .slice aa an ac, .func (.func 50) #[.pointer (some ⟨b, 0, none⟩)] #[]] w fun e w' => Adds w0 w b l BR e w') : Writes w0 26 (.agg #[.int .i64 8, .string tn, .int .i64 op, .int .i64 lo, .int .i64 hi, .bool lw, .bool hg, .slice ca cn cc, .bool ext, .string fr, .slice sa sn sc, .slice ma mn mc, .slice pa pn pc, .slice aa an ac, .slice ea en ec]) ([83, 69, 81, 85, 69, 78, 67, 69, 32] ++ BR) := by
  intro b l w h0 hw hlen
  have hb1 : Below w.heap.size w (w.alloc (.cells #[.int .i64 8, .string tn, .int .i64 op, .int .i64 lo, .int .i64 hi, .bool lw, .bool hg, .slice ca cn cc, .bool ext, .string fr, .slice sa sn sc, .slice ma mn mc, .slice pa pn pc, .slice aa an ac, .slice ea en ec] 39)) := (Below.refl _ _).alloc (Nat.le_refl _) _
  have HB1 := Lib.hid hb1
  have HX := Lib.hid (Bx.new w #[.int .i64 8, .string tn, .int .i64 op, .int .i64 lo, .int .i64 hi, .bool lw, .bool hg, .slice ca cn cc, .bool ext, .string fr, .slice sa sn sc, .slice ma mn mc, .slice pa pn pc, .slice aa an ac, .slice ea en ec] 39)
  have HW := Lib.hid (hw.below hb1)
  have H0 := Lib.hid (h0.trans (hb1.mono h0.size))
  have HSZ := Lib.hid h0.size
  have HWS := Lib.hid (show (w.alloc (.cells #[.int .i64 8, .string tn, .int .i64 op, .int .i64 lo, .int .i64 hi, .bool lw, .bool hg, .slice ca cn cc, .bool ext, .string fr, .slice sa sn sc, .slice ma mn mc, .slice pa pn pc, .slice aa an ac, .slice ea en ec] 39)).heap.size = w.heap.size + 1 by simp)
  have hgb : w.heap.size ≠ b := by have := hw.lt; omega
  have HL := Lib.hid hlen
  have HBR := Lib.hid hbr
  clear h0 hw hlen hb1 hbr
  go_enter Tryz.func26, Tryz.ntmps26
  go_wp2_with fail
  generalize w.alloc (.cells #[.int .i64 8, .string tn, .int .i64 op, .int .i64 lo, .int .i64 hi, .bool lw, .bool hg, .slice ca cn cc, .bool ext, .string fr, .slice sa sn sc, .slice ma mn mc, .slice pa pn pc, .slice aa an ac, .slice ea en ec] 39) = W at *
  skip
  have HP := Lib.hid (put1_at w0 b l [83, 69, 81, 85, 69, 78, 67, 69, 32] _ _ 1 HWS.out HW.out H0.out.size (by have := HL.out; simp only [List.length_append] at this ⊢; omega))
  refine HP.out.mono ?_
  rintro e w1 ha
  have HA1 := Lib.hid ha
  have HBB1 := Lib.hid (H0.out.trans ha.2.2.1)
  have HX1 := Lib.hid (HX.out.kept ha.2.2.2 hgb (by decide))
  have c8 := HX1.out.cell 8 rfl
  have c12 := HX1.out.cell 12 rfl
  have c13 := HX1.out.cell 13 rfl
  obtain ⟨rfl, _⟩ := ha
  go_wp2_with fail
  refine (HBR.out b _ w1 HBB1.out HA1.out.wr (by have := HL.out; simp only [List.length_append] at this ⊢; omega)).mono ?_
  rintro e w2 ha
  have HA2 := Lib.hid ((HA1.out.step ha).from HB1.out HSZ.out)
  obtain ⟨rfl, _⟩ := ha
  go_wp2_with fail
  go_end0
  exact HA2.out
set_option maxHeartbeats 8000000 in
theorem typ_10 (w0 : World) (tn : ByteArray) (op lo hi : Int) (lw hg : Bool) (ca : Option Addr) (cn cc : Nat) (ext : Bool) (fr : ByteArray) (sa : Option Addr) (sn sc : Nat) (ma : Option Addr) (mn mc : Nat) (pa : Option Addr) (pn pc : Nat) (aa : Option Addr) (an ac : Nat) (ea : Option Addr) (en ec : Nat) (BR : List UInt8)
    (hbr : ∀ (b : Nat) (l : List UInt8) (w : World), Below w0.heap.size w0 w → Wr w0.heap.size b l w → l.length + BR.length + 100 ≤ 140737488355328 → Calls Tryz.prog 49 #[.pointer (some ⟨b, 0, none⟩), .slice pa pn pc, .bool ext, .slice aa an ac, .func (.func 50) #[.pointer (some ⟨b, 0, none⟩)] #[]] w fun e w' => Adds w0 w b l BR e w') : Writes w0 26 (.agg #[.int .i64 10, .string tn, .int .i64 op, .int .i64 lo, .int .i64 hi, .bool lw, .bool hg, .slice ca cn cc, .bool ext, .string fr, .slice sa sn sc, .slice ma mn mc, .slice pa pn pc, .slice aa an ac, .slice ea en ec]) ([67, 72, 79, 73, 67, 69, 32] ++ BR) := by
  intro b l w h0 hw hlen
  have hb1 : Below w.heap.size w (w.alloc (.cells #[.int .i64 10, .string tn, .int .i64 op, .int .i64 lo, .int .i64 hi, .bool lw, .bool hg, .slice ca cn cc, .bool ext, .string fr, .slice sa sn sc, .slice ma mn mc, .slice pa pn pc, .slice aa an ac, .slice ea en ec] 39)) := (Below.refl _ _).alloc (Nat.le_refl _) _
  have HB1 := Lib.hid hb1
  have HX := Lib.hid (Bx.new w #[.int .i64 10, .string tn, .int .i64 op, .int .i64 lo, .int .i64 hi, .bool lw, .bool hg, .slice ca cn cc, .bool ext, .string fr, .slice sa sn sc, .slice ma mn mc, .slice pa pn pc, .slice aa an ac, .slice ea en ec] 39)
  have HW := Lib.hid (hw.below hb1)
  have H0 := Lib.hid (h0.trans (hb1.mono h0.size))
  have HSZ := Lib.hid h0.size
  have HWS := Lib.hid (show (w.alloc (.cells #[.int .i64 10, .string tn, .int .i64 op, .int .i64 lo, .int .i64 hi, .bool lw, .bool hg, .slice ca cn cc, .bool ext, .string fr, .slice sa sn sc, .slice ma mn mc, .slice pa pn pc, .slice aa an ac, .slice ea en ec] 39)).heap.size = w.heap.size + 1 by simp)
  have hgb : w.heap.size ≠ b := by have := hw.lt; omega
  have HL := Lib.hid hlen
  have HBR := Lib.hid hbr
  clear h0 hw hlen hb1 hbr
  go_enter Tryz.func26, Tryz.ntmps26
  go_wp2_with fail
  generalize w.alloc (.cells #[.int .i64 10, .string tn, .int .i64 op, .int .i64 lo, .int .i64 hi, .bool lw, .bool hg, .slice ca cn cc, .bool ext, .string fr, .slice sa sn sc, .slice ma mn mc, .slice pa pn pc, .slice aa an ac, .slice ea en ec] 39) = W at *
  skip
  have HP := Lib.hid (put1_at w0 b l [67, 72, 79, 73, 67, 69, 32] _ _ 1 HWS.out HW.out H0.out.size (by have := HL.out; simp only [List.length_append] at this ⊢; omega))
  refine HP.out.mono ?_
  rintro e w1 ha
  have HA1 := Lib.hid ha
  have HBB1 := Lib.hid (H0.out.trans ha.2.2.1)
  have HX1 := Lib.hid (HX.out.kept ha.2.2.2 hgb (by decide))
  have c8 := HX1.out.cell 8 rfl
  have c12 := HX1.out.cell 12 rfl
  have c13 := HX1.out.cell 13 rfl
  obtain ⟨rfl, _⟩ := ha
  go_wp2_with fail
  refine (HBR.out b _ w1 HBB1.out HA1.out.wr (by have := HL.out; simp only [List.length_append] at this ⊢; omega)).mono ?_
  rintro e w2 ha
  have HA2 := Lib.hid ((HA1.out.step ha).from HB1.out HSZ.out)
  obtain ⟨rfl, _⟩ := ha
  go_wp2_with fail
  go_end0
  exact HA2.out
end Go.Proofs.YtgmnojnalkhepaaGreatDoor

/-
  Package shape's writer: 'typ' (C).
-/
namespace Go.Proofs.YtgmnojnalkhepaaGreatDoor
open Go.RowKit
set_option linter.unusedVariables false
set_option linter.unusedSimpArgs false
set_option maxRecDepth 100000

theorem put3_at (w0 : World) (b : Nat) (l t1 t2 t3 : List UInt8) (w : World) (g cap : Nat) (hgw : w.heap.size = g) (hw : Wr w0.heap.size b l w) (hB : w0.heap.size ≤ w.heap.size) (hlen : l.length + (t1 ++ (t2 ++ t3)).length ≤ 140737488355328) :
    Calls Tryz.prog 36 #[.pointer (some ⟨b, 0, none⟩), .slice (some ⟨g, 0, none⟩) 3 cap] (w.alloc (.cells #[.string (bs t1), .string (bs t2), .string (bs t3)] 9)) fun e w' => Adds w0 w b l (t1 ++ (t2 ++ t3)) e w' := by
  subst hgw
  exact put3_ok w0 b l t1 t2 t3 w cap hw hB hlen
set_option maxHeartbeats 8000000 in
theorem typ_7 (w0 : World) (tn : ByteArray) (op lo hi : Int) (lw hg : Bool) (ca : Option Addr) (cn cc : Nat) (ext : Bool) (fr : ByteArray) (sa : Option Addr) (sn sc : Nat) (ma : Option Addr) (mn mc : Nat) (pa : Option Addr) (pn pc : Nat) (aa : Option Addr) (an ac : Nat) (ea : Option Addr) (en ec : Nat) (SZ : List UInt8)
    (hsz : Writes w0 47 (.agg #[.int .i64 7, .string tn, .int .i64 op, .int .i64 lo, .int .i64 hi, .bool lw, .bool hg, .slice ca cn cc, .bool ext, .string fr, .slice sa sn sc, .slice ma mn mc, .slice pa pn pc, .slice aa an ac, .slice ea en ec]) SZ)
    (hgs : Gs w0) (hq : QOk fr) : Writes w0 26 (.agg #[.int .i64 7, .string tn, .int .i64 op, .int .i64 lo, .int .i64 hi, .bool lw, .bool hg, .slice ca cn cc, .bool ext, .string fr, .slice sa sn sc, .slice ma mn mc, .slice pa pn pc, .slice aa an ac, .slice ea en ec]) ([73, 65, 53, 83, 116, 114, 105, 110, 103] ++ ((if fr.size = 0 then [] else [32, 40, 70, 82, 79, 77, 32, 40] ++ (quoT fr ++ [41, 41])) ++ SZ)) := by
  intro b l w h0 hw hlen
  have hb1 : Below w.heap.size w (w.alloc (.cells #[.int .i64 7, .string tn, .int .i64 op, .int .i64 lo, .int .i64 hi, .bool lw, .bool hg, .slice ca cn cc, .bool ext, .string fr, .slice sa sn sc, .slice ma mn mc, .slice pa pn pc, .slice aa an ac, .slice ea en ec] 39)) := (Below.refl _ _).alloc (Nat.le_refl _) _
  have HB1 := Lib.hid hb1
  have HX := Lib.hid (Bx.new w #[.int .i64 7, .string tn, .int .i64 op, .int .i64 lo, .int .i64 hi, .bool lw, .bool hg, .slice ca cn cc, .bool ext, .string fr, .slice sa sn sc, .slice ma mn mc, .slice pa pn pc, .slice aa an ac, .slice ea en ec] 39)
  have HW := Lib.hid (hw.below hb1)
  have H0 := Lib.hid (h0.trans (hb1.mono h0.size))
  have HSZ := Lib.hid h0.size
  have HWS := Lib.hid (show (w.alloc (.cells #[.int .i64 7, .string tn, .int .i64 op, .int .i64 lo, .int .i64 hi, .bool lw, .bool hg, .slice ca cn cc, .bool ext, .string fr, .slice sa sn sc, .slice ma mn mc, .slice pa pn pc, .slice aa an ac, .slice ea en ec] 39)).heap.size = w.heap.size + 1 by simp)
  have hgb : w.heap.size ≠ b := by have := hw.lt; omega
  have HL := Lib.hid hlen
  have HSI := Lib.hid hsz
  have HGS := Lib.hid hgs
  have HQ := Lib.hid hq
  have HE := Lib.hid (empty_size fr)
  clear h0 hw hlen hb1 hsz hgs hq
  by_cases hz : fr.size = 0
  · have q0 : (!fr.toList.isEmpty) = false := by rw [HE.out]; simp [hz]
    rw [if_pos hz] at HL ⊢
    clear hz HE
    go_enter Tryz.func26, Tryz.ntmps26
    go_wp2_with fail
    generalize w.alloc (.cells #[.int .i64 7, .string tn, .int .i64 op, .int .i64 lo, .int .i64 hi, .bool lw, .bool hg, .slice ca cn cc, .bool ext, .string fr, .slice sa sn sc, .slice ma mn mc, .slice pa pn pc, .slice aa an ac, .slice ea en ec] 39) = W at *
    skip
    have HP := Lib.hid (put1_at w0 b l [73, 65, 53, 83, 116, 114, 105, 110, 103] _ _ 1 HWS.out HW.out H0.out.size (by have := HL.out; (try simp only [List.length_append] at this); (try simp only [List.length_append]); omega))
    refine HP.out.mono ?_
    rintro e w1 ha
    have HA1 := Lib.hid ha
    have HBB1 := Lib.hid (H0.out.trans ha.2.2.1)
    have HX1 := Lib.hid (HX.out.kept ha.2.2.2 hgb (by decide))
    have c9 := HX1.out.cell 9 rfl
    obtain ⟨rfl, _⟩ := ha
    go_wp2_with (refine wpList_load_mid rfl 39 (.tmp 3) rfl w.heap.size 0 rfl [.int .i64 7, .string tn, .int .i64 op, .int .i64 lo, .int .i64 hi, .bool lw, .bool hg, .slice ca cn cc, .bool ext, .string fr, .slice sa sn sc, .slice ma mn mc, .slice pa pn pc, .slice aa an ac, .slice ea en ec] _ HX1.out.range Tryz.underlying39 rfl (by kernel_rfl) ?_)
    refine (HSI.out b _ w1 HBB1.out HA1.out.wr (by have := HL.out; (try simp only [List.length_append] at this); (try simp only [List.length_append]); omega)).mono ?_
    rintro e w2 ha
    have HA2 := Lib.hid ((HA1.out.step ha).from HB1.out HSZ.out)
    obtain ⟨rfl, _⟩ := ha
    go_wp2_with fail
    go_end0
    exact HA2.out
  · have q0 : (!fr.toList.isEmpty) = true := by rw [HE.out]; simp [hz]
    rw [if_neg hz] at HL ⊢
    clear hz HE
    go_enter Tryz.func26, Tryz.ntmps26
    go_wp2_with fail
    generalize w.alloc (.cells #[.int .i64 7, .string tn, .int .i64 op, .int .i64 lo, .int .i64 hi, .bool lw, .bool hg, .slice ca cn cc, .bool ext, .string fr, .slice sa sn sc, .slice ma mn mc, .slice pa pn pc, .slice aa an ac, .slice ea en ec] 39) = W at *
    skip
    have HP := Lib.hid (put1_at w0 b l [73, 65, 53, 83, 116, 114, 105, 110, 103] _ _ 1 HWS.out HW.out H0.out.size (by have := HL.out; (try simp only [List.length_append] at this); (try simp only [List.length_append]); omega))
    refine HP.out.mono ?_
    rintro e w1 ha
    have HA1 := Lib.hid ha
    have HBB1 := Lib.hid (H0.out.trans ha.2.2.1)
    have HX1 := Lib.hid (HX.out.kept ha.2.2.2 hgb (by decide))
    have c9 := HX1.out.cell 9 rfl
    obtain ⟨rfl, _⟩ := ha
    go_wp2_with fail
    refine (quoted_ok fr w1 (HGS.out.below HBB1.out) HQ.out.1 HQ.out.2.1 HQ.out.2.2).mono ?_
    rintro e w2 ⟨rfl, hb⟩
    have HB2 := Lib.hid hb
    have HX2 := Lib.hid (HX1.out.below hb HX1.out.lt)
    have HBB2 := Lib.hid (HBB1.out.trans (hb.mono HBB1.out.size))
    clear hb c9
    go_wp2_with fail
    refine (put3_at w0 b _ [32, 40, 70, 82, 79, 77, 32, 40] (quoT fr) [41, 41] w2 _ _ rfl (HA1.out.wr.below HB2.out) HBB2.out.size (by have := HL.out; (try simp only [List.length_append] at this); (try simp only [List.length_append]); omega)).mono ?_
    rintro e w3 ha
    have HA3 := Lib.hid (HA1.out.step (ha.from HB2.out HBB1.out.size))
    have HBB3 := Lib.hid (HBB2.out.trans ha.2.2.1)
    have HX3 := Lib.hid (HX2.out.kept ha.2.2.2 hgb (by decide))
    obtain ⟨rfl, _⟩ := ha
    go_wp2_with (refine wpList_load_mid rfl 39 (.tmp 3) rfl w.heap.size 0 rfl [.int .i64 7, .string tn, .int .i64 op, .int .i64 lo, .int .i64 hi, .bool lw, .bool hg, .slice ca cn cc, .bool ext, .string fr, .slice sa sn sc, .slice ma mn mc, .slice pa pn pc, .slice aa an ac, .slice ea en ec] _ HX3.out.range Tryz.underlying39 rfl (by kernel_rfl) ?_)
    refine (HSI.out b _ w3 HBB3.out HA3.out.wr (by have := HL.out; (try simp only [List.length_append] at this); (try simp only [List.length_append]); omega)).mono ?_
    rintro e w4 ha
    have HA4 := Lib.hid ((HA3.out.step ha).from HB1.out HSZ.out)
    obtain ⟨rfl, _⟩ := ha
    go_wp2_with fail
    go_end0
    have h9 := HA4.out
    rw [List.append_assoc] at h9
    exact h9
set_option maxHeartbeats 8000000 in
theorem typ_9 (w0 : World) (tn : ByteArray) (op lo hi : Int) (lw hg : Bool) (ca : Option Addr) (cn cc : Nat) (ext : Bool) (fr : ByteArray) (sa : Option Addr) (sn sc : Nat) (ma : Option Addr) (mn mc : Nat) (pa : Option Addr) (pn pc : Nat) (aa : Option Addr) (an ac : Nat) (ea : Option Addr) (en ec : Nat) (SZ EL : List UInt8) (et : Nat → TT)
    (hsz : Writes w0 47 (.agg #[.int .i64 9, .string tn, .int .i64 op, .int .i64 lo, .int .i64 hi, .bool lw, .bool hg, .slice ca cn cc, .bool ext, .string fr, .slice sa sn sc, .slice ma mn mc, .slice pa pn pc, .slice aa an ac, .slice ea en ec]) SZ)
    (hen : 0 < en) (her : RowAt w0.heap.size w0 ea en ec 15 (fun i => (et i).cells)) (het : TIn w0.heap.size w0 (et 0)) (hel : Writes w0 26 (et 0).v EL) : Writes w0 26 (.agg #[.int .i64 9, .string tn, .int .i64 op, .int .i64 lo, .int .i64 hi, .bool lw, .bool hg, .slice ca cn cc, .bool ext, .string fr, .slice sa sn sc, .slice ma mn mc, .slice pa pn pc, .slice aa an ac, .slice ea en ec]) ([83, 69, 81, 85, 69, 78, 67, 69] ++ (SZ ++ ([32, 79, 70, 32] ++ EL))) := by
  intro b l w h0 hw hlen
  have hb1 : Below w.heap.size w (w.alloc (.cells #[.int .i64 9, .string tn, .int .i64 op, .int .i64 lo, .int .i64 hi, .bool lw, .bool hg, .slice ca cn cc, .bool ext, .string fr, .slice sa sn sc, .slice ma mn mc, .slice pa pn pc, .slice aa an ac, .slice ea en ec] 39)) := (Below.refl _ _).alloc (Nat.le_refl _) _
  have HB1 := Lib.hid hb1
  have HX := Lib.hid (Bx.new w #[.int .i64 9, .string tn, .int .i64 op, .int .i64 lo, .int .i64 hi, .bool lw, .bool hg, .slice ca cn cc, .bool ext, .string fr, .slice sa sn sc, .slice ma mn mc, .slice pa pn pc, .slice aa an ac, .slice ea en ec] 39)
  have HW := Lib.hid (hw.below hb1)
  have H0 := Lib.hid (h0.trans (hb1.mono h0.size))
  have HSZ := Lib.hid h0.size
  have HWS := Lib.hid (show (w.alloc (.cells #[.int .i64 9, .string tn, .int .i64 op, .int .i64 lo, .int .i64 hi, .bool lw, .bool hg, .slice ca cn cc, .bool ext, .string fr, .slice sa sn sc, .slice ma mn mc, .slice pa pn pc, .slice aa an ac, .slice ea en ec] 39)).heap.size = w.heap.size + 1 by simp)
  have hgb : w.heap.size ≠ b := by have := hw.lt; omega
  have HL := Lib.hid hlen
  have HSI := Lib.hid hsz
  have HEL := Lib.hid hel
  have HER := Lib.hid her
  have HET := Lib.hid het
  clear h0 hw hlen hb1 hsz hel her het
  go_enter Tryz.func26, Tryz.ntmps26
  go_wp2_with fail
  generalize w.alloc (.cells #[.int .i64 9, .string tn, .int .i64 op, .int .i64 lo, .int .i64 hi, .bool lw, .bool hg, .slice ca cn cc, .bool ext, .string fr, .slice sa sn sc, .slice ma mn mc, .slice pa pn pc, .slice aa an ac, .slice ea en ec] 39) = W at *
  skip
  have HP := Lib.hid (put1_at w0 b l [83, 69, 81, 85, 69, 78, 67, 69] _ _ 1 HWS.out HW.out H0.out.size (by have := HL.out; (try simp only [List.length_append] at this); (try simp only [List.length_append]); omega))
  refine HP.out.mono ?_
  rintro e w1 ha
  have HA1 := Lib.hid ha
  have HBB1 := Lib.hid (H0.out.trans ha.2.2.1)
  have HX1 := Lib.hid (HX.out.kept ha.2.2.2 hgb (by decide))
  obtain ⟨rfl, _⟩ := ha
  go_wp2_with (refine wpList_load_mid rfl 39 (.tmp 3) rfl w.heap.size 0 rfl [.int .i64 9, .string tn, .int .i64 op, .int .i64 lo, .int .i64 hi, .bool lw, .bool hg, .slice ca cn cc, .bool ext, .string fr, .slice sa sn sc, .slice ma mn mc, .slice pa pn pc, .slice aa an ac, .slice ea en ec] _ HX1.out.range Tryz.underlying39 rfl (by kernel_rfl) ?_)
  refine (HSI.out b _ w1 HBB1.out HA1.out.wr (by have := HL.out; (try simp only [List.length_append] at this); (try simp only [List.length_append]); omega)).mono ?_
  rintro e w2 ha
  have HA2 := Lib.hid (HA1.out.step ha)
  have HBB2 := Lib.hid (HBB1.out.trans ha.2.2.1)
  have HX2 := Lib.hid (HX1.out.kept ha.2.2.2 hgb (by decide))
  obtain ⟨rfl, _⟩ := ha
  go_wp2_with fail
  refine (put1_at w0 b _ [32, 79, 70, 32] w2 _ _ rfl HA2.out.wr HBB2.out.size (by have := HL.out; (try simp only [List.length_append] at this); (try simp only [List.length_append]); omega)).mono ?_
  rintro e w3 ha
  have HA3 := Lib.hid (HA2.out.step ha)
  have HBB3 := Lib.hid (HBB2.out.trans ha.2.2.1)
  have HX3 := Lib.hid (HX2.out.kept ha.2.2.2 hgb (by decide))
  have c14 := HX3.out.cell 14 rfl
  obtain ⟨rfl, _⟩ := ha
  obtain ⟨gx, ox, hix, hgx, hrd⟩ := tRow_read HER.out hen
  have HR := Lib.hid (hrd w3 (HBB3.out.block gx hgx))
  have H1 := Lib.hid (one_tcells HET.out)
  have hix0 : ∀ w, (Instr.indexAt 37 (.slice ea en ec) (.int .i64 0)).run Tryz.prog w = .ok (.pointer (some ⟨gx, ox, none⟩)) w := hix
  go_wp2_with (refine wpList_load_mid rfl 39 (.tmp 116) rfl gx ox rfl (et 0).cells _ HR.out Tryz.underlying39 rfl (by rw [info_T, H1.out.1]) ?_)
  refine (HEL.out b _ w3 HBB3.out HA3.out.wr (by have := HL.out; (try simp only [List.length_append] at this); (try simp only [List.length_append]); omega)).mono ?_
  rintro e w4 ha
  have HA4 := Lib.hid ((HA3.out.step ha).from HB1.out HSZ.out)
  obtain ⟨rfl, _⟩ := ha
  go_wp2_with fail
  go_end0
  have h9 := HA4.out
  rw [List.append_assoc, List.append_assoc] at h9
  exact h9
end Go.Proofs.YtgmnojnalkhepaaGreatDoor

/-
  Package shape's writer: 'typ'.
-/
namespace Go.Proofs.YtgmnojnalkhepaaGreatDoor
open Go.RowKit
set_option linter.unusedVariables false
set_option linter.unusedSimpArgs false
set_option maxRecDepth 100000


/-- a type's text -/
def TT.txt : TT → List UInt8
  | .nil => []
  | .mk kd tn con ext fr nm mo pa pt ad at_ ea en ec et =>
    if kd = 1 then [66, 79, 79, 76, 69, 65, 78]
    else if kd = 2 then [73, 78, 84, 69, 71, 69, 82] ++ bndT con ext [32, 40] [41]
    else if kd = 3 then [69, 78, 85, 77, 69, 82, 65, 84, 69, 68, 32] ++ braT (fun i => (nm.f i).data.toList) nm.n ext (fun i => (mo.f i).data.toList) mo.n
    else if kd = 4 then [78, 85, 76, 76]
    else if kd = 5 then [66, 73, 84, 32, 83, 84, 82, 73, 78, 71] ++ bndT con ext szB szC
    else if kd = 6 then [79, 67, 84, 69, 84, 32, 83, 84, 82, 73, 78, 71] ++ bndT con ext szB szC
    else if kd = 7 then [73, 65, 53, 83, 116, 114, 105, 110, 103] ++ ((if fr.size = 0 then [] else [32, 40, 70, 82, 79, 77, 32, 40] ++ (quoT fr ++ [41, 41])) ++ bndT con ext szB szC)
    else if kd = 8 then [83, 69, 81, 85, 69, 78, 67, 69, 32] ++ braT (fun i => partT (pa.f i) (pt i).txt) pa.n ext (fun i => partT (ad.f i) (at_ i).txt) ad.n
    else if kd = 9 then [83, 69, 81, 85, 69, 78, 67, 69] ++ (bndT con ext szB szC ++ ([32, 79, 70, 32] ++ (et 0).txt))
    else if kd = 10 then [67, 72, 79, 73, 67, 69, 32] ++ braT (fun i => partT (pa.f i) (pt i).txt) pa.n ext (fun i => partT (ad.f i) (at_ i).txt) ad.n
    else if kd = 11 then tn.data.toList
    else []
/-- what a type must be that its text may be written -/
def TQ : TT → Prop
  | .nil => False
  | .mk kd tn con ext fr nm mo pa pt ad at_ ea en ec et =>
    (1 ≤ kd ∧ kd ≤ 11) ∧ (kd = 7 → QOk fr) ∧ (kd = 9 → 0 < en) ∧ (∀ i, i < pa.n → (∀ j, j < (pa.f i).d.n → VQ ((pa.f i).d.f j)) ∧ TQ (pt i)) ∧ (∀ i, i < ad.n → (∀ j, j < (ad.f i).d.n → VQ ((ad.f i).d.f j)) ∧ TQ (at_ i)) ∧ (∀ i, i < en → TQ (et i))
theorem enters_name : Enters Tryz.prog 46 := enters_of Tryz.func46 (by kernel_rfl) rfl
theorem enters_part : Enters Tryz.prog 50 := enters_of Tryz.func50 (by kernel_rfl) rfl
set_option maxHeartbeats 4000000 in
theorem typ_ok (w0 : World) (hgs : Gs w0) : ∀ (t : TT), TIn w0.heap.size w0 t → TQ t → Writes w0 26 t.v t.txt
  | .nil, h, _ => h.elim
  | .mk kd tn .nil ext fr nm mo pa pt ad at_ ea en ec et, h, _ => h.1.2.2.1.elim
  | .mk kd tn (.mk op lo hi lw hg ca cn cc cch) ext fr ⟨sa, sn, sc, sf⟩ ⟨ma, mn, mc, mf⟩ ⟨pa, pn, pc, pf⟩ ptf ⟨aa, an, ac, af⟩ atf ea en ec etf, h, hq => by
    obtain ⟨⟨hk, htn, hcon, hfr, hnm, hmo⟩, ⟨hpr, hp⟩, ⟨har, ha⟩, ⟨her, he⟩⟩ := h
    obtain ⟨q1, q7, q9, qp, qa, qe⟩ := hq
    have WP := fun i (hi : i < pn) => part_ok w0 hgs (pf i) (ptf i) (hp i hi).1 (hp i hi).2 (qp i hi).1 (ptf i).txt (typ_ok w0 hgs (ptf i) (hp i hi).2 (qp i hi).2)
    have WA := fun i (hi : i < an) => part_ok w0 hgs (af i) (atf i) (ha i hi).1 (ha i hi).2 (qa i hi).1 (atf i).txt (typ_ok w0 hgs (atf i) (ha i hi).2 (qa i hi).2)
    have WE := fun i (hi : i < en) => typ_ok w0 hgs (etf i) (he i hi) (qe i hi)
    have WS := fun k => size_ok w0 hgs k tn op lo hi lw hg ca cn cc cch ext fr sa sn sc ma mn mc pa pn pc aa an ac ea en ec hcon
    have BN := bracedS_ok w0 sa sn sc sf ext ma mn mc mf 46 (fun i => (sf i).data.toList) (fun i => (mf i).data.toList) enters_name hnm.1 hmo.1 (fun i _ => name_ok w0 (sf i)) (fun i _ => name_ok w0 (mf i))
    have BP := bracedP_ok w0 pa pn pc pf ptf ext aa an ac af atf 50 (fun i => partT (pf i) (ptf i).txt) (fun i => partT (af i) (atf i).txt) enters_part hpr har (fun i hi => (hp i hi).2) (fun i hi => (ha i hi).2) WP WA
    have hcase : kd = 1 ∨ kd = 2 ∨ kd = 3 ∨ kd = 4 ∨ kd = 5 ∨ kd = 6 ∨ kd = 7 ∨ kd = 8 ∨ kd = 9 ∨ kd = 10 ∨ kd = 11 := by omega
    rcases hcase with rfl | rfl | rfl | rfl | rfl | rfl | rfl | rfl | rfl | rfl | rfl
    · rw [TT.txt, if_pos rfl]
      exact typ_1 w0 tn op lo hi lw hg ca cn cc ext fr sa sn sc ma mn mc pa pn pc aa an ac ea en ec
    · rw [TT.txt, if_neg (by decide), if_pos rfl]
      exact typ_2 w0 tn op lo hi lw hg ca cn cc ext fr sa sn sc ma mn mc pa pn pc aa an ac ea en ec _ (fun b l w h0 hw hl => bounds_ok w0 hgs 2 tn op lo hi lw hg ca cn cc cch ext fr sa sn sc ma mn mc pa pn pc aa an ac ea en ec hcon [32, 40] [41] b l w h0 hw hl)
    · rw [TT.txt, if_neg (by decide), if_neg (by decide), if_pos rfl]
      exact typ_3 w0 tn op lo hi lw hg ca cn cc ext fr sa sn sc ma mn mc pa pn pc aa an ac ea en ec _ BN
    · rw [TT.txt, if_neg (by decide), if_neg (by decide), if_neg (by decide), if_pos rfl]
      exact typ_4 w0 tn op lo hi lw hg ca cn cc ext fr sa sn sc ma mn mc pa pn pc aa an ac ea en ec
    · rw [TT.txt, if_neg (by decide), if_neg (by decide), if_neg (by decide), if_neg (by decide), if_pos rfl]
      exact typ_5 w0 tn op lo hi lw hg ca cn cc ext fr sa sn sc ma mn mc pa pn pc aa an ac ea en ec _ (WS 5)
    · rw [TT.txt, if_neg (by decide), if_neg (by decide), if_neg (by decide), if_neg (by decide), if_neg (by decide), if_pos rfl]
      exact typ_6 w0 tn op lo hi lw hg ca cn cc ext fr sa sn sc ma mn mc pa pn pc aa an ac ea en ec _ (WS 6)
    · rw [TT.txt, if_neg (by decide), if_neg (by decide), if_neg (by decide), if_neg (by decide), if_neg (by decide), if_neg (by decide), if_pos rfl]
      exact typ_7 w0 tn op lo hi lw hg ca cn cc ext fr sa sn sc ma mn mc pa pn pc aa an ac ea en ec _ (WS 7) hgs (q7 rfl)
    · rw [TT.txt, if_neg (by decide), if_neg (by decide), if_neg (by decide), if_neg (by decide), if_neg (by decide), if_neg (by decide), if_neg (by decide), if_pos rfl]
      exact typ_8 w0 tn op lo hi lw hg ca cn cc ext fr sa sn sc ma mn mc pa pn pc aa an ac ea en ec _ BP
    · rw [TT.txt, if_neg (by decide), if_neg (by decide), if_neg (by decide), if_neg (by decide), if_neg (by decide), if_neg (by decide), if_neg (by decide), if_neg (by decide), if_pos rfl]
      exact typ_9 w0 tn op lo hi lw hg ca cn cc ext fr sa sn sc ma mn mc pa pn pc aa an ac ea en ec _ _ etf (WS 9) (q9 rfl) her (he 0 (q9 rfl)) (WE 0 (q9 rfl))
    · rw [TT.txt, if_neg (by decide), if_neg (by decide), if_neg (by decide), if_neg (by decide), if_neg (by decide), if_neg (by decide), if_neg (by decide), if_neg (by decide), if_neg (by decide), if_pos rfl]
      exact typ_10 w0 tn op lo hi lw hg ca cn cc ext fr sa sn sc ma mn mc pa pn pc aa an ac ea en ec _ BP
    · rw [TT.txt, if_neg (by decide), if_neg (by decide), if_neg (by decide), if_neg (by decide), if_neg (by decide), if_neg (by decide), if_neg (by decide), if_neg (by decide), if_neg (by decide), if_neg (by decide), if_pos rfl]
      exact typ_11 w0 tn op lo hi lw hg ca cn cc ext fr sa sn sc ma mn mc pa pn pc aa an ac ea en ec
end Go.Proofs.YtgmnojnalkhepaaGreatDoor
