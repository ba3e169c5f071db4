/-
  A bundle of texts, one behind the other: ShY6, ShY7.
-/
import Derived.Test.YtgmnojnalkhepaaGreatDoorJV
import Derived.Test.YtgmnojnalkhepaaGreatDoorJW
import Derived.Test.YtgmnojnalkhepaaGreatDoorJP
import Derived.Test.YtgmnojnalkhepaaGreatDoorJU
/-
  The document's whether a size, parts are well-formed: 'sized', 'parts'.
-/
namespace Go.Proofs.YtgmnojnalkhepaaGreatDoor
open Go.RowKit
set_option linter.unusedVariables false
set_option linter.unusedSimpArgs false
set_option maxRecDepth 100000

theorem range_con {B : Nat} {W w : World} {g : Nat} {t : TT} {c : CT} {ty : TypeId} (hin : TIn B W t) (hc : ∀ kd tn con ext fr nm mo pa pt ad at_ ea en ec et, t = .mk kd tn con ext fr nm mo pa pt ad at_ ea en ec et → con = c) (h : Bx w g t.cells.toArray ty) : w.rangeAt g 2 c.cells := by
  obtain ⟨kd, tn, op, lo, hi, lw, hg, ca, cn, cc, cch, ext, fr, sa, sn, sc, sf, ma, mn, mc, mf, pa, pn, pc, pf, ptf, aa, an, ac, af, atf, ea, en, ec, etf, rfl⟩ := hin.open
  obtain rfl := hc _ _ _ _ _ _ _ _ _ _ _ _ _ _ _ rfl
  intro j v hv
  refine h.cell (2 + j) ?_
  rw [List.getElem?_toArray]
  match j, hv with
  | 0, hv => exact hv
  | 1, hv => exact hv
  | 2, hv => exact hv
  | 3, hv => exact hv
  | 4, hv => exact hv
  | 5, hv => exact hv
  | n + 6, hv => simp [CT.cells] at hv
theorem info_C : (Tryz.prog.info? 34).map (·.size) = some 6 := by kernel_rfl
set_option maxHeartbeats 8000000 in
theorem rsized_ok (t : TT) (c : CT) (ext : Bool) (B : Nat) (w : World) (hin : TIn B w t) (hB : B ≤ w.heap.size) (hc : ∀ kd tn con ext fr nm mo pa pt ad at_ ea en ec et, t = .mk kd tn con ext fr nm mo pa pt ad at_ ea en ec et → con = c)
    (h2 : t.cells[2]? = some (.int .i64 c.op)) (h8 : t.cells[8]? = some (.bool ext)) :
    Calls Tryz.prog 68 #[.agg t.cells.toArray] w fun e w' => e = .returned (.bool (c.ok 40 && !(ext && decide (c.op = 0)))) ∧ Below w.heap.size w w' := by
  have hci : CIn B w c := by
    obtain ⟨kd, tn, op, lo, hi, lw, hg, ca, cn, cc, cch, ext, fr, sa, sn, sc, sf, ma, mn, mc, mf, pa, pn, pc, pf, ptf, aa, an, ac, af, atf, ea, en, ec, etf, rfl⟩ := hin.open
    obtain rfl := hc _ _ _ _ _ _ _ _ _ _ _ _ _ _ _ rfl
    exact hin.1.2.2.1
  have HX := Lib.hid (Bx.new w t.cells.toArray 39)
  have HB0 := Lib.hid ((Below.refl w.heap.size w).alloc (Nat.le_refl _) (.cells t.cells.toArray 39))
  have HRC := Lib.hid (range_con hin hc HX.out)
  have HLC := Lib.hid (show c.cells.length = 6 by obtain ⟨op, lo, hi, lw, hg, ca, cn, cc, cch, rfl⟩ := hci.open; rfl)
  have HC := Lib.hid (rCon_ok c B (w.alloc (.cells t.cells.toArray 39)) (hci.below (HB0.out.mono hB) (Nat.le_refl _)) (Nat.le_trans hB HB0.out.size))
  obtain ⟨k, hk⟩ : ∃ k, c.ok 40 = k := ⟨_, rfl⟩
  rw [hk] at HC ⊢
  obtain ⟨op, hop⟩ : ∃ op, c.op = op := ⟨_, rfl⟩
  rw [hop] at h2 ⊢
  obtain ⟨z, hz⟩ : ∃ z, decide (op = 0) = z := ⟨_, rfl⟩
  rw [hz]
  have p0 : (op == 0) = z := by rw [← hz]; by_cases e : op = 0 <;> simp [e]
  have H2 := Lib.hid h2
  have H8 := Lib.hid h8
  clear hin hB hc hci h2 h8 hk hop hz
  go_enter Tryz.func68, Tryz.ntmps68
  go_wp2_with (refine wpList_load_mid rfl 34 (.tmp 3) rfl w.heap.size 2 rfl c.cells _ HRC.out Tryz.underlying34 rfl (by rw [info_C, HLC.out]) ?_)
  refine HC.out.mono ?_
  rintro e w1 ⟨rfl, hb⟩
  have HB1 := Lib.hid (HB0.out.trans (hb.mono HB0.out.size))
  have HX1 := Lib.hid (HX.out.below hb HX.out.lt)
  have d2 : w1.cell? ⟨w.heap.size, 2, none⟩ = some (.int .i64 op) := HX1.out.cell 2 (by rw [List.getElem?_toArray]; exact H2.out)
  have d8 : w1.cell? ⟨w.heap.size, 8, none⟩ = some (.bool ext) := HX1.out.cell 8 (by rw [List.getElem?_toArray]; exact H8.out)
  clear hb HC HX HRC
  cases k with
  | false =>
    go_wp2_with fail
    go_ret
    exact ⟨rfl, HB1.out⟩
  | true =>
    cases ext with
    | false =>
      go_wp2_with fail
      go_ret
      exact ⟨rfl, HB1.out⟩
    | true =>
      go_wp2_with fail
      go_ret
      exact ⟨by cases z <;> rfl, HB1.out⟩
theorem info_V : (Tryz.prog.info? 44).map (·.size) = some 5 := by kernel_rfl
theorem pcell16 {B : Nat} {W W' : World} {p : PD} {t : TT} {g : Nat} {ty : TypeId} (h : TIn B W t) (hb : Bx W' g (pcells p t).toArray ty) : W'.cell? ⟨g, 16, none⟩ = some (.bool p.opt) := by
  obtain ⟨kd, tn, op, lo, hi, lw, hg, ca, cn, cc, cch, ext, fr, sa, sn, sc, sf, ma, mn, mc, mf, pa, pn, pc, pf, ptf, aa, an, ac, af, atf, ea, en, ec, etf, rfl⟩ := h.open
  exact hb.cell 16 rfl
/-- a part is well-formed, as the document says it -/
def prtOk (ch : Bool) (p : PD) (t : Bool) : Bool := lowd p.name && (t && (!(p.opt && decide (0 < p.d.n)) && (decide (p.d.n ≤ 1) && (!(ch && (p.opt || decide (0 < p.d.n))) && (decide (p.d.n ≠ 1) || (p.d.f 0).dflt)))))
theorem prtOk_eq (ch : Bool) (p : PD) (t : Bool) : prtOk ch p t = if ch = true then altOk p t else compOk p t := by
  obtain ⟨qn, qo, ⟨qa, qk, qc, qf⟩⟩ := p
  unfold prtOk altOk compOk
  simp only
  match qk with
  | 0 => cases ch <;> cases qo <;> simp [allN]
  | 1 => cases ch <;> cases qo <;> simp [allN]
  | n + 2 => cases ch <;> cases qo <;> simp
def RelPa (w : World) (n : Nat) (p : Nat → Bool) (iv : Value) (wr : World) : Prop := ∃ i : Nat, i ≤ n ∧ iv = .int .i64 (i : Nat) ∧ allN p i = true ∧ Below w.heap.size w wr
set_option maxHeartbeats 16000000 in
theorem rparts_ok (B : Nat) (w : World) (a : Option Addr) (n cap : Nat) (pf : Nat → PD) (pt : Nat → TT) (ch : Bool) (dp : Int) (tv : Nat → Bool) (hB : B ≤ w.heap.size)
    (hrow : RowAt B w a n cap 18 (fun i => pcells (pf i) (pt i))) (hp : ∀ i, i < n → PDIn B w (pf i) ∧ TIn B w (pt i))
    (hrec : ∀ i, i < n → ∀ w' : World, Below w.heap.size w w' → Calls Tryz.prog 35 #[.agg (pt i).cells.toArray, .int .i64 dp] w' fun e w'' => e = .returned (.bool (tv i)) ∧ Below w'.heap.size w' w'') :
    Calls Tryz.prog 71 #[.slice a n cap, .bool ch, .int .i64 dp] w fun e w' => e = .returned (.bool (fewOk (fun i => prtOk ch (pf i) (tv i)) n)) ∧ Below w.heap.size w w' := by
  obtain ⟨p, hpp⟩ : ∃ p, (fun i => prtOk ch (pf i) (tv i)) = p := ⟨_, rfl⟩
  have HPP := Lib.hid (show ∀ i, p i = prtOk ch (pf i) (tv i) from fun i => by rw [← hpp])
  rw [hpp]
  have HB0 := Lib.hid (Below.refl w.heap.size w)
  have hn : n ≤ 9223372036854775807 := by have h1 := hrow.1; have h2 := hrow.2.1; omega
  have HROW := Lib.hid hrow
  have HP := Lib.hid hp
  have HREC := Lib.hid hrec
  have HBB := Lib.hid hB
  clear hrow hp hrec hB hpp
  unfold fewOk
  by_cases h256 : n ≤ 256
  rotate_left
  · have q0 : decide ((256 : Int) < (n : Int)) = true := decide_eq_true (by omega)
    have q0n : decide (256 < n) = true := decide_eq_true (by omega)
    rw [decide_eq_false h256, Bool.false_and]
    clear h256
    go_enter Tryz.func71, Tryz.ntmps71
    go_wp2_with fail
    go_ret
    exact ⟨rfl, HB0.out⟩
  have q0 : decide ((256 : Int) < (n : Int)) = false := decide_eq_false (by omega)
  have q0n : decide (256 < n) = false := decide_eq_false (by omega)
  rw [decide_eq_true h256, Bool.true_and]
  obtain ⟨res, hr⟩ : ∃ res, allN p n = res := ⟨_, rfl⟩
  rw [hr]
  have HRES := Lib.hid hr
  clear h256 hr
  go_enter Tryz.func71, Tryz.ntmps71
  go_wp2_with fail
  clear q0 q0n
  go_loopw [7] (fun iv wr => RelPa w n p iv wr) (fun iv _ => n - (Lib.intOf iv).toNat)
  case atStart => exact ⟨0, Nat.zero_le _, rfl, rfl, HB0.out⟩
  case round =>
    obtain ⟨i, hi, rfl, hall, hbel⟩ := hrel
    have HB := Lib.hid hbel
    have HA := Lib.hid hall
    have hsz := hbel.size
    clear hbel hall
    by_cases hlt : i < n
    · have q1 : decide ((i : Int) < (n : Int)) = true := decide_eq_true (by omega)
      have q1n : decide (i < n) = true := decide_eq_true hlt
      have q3 : IntKind.i64.wrap ((i : Int) + 1) = ((i + 1 : Nat) : Int) := wrap_succ hlt hn
      obtain ⟨gx, ox, hix, hgx, hrd⟩ := pRow_read HROW.out hlt
      have HR := Lib.hid (hrd wr (HB.out.block gx (by have := HBB.out; omega)))
      have hti := (HP.out i hlt).2
      have HONE := Lib.hid (one_tcells hti)
      have HPN := Lib.hid (fun (p : PD) => (one_pcells (p := p) hti).1)
      have HPO := Lib.hid (fun (p : PD) => (one_pcells (p := p) hti).2)
      have HTI := Lib.hid (hti.below (HB.out.mono HBB.out) (Nat.le_refl _))
      have HPI := Lib.hid ((HP.out i hlt).1.below (HB.out.mono HBB.out) (Nat.le_refl _))
      have HCR := Lib.hid (HREC.out i hlt)
      have HPV := Lib.hid (HPP.out i)
      obtain ⟨T, hT⟩ : ∃ T, pt i = T := ⟨_, rfl⟩
      obtain ⟨v, hv⟩ : ∃ v, tv i = v := ⟨_, rfl⟩
      obtain ⟨⟨qn, qo, ⟨qa, qk, qc, qf⟩⟩, hq⟩ : ∃ q : PD, pf i = q := ⟨_, rfl⟩
      rw [hT] at HR HONE HPN HPO HTI HCR
      rw [hq] at HR HPI HPV
      rw [hv] at HPV HCR
      clear hrd hti hT hv hq
      have HL := Lib.hid (fun w => rlower_ok qn w HPI.out.1)
      have HRES2 := Lib.hid (show p i = (lowd qn && (v && (!(qo && decide (0 < qk)) && (decide (qk ≤ 1) && (!(ch && (qo || decide (0 < qk))) && (decide (qk ≠ 1) || (qf 0).dflt)))))) from HPV.out)
      obtain ⟨lq, hlq⟩ : ∃ l, lowd qn = l := ⟨_, rfl⟩
      rw [show (isWd qn && isLo (tAt (cods qn) 0)) = lq from hlq] at HL
      rw [hlq] at HRES2
      clear hlq HPV
      go_wp2_with (first | (refine wpList_load_mid rfl 42 (.tmp 20) rfl gx ox rfl (pcells ⟨qn, qo, ⟨qa, qk, qc, qf⟩⟩ T) _ HR.out Tryz.underlying42 rfl (by rw [info_P, HPN.out]) ?_) | (refine wpList_store_new rfl 42 (.tmp 8) (.tmp 21) rfl 18 _ (pcells ⟨qn, qo, ⟨qa, qk, qc, qf⟩⟩ T) (HPN.out _) rfl info_P (HPO.out _) rfl rfl ?_; have HX := Lib.hid (Bx.new wr (pcells ⟨qn, qo, ⟨qa, qk, qc, qf⟩⟩ T).toArray 42); have c0 := HX.out.cell 0 (show (pcells ⟨qn, qo, ⟨qa, qk, qc, qf⟩⟩ T).toArray[0]? = some (.string qn) from rfl)))
      have HB1 := Lib.hid (HB.out.alloc hsz (.cells (pcells ⟨qn, qo, ⟨qa, qk, qc, qf⟩⟩ T).toArray 42))
      have HBw := Lib.hid ((Below.refl wr.heap.size wr).alloc (Nat.le_refl _) (.cells (pcells ⟨qn, qo, ⟨qa, qk, qc, qf⟩⟩ T).toArray 42))
      generalize wr.alloc (.cells (pcells ⟨qn, qo, ⟨qa, qk, qc, qf⟩⟩ T).toArray 42) = W1 at *
      refine (HL.out _).mono ?_
      rintro e W2 ⟨rfl, rfl⟩
      clear c0 HL
      have DONE : ∀ b : Bool, p i = b → b = false → res = false := fun b h1 h2 => by rw [← HRES.out]; exact allN_no (f := p) hlt (h1.trans h2)
      have HDONE := Lib.hid DONE
      clear DONE
      cases lq with
      | false =>
        obtain rfl : res = false := HDONE.out _ HRES2.out (by rfl)
        clear HDONE HRES2
        go_wp2_with fail
        go_ret
        exact ⟨rfl, HB1.out⟩
      | true =>
        go_wp2_with (refine wpList_load_midG (by rfl) 39 (.tmp 27) rfl wr.heap.size 1 rfl T.cells _ HX.out.rangeP Tryz.underlying39 rfl (by rw [info_T, HONE.out.1]) ?_)
        refine (HCR.out _ HB1.out).mono ?_
        rintro e W3 ⟨rfl, hb⟩
        have HB3 := Lib.hid (HB1.out.trans (hb.mono HB1.out.size))
        have HX3 := Lib.hid (HX.out.below hb HX.out.lt)
        have HBw3 := Lib.hid (HBw.out.trans (hb.mono HBw.out.size))
        clear hb HX HB1 HCR HBw
        have c16 : W3.cell? ⟨wr.heap.size, 16, none⟩ = some (.bool qo) := pcell16 HTI.out HX3.out
        have c17 : W3.cell? ⟨wr.heap.size, 17, none⟩ = some (.slice qa qk qc) := pcell17 HTI.out HX3.out
        cases v with
        | false =>
          obtain rfl : res = false := HDONE.out _ HRES2.out (by rfl)
          clear HDONE HRES2
          go_wp2_with fail
          go_ret
          exact ⟨rfl, HB3.out⟩
        | true =>
          by_cases h0 : 0 < qk
          · have q4 : decide ((0 : Int) < (qk : Int)) = true := decide_eq_true (by omega)
            have q4n : decide (0 < qk) = true := decide_eq_true h0
            cases qo with
            | true =>
              obtain rfl : res = false := HDONE.out _ HRES2.out (by rw [q4n]; rfl)
              clear HDONE HRES2
              go_wp2_with fail
              go_ret
              exact ⟨rfl, HB3.out⟩
            | false =>
              by_cases h1 : qk ≤ 1
              rotate_left
              · have q5 : decide ((1 : Int) < (qk : Int)) = true := decide_eq_true (by omega)
                have q5n : decide (1 < qk) = true := decide_eq_true (by omega)
                obtain rfl : res = false := HDONE.out _ HRES2.out (by rw [q4n, decide_eq_false h1]; rfl)
                clear HDONE HRES2
                go_wp2_with fail
                go_ret
                exact ⟨rfl, HB3.out⟩
              obtain rfl : qk = 1 := by omega
              clear h0 h1 q4 q4n
              cases ch with
              | true =>
                obtain rfl : res = false := HDONE.out _ HRES2.out (by rfl)
                clear HDONE HRES2
                go_wp2_with fail
                go_ret
                exact ⟨rfl, HB3.out⟩
              | false =>
                have HDF := Lib.hid (show p i = (qf 0).dflt from HRES2.out.trans (by simp))
                have hBw : B ≤ wr.heap.size := Nat.le_trans HBB.out hsz
                have hvin : VIn W3.heap.size W3 (qf 0) := ((HPI.out.2.2 0 (by show 0 < 1; omega)).below HBw3.out hBw).below (Below.refl _ _) HBw3.out.size
                obtain ⟨gy, oy, rfl, hgy, hry⟩ : ∃ g o, qa = some ⟨g, o, none⟩ ∧ g < B ∧ ∀ i, i < 1 → ∀ j u, ((qf i).cells)[j]? = some u → wr.cell? ⟨g, o + i * 5 + j, none⟩ = some u := HPI.out.2.1.2.2.2 (by show 0 < 1; omega)
                have HRV : Hid (W3.rangeAt gy oy (qf 0).cells) := Lib.hid (fun j u hj => by
                  have h := hry 0 (by omega) j u hj
                  rw [Nat.zero_mul, Nat.add_zero] at h
                  exact (World.cell?_of_block (w := wr) (a := ⟨gy, oy + j, none⟩) (HBw3.out.block gy (Nat.lt_of_lt_of_le hgy hBw))).trans h)
                have HDC := Lib.hid (rdef_ok W3.heap.size (qf 0) W3 hvin)
                have HLV := Lib.hid (show (qf 0).cells.length = 5 by obtain ⟨x1, x2, x3, x4, x5, x6, x7, x8, hx⟩ := hvin.open; rw [hx]; rfl)
                obtain ⟨dv, hdv⟩ : ∃ d, (qf 0).dflt = d := ⟨_, rfl⟩
                rw [hdv] at HDF HDC
                clear hdv hry hvin HRES2
                go_upto_region 9 with fail
                go_wp2_with (first | (refine wpList_load_midG (by rfl) 44 (.tmp 69) rfl gy oy rfl (qf 0).cells _ HRV.out Tryz.underlying44 rfl (by rw [info_V, HLV.out]) ?_) | fail)
                refine HDC.out.mono ?_
                rintro e W4 ⟨rfl, hb⟩
                have HB4 := Lib.hid (HB3.out.trans (hb.mono HB3.out.size))
                clear hb
                cases dv with
                | false =>
                  obtain rfl : res = false := HDONE.out _ HDF.out rfl
                  clear HDONE
                  go_wp2_with fail
                  go_ret
                  exact ⟨rfl, HB4.out⟩
                | true =>
                  have HN := Lib.hid (allN_succ (f := p) HA.out HDF.out)
                  clear HDONE
                  go_wp2_with fail
                  go_roundw
                  case rel => exact ⟨i + 1, hlt, rfl, HN.out, HB4.out⟩
                  case measure => simp only [Lib.intOf]; omega
          · obtain rfl : qk = 0 := by omega
            clear h0
            cases ch with
            | true =>
              cases qo with
              | true =>
                obtain rfl : res = false := HDONE.out _ HRES2.out (by rfl)
                clear HDONE HRES2
                go_wp2_with fail
                go_ret
                exact ⟨rfl, HB3.out⟩
              | false =>
                have HN := Lib.hid (allN_succ (f := p) HA.out (HRES2.out.trans rfl))
                clear HDONE
                go_wp2_with fail
                go_roundw
                case rel => exact ⟨i + 1, hlt, rfl, HN.out, HB3.out⟩
                case measure => simp only [Lib.intOf]; omega
            | false =>
              have HN := Lib.hid (allN_succ (f := p) HA.out (HRES2.out.trans (by cases qo <;> rfl)))
              clear HDONE
              cases qo with
              | true =>
                go_wp2_with fail
                go_roundw
                case rel => exact ⟨i + 1, hlt, rfl, HN.out, HB3.out⟩
                case measure => simp only [Lib.intOf]; omega
              | false =>
                go_wp2_with fail
                go_roundw
                case rel => exact ⟨i + 1, hlt, rfl, HN.out, HB3.out⟩
                case measure => simp only [Lib.intOf]; omega
    · have q1 : decide ((i : Int) < (n : Int)) = false := decide_eq_false (by omega)
      have q1n : decide (i < n) = false := decide_eq_false hlt
      obtain rfl : i = n := by omega
      obtain rfl : res = true := by rw [← HRES.out, HA.out]
      go_wp2_with fail
      go_ret
      exact ⟨rfl, HB.out⟩
end Go.Proofs.YtgmnojnalkhepaaGreatDoor

/-
  What the document's 'shaped' says of a type, in the program's words: by kinds; no walk here.
-/
namespace Go.Proofs.YtgmnojnalkhepaaGreatDoor
open Go.RowKit
set_option linter.unusedVariables false
set_option linter.unusedSimpArgs false
set_option maxRecDepth 100000

theorem mxN_bound {f : Nat → Nat} {m : Nat} : ∀ {n : Nat}, mxN f n ≤ m ↔ ∀ i, i < n → f i ≤ m
  | 0 => by simp [mxN]
  | n + 1 => by
    have ih := mxN_bound (f := f) (m := m) (n := n)
    have e : mxN f (n + 1) ≤ m ↔ mxN f n ≤ m ∧ f n ≤ m := by simp only [mxN]; omega
    rw [e, ih]
    constructor
    · rintro ⟨h1, h2⟩ i hi
      by_cases e : i = n
      · subst e; exact h2
      · exact h1 i (by omega)
    · exact fun h => ⟨fun i hi => h i (by omega), h n (by omega)⟩
theorem dep_kids (kd : Int) (tn : ByteArray) (con : CT) (ext : Bool) (fr : ByteArray) (nm mo : SL) (pa : PL) (pt : Nat → TT) (ad : PL) (at_ : Nat → TT) (ea : Option Addr) (en ec : Nat) (et : Nat → TT) (d : Nat) (hd : d ≤ 40) :
    d + (TT.mk kd tn con ext fr nm mo pa pt ad at_ ea en ec et).dep ≤ 41 ↔ (∀ i, i < pa.n → d + 1 + (pt i).dep ≤ 41) ∧ (∀ i, i < ad.n → d + 1 + (at_ i).dep ≤ 41) ∧ (∀ i, i < en → d + 1 + (et i).dep ≤ 41) := by
  rw [TT.dep_eq]
  have e : d + (1 + mxN (fun k => ((TT.mk kd tn con ext fr nm mo pa pt ad at_ ea en ec et).kid k).dep) (pa.n + ad.n + en)) ≤ 41 ↔ mxN (fun k => ((TT.mk kd tn con ext fr nm mo pa pt ad at_ ea en ec et).kid k).dep) (pa.n + ad.n + en) ≤ 40 - d := by omega
  have hk : (TT.mk kd tn con ext fr nm mo pa pt ad at_ ea en ec et).kids = pa.n + ad.n + en := rfl
  rw [hk, e, mxN_bound]
  constructor
  · intro h
    refine ⟨fun i hi => ?_, fun i hi => ?_, fun i hi => ?_⟩
    · have := h i (by omega)
      simp only [TT.kid, if_pos hi] at this
      omega
    · have := h (pa.n + i) (by omega)
      simp only [TT.kid, if_neg (show ¬ pa.n + i < pa.n by omega), if_pos (show pa.n + i < pa.n + ad.n by omega), show pa.n + i - pa.n = i by omega] at this
      omega
    · have := h (pa.n + ad.n + i) (by omega)
      simp only [TT.kid, if_neg (show ¬ pa.n + ad.n + i < pa.n by omega), if_neg (show ¬ pa.n + ad.n + i < pa.n + ad.n by omega), show pa.n + ad.n + i - (pa.n + ad.n) = i by omega] at this
      omega
  · rintro ⟨h1, h2, h3⟩ k hk
    simp only [TT.kid]
    split
    · have := h1 k (by assumption); omega
    · split
      · have := h2 (k - pa.n) (by omega); omega
      · have := h3 (k - (pa.n + ad.n)) (by omega); omega
/-- is a type shaped, so deep? -/
def shV (d : Nat) (t : TT) : Bool := decide (d + t.dep ≤ 41) && t.ok
theorem set_of_ok {c : CT} (h : c.ok 40 = true) : c.set = decide (c.op ≠ 0) := by
  cases c with
  | nil => cases h
  | mk op lo hi lw hg a n cap ch =>
    by_cases h0 : op = 0
    · subst h0
      have e : (CT.mk 0 lo hi lw hg a n cap ch).ok 40 = (true && (cFlds 0 lo hi lw hg n && allN (fun i => decide ((ch i).op ≠ 0) && (ch i).ok 39) n)) := rfl
      rw [e] at h
      simp [cFlds] at h
      simp [CT.set, CT.op, h]
    · simp [CT.set, CT.op, h0]
theorem alph_zero {s : ByteArray} (h : s.size = 0) : alph s = true := by
  obtain rfl := size_zero h
  kernel_rfl
theorem fewOk_zero {p : Nat → Bool} {n : Nat} (h : n = 0) : fewOk p n = true := by
  subst h
  rfl
theorem prtOk_and (ch : Bool) (p : PD) (a b : Bool) : prtOk ch p (a && b) = (a && prtOk ch p b) := by
  unfold prtOk
  cases a <;> simp
section
variable {tn : ByteArray} {con : CT} {ext : Bool} {fr : ByteArray} {nm mo : SL} {pa : PL} {pt : Nat → TT} {ad : PL} {at_ : Nat → TT} {ea : Option Addr} {en ec : Nat} {et : Nat → TT} {d : Nat}
def onlyV (f0 f1 f2 f3 f4 f5 f6 : Bool) (tn : ByteArray) (op : Int) (ext : Bool) (fr : ByteArray) (s4 s5 en : Nat) : Bool :=
  (f0 || decide (tn.size = 0)) && ((f1 || decide (op = 0)) && ((f2 || !ext) && ((f3 || decide (fr.size = 0)) && ((f4 || decide (s4 = 0)) && ((f5 || decide (s5 = 0)) && (f6 || decide (en = 0)))))))
theorem shV_A {kd : Int} (hk : kd = 1 ∨ kd = 4) (hd : d ≤ 40) (hc : con.ok 40 = true) : shV d (.mk kd tn con ext fr nm mo pa pt ad at_ ea en ec et) = onlyV false false false false false false false tn con.op ext fr (nm.n + mo.n) (pa.n + ad.n) en := by
  rw [Bool.eq_iff_iff]
  unfold shV onlyV TT.ok tFlds
  rw [set_of_ok hc, if_pos hk]
  simp only [Bool.and_eq_true, decide_eq_true_eq, dep_kids _ _ _ _ _ _ _ _ _ _ _ _ _ _ _ d hd, hc, Bool.false_or, Bool.not_eq_true', decide_eq_false_iff_not, ne_eq, Decidable.not_not, Nat.not_lt]
  constructor
  · rintro ⟨_, ⟨h0, h1, h2, h3, h4, h5, h6, h7, h8⟩, _⟩
    exact ⟨h0, h1, h2, h3, by omega, by omega, by omega⟩
  · rintro ⟨h0, h1, h2, h3, h4, h5, h6⟩
    exact ⟨⟨fun i h => absurd h (by omega), fun i h => absurd h (by omega), fun i h => absurd h (by omega)⟩, ⟨h0, h1, h2, h3, by omega, by omega, by omega, by omega, by omega⟩, by simp; omega, trivial, alph_zero h3, fewOk_zero (by omega), fewOk_zero (by omega), fewOk_zero (by omega), fewOk_zero (by omega), by omega, by rw [h6]; rfl⟩
theorem shV_B {kd : Int} (hk : kd = 2 ∨ kd = 5 ∨ kd = 6) (hd : d ≤ 40) (hc : con.ok 40 = true) : shV d (.mk kd tn con ext fr nm mo pa pt ad at_ ea en ec et) = (onlyV false true true false false false false tn con.op ext fr (nm.n + mo.n) (pa.n + ad.n) en && !(ext && decide (con.op = 0))) := by
  rw [Bool.eq_iff_iff]
  unfold shV onlyV TT.ok tFlds
  rw [set_of_ok hc, if_neg (show ¬ (kd = 1 ∨ kd = 4) by omega), if_pos hk]
  simp only [Bool.and_eq_true, Bool.or_eq_true, decide_eq_true_eq, dep_kids _ _ _ _ _ _ _ _ _ _ _ _ _ _ _ d hd, hc, Bool.false_or, Bool.true_or, true_and, and_true, Bool.not_eq_true', decide_eq_false_iff_not, ne_eq, Decidable.not_not, Nat.not_lt, Bool.and_eq_false_iff]
  constructor
  · rintro ⟨_, ⟨h0, h1, h3, h4, h5, h6, h7, h8⟩, _⟩
    exact ⟨⟨h0, h3, by omega, by omega, by omega⟩, h1⟩
  · rintro ⟨⟨h0, h3, h4, h5, h6⟩, h1⟩
    exact ⟨⟨fun i h => absurd h (by omega), fun i h => absurd h (by omega), fun i h => absurd h (by omega)⟩, ⟨h0, h1, h3, by omega, by omega, by omega, by omega, by omega⟩, by left; omega, alph_zero h3, fewOk_zero (by omega), fewOk_zero (by omega), fewOk_zero (by omega), fewOk_zero (by omega), by omega, by rw [h6]; rfl⟩
theorem shV_C (hd : d ≤ 40) (hc : con.ok 40 = true) : shV d (.mk 7 tn con ext fr nm mo pa pt ad at_ ea en ec et) = (onlyV false true true true false false false tn con.op ext fr (nm.n + mo.n) (pa.n + ad.n) en && (!(ext && decide (con.op = 0)) && alph fr)) := by
  rw [Bool.eq_iff_iff]
  unfold shV onlyV TT.ok tFlds
  rw [set_of_ok hc, if_neg (show ¬ ((7 : Int) = 1 ∨ (7 : Int) = 4) by omega), if_neg (show ¬ ((7 : Int) = 2 ∨ (7 : Int) = 5 ∨ (7 : Int) = 6) by omega), if_pos rfl]
  simp only [Bool.and_eq_true, Bool.or_eq_true, decide_eq_true_eq, dep_kids _ _ _ _ _ _ _ _ _ _ _ _ _ _ _ d hd, hc, Bool.false_or, Bool.true_or, true_and, and_true, Bool.not_eq_true', decide_eq_false_iff_not, ne_eq, Decidable.not_not, Nat.not_lt, Bool.and_eq_false_iff]
  constructor
  · rintro ⟨_, ⟨h0, h1, h4, h5, h6, h7, h8⟩, _, ha, _⟩
    exact ⟨⟨h0, by omega, by omega, by omega⟩, h1, ha⟩
  · rintro ⟨⟨h0, h4, h5, h6⟩, h1, ha⟩
    exact ⟨⟨fun i h => absurd h (by omega), fun i h => absurd h (by omega), fun i h => absurd h (by omega)⟩, ⟨h0, h1, by omega, by omega, by omega, by omega, by omega⟩, by left; omega, ha, fewOk_zero (by omega), fewOk_zero (by omega), fewOk_zero (by omega), fewOk_zero (by omega), by omega, by rw [h6]; rfl⟩
theorem shV_D (hd : d ≤ 40) (hc : con.ok 40 = true) : shV d (.mk 3 tn con ext fr nm mo pa pt ad at_ ea en ec et) = (onlyV false false true false true false false tn con.op ext fr (nm.n + mo.n) (pa.n + ad.n) en && (decide (0 < nm.n) && (fewOk (fun i => lowd (nm.f i)) nm.n && (fewOk (fun i => lowd (mo.f i)) mo.n && (ext || decide (mo.n = 0)))))) := by
  rw [Bool.eq_iff_iff]
  unfold shV onlyV TT.ok tFlds
  rw [set_of_ok hc, if_neg (show ¬ ((3 : Int) = 1 ∨ (3 : Int) = 4) by omega), if_neg (show ¬ ((3 : Int) = 2 ∨ (3 : Int) = 5 ∨ (3 : Int) = 6) by omega), if_neg (show ¬ ((3 : Int) = 7) by omega), if_pos rfl]
  simp only [Bool.and_eq_true, Bool.or_eq_true, decide_eq_true_eq, dep_kids _ _ _ _ _ _ _ _ _ _ _ _ _ _ _ d hd, hc, Bool.false_or, Bool.true_or, true_and, and_true, Bool.not_eq_true', decide_eq_false_iff_not, ne_eq, Decidable.not_not, Nat.not_lt, Bool.and_eq_false_iff]
  constructor
  · rintro ⟨_, ⟨h0, h1, h3, h4, h5, h6, h7, h8⟩, _, _, hn, hm, _⟩
    exact ⟨⟨h0, h1, h3, by omega, by omega⟩, h4, hn, hm, by rcases h5 with h | h; (right; omega); (left; exact h)⟩
  · rintro ⟨⟨h0, h1, h3, h5, h6⟩, h4, hn, hm, h9⟩
    exact ⟨⟨fun i h => absurd h (by omega), fun i h => absurd h (by omega), fun i h => absurd h (by omega)⟩, ⟨h0, h1, h3, h4, by rcases h9 with h | h; (right; exact h); (left; omega), by omega, by omega, by omega⟩, by left; omega, alph_zero h3, hn, hm, fewOk_zero (by omega), fewOk_zero (by omega), by omega, by rw [h6]; rfl⟩
theorem shV_G (hd : d ≤ 40) (hc : con.ok 40 = true) : shV d (.mk 11 tn con ext fr nm mo pa pt ad at_ ea en ec et) = (onlyV true false false false false false false tn con.op ext fr (nm.n + mo.n) (pa.n + ad.n) en && refd tn) := by
  rw [Bool.eq_iff_iff]
  unfold shV onlyV TT.ok tFlds
  rw [set_of_ok hc, if_neg (show ¬ ((11 : Int) = 1 ∨ (11 : Int) = 4) by omega), if_neg (show ¬ ((11 : Int) = 2 ∨ (11 : Int) = 5 ∨ (11 : Int) = 6) by omega), if_neg (show ¬ ((11 : Int) = 7) by omega), if_neg (show ¬ ((11 : Int) = 3) by omega), if_neg (show ¬ ((11 : Int) = 8) by omega), if_neg (show ¬ ((11 : Int) = 10) by omega), if_neg (show ¬ ((11 : Int) = 9) by omega), if_pos rfl]
  simp only [Bool.and_eq_true, Bool.or_eq_true, decide_eq_true_eq, dep_kids _ _ _ _ _ _ _ _ _ _ _ _ _ _ _ d hd, hc, Bool.false_or, Bool.true_or, true_and, and_true, Bool.not_eq_true', decide_eq_false_iff_not, ne_eq, Decidable.not_not, Nat.not_lt, Bool.and_eq_false_iff]
  constructor
  · rintro ⟨_, ⟨h0, h1, h2, h3, h4, h5, h6, h7, h8⟩, hr, _⟩
    exact ⟨⟨h1, h2, h3, by omega, by omega, by omega⟩, by rcases hr with h | h; (exact absurd trivial h); (exact h)⟩
  · rintro ⟨⟨h1, h2, h3, h4, h5, h6⟩, hr⟩
    have h0 : ¬ tn.size = 0 := fun h => by
      obtain rfl := size_zero h
      exact absurd hr (by rw [show refd ⟨#[]⟩ = false by kernel_rfl]; decide)
    exact ⟨⟨fun i h => absurd h (by omega), fun i h => absurd h (by omega), fun i h => absurd h (by omega)⟩, ⟨h0, h1, h2, h3, by omega, by omega, by omega, by omega, by omega⟩, .inr hr, alph_zero h3, fewOk_zero (by omega), fewOk_zero (by omega), fewOk_zero (by omega), fewOk_zero (by omega), by omega, by rw [h6]; rfl⟩
theorem shV_F (hd : d ≤ 40) (hc : con.ok 40 = true) : shV d (.mk 9 tn con ext fr nm mo pa pt ad at_ ea en ec et) = (onlyV false true true false false false true tn con.op ext fr (nm.n + mo.n) (pa.n + ad.n) en && (!(ext && decide (con.op = 0)) && (decide (en = 1) && shV (d + 1) (et 0)))) := by
  have hv : shV (d + 1) (et 0) = true ↔ d + 1 + (et 0).dep ≤ 41 ∧ (et 0).ok = true := by unfold shV; rw [Bool.and_eq_true, decide_eq_true_eq]
  generalize shV (d + 1) (et 0) = v at hv ⊢
  rw [Bool.eq_iff_iff]
  unfold shV onlyV TT.ok tFlds
  rw [set_of_ok hc, if_neg (show ¬ ((9 : Int) = 1 ∨ (9 : Int) = 4) by omega), if_neg (show ¬ ((9 : Int) = 2 ∨ (9 : Int) = 5 ∨ (9 : Int) = 6) by omega), if_neg (show ¬ ((9 : Int) = 7) by omega), if_neg (show ¬ ((9 : Int) = 3) by omega), if_neg (show ¬ ((9 : Int) = 8) by omega), if_neg (show ¬ ((9 : Int) = 10) by omega), if_pos rfl]
  simp only [Bool.and_eq_true, Bool.or_eq_true, decide_eq_true_eq, dep_kids _ _ _ _ _ _ _ _ _ _ _ _ _ _ _ d hd, hc, Bool.false_or, Bool.true_or, true_and, and_true, Bool.not_eq_true', decide_eq_false_iff_not, ne_eq, Decidable.not_not, Nat.not_lt, Bool.and_eq_false_iff]
  rw [hv]
  constructor
  · rintro ⟨⟨_, _, hde⟩, ⟨h0, h1, h3, h4, h5, h6, h7, h8⟩, _, _, _, _, _, _, he1, he⟩
    exact ⟨⟨h0, h3, by omega, by omega⟩, h1, by omega, hde 0 (by omega), allN_iff.1 he 0 (by omega)⟩
  · rintro ⟨⟨h0, h3, h4, h5⟩, h1, he1, hde, he⟩
    have z : ∀ i, i < en → i = 0 := fun i h => by omega
    exact ⟨⟨fun i h => absurd h (by omega), fun i h => absurd h (by omega), fun i h => (z i h) ▸ hde⟩, ⟨h0, h1, h3, by omega, by omega, by omega, by omega, by omega⟩, by left; omega, alph_zero h3, fewOk_zero (by omega), fewOk_zero (by omega), fewOk_zero (by omega), fewOk_zero (by omega), by omega, allN_iff.2 fun i h => by rw [z i h]; exact he⟩
theorem fewOk_prt (ch : Bool) (n : Nat) (pf : Nat → PD) (pt : Nat → TT) : fewOk (fun i => prtOk ch (pf i) (shV (d + 1) (pt i))) n = true ↔ (∀ i, i < n → d + 1 + (pt i).dep ≤ 41) ∧ fewOk (fun i => prtOk ch (pf i) (pt i).ok) n = true := by
  unfold fewOk shV
  simp only [prtOk_and, Bool.and_eq_true, decide_eq_true_eq, allN_iff]
  constructor
  · rintro ⟨h1, h2⟩
    exact ⟨fun i hi => (h2 i hi).1, h1, fun i hi => (h2 i hi).2⟩
  · rintro ⟨h1, h2, h3⟩
    exact ⟨h2, fun i hi => ⟨h1 i hi, h3 i hi⟩⟩
theorem shV_E (ch : Bool) (hd : d ≤ 40) (hc : con.ok 40 = true) : shV d (.mk (if ch = true then 10 else 8) tn con ext fr nm mo pa pt ad at_ ea en ec et) = (onlyV false false true false false true false tn con.op ext fr (nm.n + mo.n) (pa.n + ad.n) en && ((ext || decide (ad.n = 0)) && ((!ch || decide (0 < pa.n)) && (fewOk (fun i => prtOk ch (pa.f i) (shV (d + 1) (pt i))) pa.n && fewOk (fun i => prtOk ch (ad.f i) (shV (d + 1) (at_ i))) ad.n)))) := by
  have hfun : ∀ (l : PL) (tt : Nat → TT), (fun i => if (if ch = true then (10 : Int) else 8) = 10 then altOk (l.f i) (tt i).ok else compOk (l.f i) (tt i).ok) = fun i => prtOk ch (l.f i) (tt i).ok := fun l tt => by
    funext i
    rw [prtOk_eq]
    cases ch <;> rfl
  have P := fewOk_prt (d := d) ch pa.n pa.f pt
  have A := fewOk_prt (d := d) ch ad.n ad.f at_
  generalize fewOk (fun i => prtOk ch (pa.f i) (shV (d + 1) (pt i))) pa.n = vp at P ⊢
  generalize fewOk (fun i => prtOk ch (ad.f i) (shV (d + 1) (at_ i))) ad.n = va at A ⊢
  rw [Bool.eq_iff_iff]
  unfold shV onlyV TT.ok
  rw [set_of_ok hc, hfun, hfun]
  have hfl : ∀ b0 b1 e b3 b4 b5 b6 b7 b8, tFlds (if ch = true then 10 else 8) b0 b1 e b3 b4 b5 b6 b7 b8 = (!b0 && (!b1 && (!b3 && (!b4 && (!b5 && ((!ch || b6) && ((!b7 || e) && !b8))))))) := by
    intro b0 b1 e b3 b4 b5 b6 b7 b8
    cases ch
    · simp [tFlds]
    · simp [tFlds]
  rw [hfl]
  have hk : ¬ ((if ch = true then (10 : Int) else 8) = 11) := by cases ch <;> simp
  rw [show (decide (d + (TT.mk (if ch = true then 10 else 8) tn con ext fr nm mo pa pt ad at_ ea en ec et).dep ≤ 41) : Bool) = decide (d + (TT.mk 8 tn con ext fr nm mo pa pt ad at_ ea en ec et).dep ≤ 41) from rfl]
  simp only [Bool.and_eq_true, Bool.or_eq_true, decide_eq_true_eq, dep_kids _ _ _ _ _ _ _ _ _ _ _ _ _ _ _ d hd, hc, Bool.false_or, Bool.true_or, true_and, and_true, Bool.not_eq_true', decide_eq_false_iff_not, ne_eq, Decidable.not_not, Nat.not_lt, P, A]
  constructor
  · rintro ⟨⟨hdp, hda, _⟩, ⟨h0, h1, h3, h4, h5, h6, h7, h8⟩, _, _, _, _, hp, ha, _⟩
    exact ⟨⟨h0, h1, h3, by omega, by omega⟩, by rcases h7 with h | h; (right; omega); (left; exact h), h6, ⟨hdp, hp⟩, hda, ha⟩
  · rintro ⟨⟨h0, h1, h3, h4, h6⟩, h7, h8, ⟨hdp, hp⟩, hda, ha⟩
    exact ⟨⟨hdp, hda, fun i h => absurd h (by omega)⟩, ⟨h0, h1, h3, by omega, by omega, h8, by rcases h7 with h | h; (right; exact h); (left; omega), by omega⟩, .inl hk, alph_zero h3, fewOk_zero (by omega), fewOk_zero (by omega), hp, ha, by omega, by rw [h6]; rfl⟩
theorem shV_o {kd : Int} (hk : ¬ (1 ≤ kd ∧ kd ≤ 11)) : shV d (.mk kd tn con ext fr nm mo pa pt ad at_ ea en ec et) = false := by
  unfold shV
  rw [Bool.and_eq_false_iff]
  right
  cases h : (TT.mk kd tn con ext fr nm mo pa pt ad at_ ea en ec et).ok with
  | false => rfl
  | true =>
    unfold TT.ok at h
    simp only [Bool.and_eq_true] at h
    exact absurd (tFlds_kind h.1).1 hk
theorem shV_con (hc : con.ok 40 = false) {kd : Int} : shV d (.mk kd tn con ext fr nm mo pa pt ad at_ ea en ec et) = false := by
  unfold shV TT.ok
  simp [hc]
theorem shV_deep (hd : 40 < d) (t : TT) : shV d t = false := by
  unfold shV
  rw [decide_eq_false, Bool.false_and]
  rw [TT.dep_eq]
  omega
end
end Go.Proofs.YtgmnojnalkhepaaGreatDoor
