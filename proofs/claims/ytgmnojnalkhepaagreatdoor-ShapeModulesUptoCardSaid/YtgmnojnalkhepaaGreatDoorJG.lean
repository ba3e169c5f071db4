/-
  A bundle of texts, one behind the other: ShT4O, ShT410, ShT411, ShT5.
-/
import Derived.Test.YtgmnojnalkhepaaGreatDoorJB
import Derived.Test.YtgmnojnalkhepaaGreatDoorJF
import Derived.Test.YtgmnojnalkhepaaGreatDoorJC
import Derived.Test.YtgmnojnalkhepaaGreatDoorJD
/-
  Package shape: 'isType', its calls one behind the other (Kind o).
-/
namespace Go.Proofs.YtgmnojnalkhepaaGreatDoor
open Go.RowKit
set_option linter.unusedVariables false
set_option linter.unusedSimpArgs false
set_option maxRecDepth 100000

set_option maxHeartbeats 8000000 in
theorem isTypeW_o (kd : Int) (tn : ByteArray) (op lo hi : Int) (lw hg : Bool) (ca : Option Addr) (cn cc : Nat) (ext : Bool) (fr : ByteArray) (sa : Option Addr) (sn sc : Nat) (ma : Option Addr) (mn mc : Nat) (pa : Option Addr) (pn pc : Nat) (aa : Option Addr) (an ac : Nat) (ea : Option Addr) (en ec : Nat) (w : World) (k10 : kd ≠ 10) (k11 : kd ≠ 11) (f1 f3 f4 f5 f6 f7 f8 f10 : Bool)
    (h1 : ∀ w', Below w.heap.size w w' → Calls Tryz.prog 53 #[.agg #[.int .i64 kd, .string tn, .int .i64 op, .int .i64 lo, .int .i64 hi, .bool lw, .bool hg, .slice ca cn cc, .bool ext, .string fr, .slice sa sn sc, .slice ma mn mc, .slice pa pn pc, .slice aa an ac, .slice ea en ec]] w' fun e w'' => e = .returned (.bool f1) ∧ Below w'.heap.size w' w'')
    (h3 : ∀ w', Below w.heap.size w w' → Calls Tryz.prog 54 #[.agg #[.int .i64 op, .int .i64 lo, .int .i64 hi, .bool lw, .bool hg, .slice ca cn cc]] w' fun e w'' => e = .returned (.bool f3) ∧ Below w'.heap.size w' w'')
    (h4 : ∀ w', Below w.heap.size w w' → Calls Tryz.prog 55 #[.string fr] w' fun e w'' => e = .returned (.bool f4) ∧ Below w'.heap.size w' w'')
    (h5 : ∀ w', Below w.heap.size w w' → Calls Tryz.prog 32 #[.slice sa sn sc, .func (.func 56) #[] #[]] w' fun e w'' => e = .returned (.bool f5) ∧ Below w'.heap.size w' w'')
    (h6 : ∀ w', Below w.heap.size w w' → Calls Tryz.prog 32 #[.slice ma mn mc, .func (.func 56) #[] #[]] w' fun e w'' => e = .returned (.bool f6) ∧ Below w'.heap.size w' w'')
    (h7 : ∀ w', Below w.heap.size w w' → Calls Tryz.prog 57 #[.slice pa pn pc, .func (.func 51) #[] #[]] w' fun e w'' => e = .returned (.bool f7) ∧ Below w'.heap.size w' w'')
    (h8 : ∀ w', Below w.heap.size w w' → Calls Tryz.prog 57 #[.slice aa an ac, .func (.func 51) #[] #[]] w' fun e w'' => e = .returned (.bool f8) ∧ Below w'.heap.size w' w'')
    (h10 : ∀ w', Below w.heap.size w w' → Calls Tryz.prog 58 #[.slice ea en ec, .func (.func 27) #[] #[]] w' fun e w'' => e = .returned (.bool f10) ∧ Below w'.heap.size w' w'') :
    Calls Tryz.prog 27 #[.agg #[.int .i64 kd, .string tn, .int .i64 op, .int .i64 lo, .int .i64 hi, .bool lw, .bool hg, .slice ca cn cc, .bool ext, .string fr, .slice sa sn sc, .slice ma mn mc, .slice pa pn pc, .slice aa an ac, .slice ea en ec]] w fun e w' => e = .returned (.bool (f1 && (f3 && (f4 && (f5 && (f6 && (f7 && (f8 && (decide (en ≤ 1) && f10))))))))) ∧ Below w.heap.size w w' := by
  obtain ⟨f9, h9⟩ : ∃ f9, decide (en ≤ 1) = f9 := ⟨_, rfl⟩
  rw [h9]
  have z9 : decide ((en : Int) ≤ 1) = f9 := by rw [← h9]; exact decide_eq_decide.2 (by omega)
  have q10 : (kd == 10) = false := by simpa using k10
  have q11 : (kd != 11) = true := by simpa [bne] using k11
  clear k10 k11
  have H1 := Lib.hid h1
  have H3 := Lib.hid h3
  have H4 := Lib.hid h4
  have H5 := Lib.hid h5
  have H6 := Lib.hid h6
  have H7 := Lib.hid h7
  have H8 := Lib.hid h8
  have H10 := Lib.hid h10
  clear h1 h3 h4 h5 h6 h7 h8 h10 h9
  have HX := Lib.hid (Bx.new w #[.int .i64 kd, .string tn, .int .i64 op, .int .i64 lo, .int .i64 hi, .bool lw, .bool hg, .slice ca cn cc, .bool ext, .string fr, .slice sa sn sc, .slice ma mn mc, .slice pa pn pc, .slice aa an ac, .slice ea en ec] 39)
  have HB := Lib.hid ((Below.refl w.heap.size w).alloc (Nat.le_refl _) (.cells #[.int .i64 kd, .string tn, .int .i64 op, .int .i64 lo, .int .i64 hi, .bool lw, .bool hg, .slice ca cn cc, .bool ext, .string fr, .slice sa sn sc, .slice ma mn mc, .slice pa pn pc, .slice aa an ac, .slice ea en ec] 39))
  obtain ⟨res, hres⟩ : ∃ res, (f1 && (f3 && (f4 && (f5 && (f6 && (f7 && (f8 && (f9 && f10)))))))) = res := ⟨_, rfl⟩
  have HRES := Lib.hid hres
  rw [hres]
  clear hres
  go_enter Tryz.func27, Tryz.ntmps27
  go_wp2_with (refine wpList_load_mid rfl 39 (.tmp 1) rfl w.heap.size 0 rfl [.int .i64 kd, .string tn, .int .i64 op, .int .i64 lo, .int .i64 hi, .bool lw, .bool hg, .slice ca cn cc, .bool ext, .string fr, .slice sa sn sc, .slice ma mn mc, .slice pa pn pc, .slice aa an ac, .slice ea en ec] _ HX.out.range Tryz.underlying39 rfl (by kernel_rfl) ?_)
  refine (H1.out _ HB.out).mono ?_
  rintro e w1 ⟨rfl, hb⟩
  have HB1 := Lib.hid (HB.out.trans (hb.mono HB.out.size))
  have hx1 := HX.out.below hb HX.out.lt
  have HX1 := Lib.hid hx1
  have c0 := hx1.cell 0 rfl
  have c1 := hx1.cell 1 rfl
  have c2 := hx1.cell 2 rfl
  have c3 := hx1.cell 3 rfl
  have c4 := hx1.cell 4 rfl
  have c5 := hx1.cell 5 rfl
  have c6 := hx1.cell 6 rfl
  have c7 := hx1.cell 7 rfl
  have c8 := hx1.cell 8 rfl
  have c9 := hx1.cell 9 rfl
  have c10 := hx1.cell 10 rfl
  have c11 := hx1.cell 11 rfl
  have c12 := hx1.cell 12 rfl
  have c13 := hx1.cell 13 rfl
  have c14 := hx1.cell 14 rfl
  clear hb hx1 H1 HB HX
  cases f1 with
  | false =>
    obtain rfl : res = false := by rw [← HRES.out]; rfl
    go_wp2_with fail
    go_ret
    exact ⟨rfl, HB1.out⟩
  | true =>
    have HRES := Lib.hid (show (f3 && (f4 && (f5 && (f6 && (f7 && (f8 && (f9 && f10))))))) = res from HRES.out)
    go_wp2_with fail
    refine (H3.out _ HB1.out).mono ?_
    rintro e w2 ⟨rfl, hb⟩
    have HB2 := Lib.hid (HB1.out.trans (hb.mono HB1.out.size))
    have hx2 := HX1.out.below hb HX1.out.lt
    have HX2 := Lib.hid hx2
    clear c0 c1 c2 c3 c4 c5 c6 c7 c8 c9 c10 c11 c12 c13 c14
    have c0 := hx2.cell 0 rfl
    have c1 := hx2.cell 1 rfl
    have c2 := hx2.cell 2 rfl
    have c3 := hx2.cell 3 rfl
    have c4 := hx2.cell 4 rfl
    have c5 := hx2.cell 5 rfl
    have c6 := hx2.cell 6 rfl
    have c7 := hx2.cell 7 rfl
    have c8 := hx2.cell 8 rfl
    have c9 := hx2.cell 9 rfl
    have c10 := hx2.cell 10 rfl
    have c11 := hx2.cell 11 rfl
    have c12 := hx2.cell 12 rfl
    have c13 := hx2.cell 13 rfl
    have c14 := hx2.cell 14 rfl
    clear hb hx2 H3 HB1 HX1
    cases f3 with
    | false =>
      obtain rfl : res = false := by rw [← HRES.out]; rfl
      go_wp2_with fail
      go_ret
      exact ⟨rfl, HB2.out⟩
    | true =>
      have HRES := Lib.hid (show (f4 && (f5 && (f6 && (f7 && (f8 && (f9 && f10)))))) = res from HRES.out)
      go_wp2_with fail
      refine (H4.out _ HB2.out).mono ?_
      rintro e w3 ⟨rfl, hb⟩
      have HB3 := Lib.hid (HB2.out.trans (hb.mono HB2.out.size))
      have hx3 := HX2.out.below hb HX2.out.lt
      have HX3 := Lib.hid hx3
      clear c0 c1 c2 c3 c4 c5 c6 c7 c8 c9 c10 c11 c12 c13 c14
      have c0 := hx3.cell 0 rfl
      have c1 := hx3.cell 1 rfl
      have c2 := hx3.cell 2 rfl
      have c3 := hx3.cell 3 rfl
      have c4 := hx3.cell 4 rfl
      have c5 := hx3.cell 5 rfl
      have c6 := hx3.cell 6 rfl
      have c7 := hx3.cell 7 rfl
      have c8 := hx3.cell 8 rfl
      have c9 := hx3.cell 9 rfl
      have c10 := hx3.cell 10 rfl
      have c11 := hx3.cell 11 rfl
      have c12 := hx3.cell 12 rfl
      have c13 := hx3.cell 13 rfl
      have c14 := hx3.cell 14 rfl
      clear hb hx3 H4 HB2 HX2
      cases f4 with
      | false =>
        obtain rfl : res = false := by rw [← HRES.out]; rfl
        go_wp2_with fail
        go_ret
        exact ⟨rfl, HB3.out⟩
      | true =>
        have HRES := Lib.hid (show (f5 && (f6 && (f7 && (f8 && (f9 && f10))))) = res from HRES.out)
        go_wp2_with fail
        refine (H5.out _ HB3.out).mono ?_
        rintro e w4 ⟨rfl, hb⟩
        have HB4 := Lib.hid (HB3.out.trans (hb.mono HB3.out.size))
        have hx4 := HX3.out.below hb HX3.out.lt
        have HX4 := Lib.hid hx4
        clear c0 c1 c2 c3 c4 c5 c6 c7 c8 c9 c10 c11 c12 c13 c14
        have c0 := hx4.cell 0 rfl
        have c1 := hx4.cell 1 rfl
        have c2 := hx4.cell 2 rfl
        have c3 := hx4.cell 3 rfl
        have c4 := hx4.cell 4 rfl
        have c5 := hx4.cell 5 rfl
        have c6 := hx4.cell 6 rfl
        have c7 := hx4.cell 7 rfl
        have c8 := hx4.cell 8 rfl
        have c9 := hx4.cell 9 rfl
        have c10 := hx4.cell 10 rfl
        have c11 := hx4.cell 11 rfl
        have c12 := hx4.cell 12 rfl
        have c13 := hx4.cell 13 rfl
        have c14 := hx4.cell 14 rfl
        clear hb hx4 H5 HB3 HX3
        cases f5 with
        | false =>
          obtain rfl : res = false := by rw [← HRES.out]; rfl
          go_wp2_with fail
          go_ret
          exact ⟨rfl, HB4.out⟩
        | true =>
          have HRES := Lib.hid (show (f6 && (f7 && (f8 && (f9 && f10)))) = res from HRES.out)
          go_wp2_with fail
          refine (H6.out _ HB4.out).mono ?_
          rintro e w5 ⟨rfl, hb⟩
          have HB5 := Lib.hid (HB4.out.trans (hb.mono HB4.out.size))
          have hx5 := HX4.out.below hb HX4.out.lt
          have HX5 := Lib.hid hx5
          clear c0 c1 c2 c3 c4 c5 c6 c7 c8 c9 c10 c11 c12 c13 c14
          have c0 := hx5.cell 0 rfl
          have c1 := hx5.cell 1 rfl
          have c2 := hx5.cell 2 rfl
          have c3 := hx5.cell 3 rfl
          have c4 := hx5.cell 4 rfl
          have c5 := hx5.cell 5 rfl
          have c6 := hx5.cell 6 rfl
          have c7 := hx5.cell 7 rfl
          have c8 := hx5.cell 8 rfl
          have c9 := hx5.cell 9 rfl
          have c10 := hx5.cell 10 rfl
          have c11 := hx5.cell 11 rfl
          have c12 := hx5.cell 12 rfl
          have c13 := hx5.cell 13 rfl
          have c14 := hx5.cell 14 rfl
          clear hb hx5 H6 HB4 HX4
          cases f6 with
          | false =>
            obtain rfl : res = false := by rw [← HRES.out]; rfl
            go_wp2_with fail
            go_ret
            exact ⟨rfl, HB5.out⟩
          | true =>
            have HRES := Lib.hid (show (f7 && (f8 && (f9 && f10))) = res from HRES.out)
            go_wp2_with fail
            refine (H7.out _ HB5.out).mono ?_
            rintro e w6 ⟨rfl, hb⟩
            have HB6 := Lib.hid (HB5.out.trans (hb.mono HB5.out.size))
            have hx6 := HX5.out.below hb HX5.out.lt
            have HX6 := Lib.hid hx6
            clear c0 c1 c2 c3 c4 c5 c6 c7 c8 c9 c10 c11 c12 c13 c14
            have c0 := hx6.cell 0 rfl
            have c1 := hx6.cell 1 rfl
            have c2 := hx6.cell 2 rfl
            have c3 := hx6.cell 3 rfl
            have c4 := hx6.cell 4 rfl
            have c5 := hx6.cell 5 rfl
            have c6 := hx6.cell 6 rfl
            have c7 := hx6.cell 7 rfl
            have c8 := hx6.cell 8 rfl
            have c9 := hx6.cell 9 rfl
            have c10 := hx6.cell 10 rfl
            have c11 := hx6.cell 11 rfl
            have c12 := hx6.cell 12 rfl
            have c13 := hx6.cell 13 rfl
            have c14 := hx6.cell 14 rfl
            clear hb hx6 H7 HB5 HX5
            cases f7 with
            | false =>
              obtain rfl : res = false := by rw [← HRES.out]; rfl
              go_wp2_with fail
              go_ret
              exact ⟨rfl, HB6.out⟩
            | true =>
              have HRES := Lib.hid (show (f8 && (f9 && f10)) = res from HRES.out)
              go_wp2_with fail
              refine (H8.out _ HB6.out).mono ?_
              rintro e w7 ⟨rfl, hb⟩
              have HB7 := Lib.hid (HB6.out.trans (hb.mono HB6.out.size))
              have hx7 := HX6.out.below hb HX6.out.lt
              have HX7 := Lib.hid hx7
              clear c0 c1 c2 c3 c4 c5 c6 c7 c8 c9 c10 c11 c12 c13 c14
              have c0 := hx7.cell 0 rfl
              have c1 := hx7.cell 1 rfl
              have c2 := hx7.cell 2 rfl
              have c3 := hx7.cell 3 rfl
              have c4 := hx7.cell 4 rfl
              have c5 := hx7.cell 5 rfl
              have c6 := hx7.cell 6 rfl
              have c7 := hx7.cell 7 rfl
              have c8 := hx7.cell 8 rfl
              have c9 := hx7.cell 9 rfl
              have c10 := hx7.cell 10 rfl
              have c11 := hx7.cell 11 rfl
              have c12 := hx7.cell 12 rfl
              have c13 := hx7.cell 13 rfl
              have c14 := hx7.cell 14 rfl
              clear hb hx7 H8 HB6 HX6
              cases f8 with
              | false =>
                obtain rfl : res = false := by rw [← HRES.out]; rfl
                go_wp2_with fail
                go_ret
                exact ⟨rfl, HB7.out⟩
              | true =>
                have HRES := Lib.hid (show (f9 && f10) = res from HRES.out)
                cases f9 with
                | false =>
                  obtain rfl : res = false := by rw [← HRES.out]; rfl
                  go_wp2_with fail
                  go_ret
                  exact ⟨rfl, HB7.out⟩
                | true =>
                  have HRES := Lib.hid (show f10 = res from HRES.out)
                  go_wp2_with fail
                  refine (H10.out _ HB7.out).mono ?_
                  rintro e w8 ⟨rfl, hb⟩
                  have HB8 := Lib.hid (HB7.out.trans (hb.mono HB7.out.size))
                  clear hb
                  go_wp2_with fail
                  go_ret
                  refine ⟨?_, HB8.out⟩
                  rw [← HRES.out]
                  rfl
end Go.Proofs.YtgmnojnalkhepaaGreatDoor

/-
  Package shape: 'isType', its calls one behind the other (Kind 10).
-/
namespace Go.Proofs.YtgmnojnalkhepaaGreatDoor
open Go.RowKit
set_option linter.unusedVariables false
set_option linter.unusedSimpArgs false
set_option maxRecDepth 100000

set_option maxHeartbeats 8000000 in
theorem isTypeW_10 (tn : ByteArray) (op lo hi : Int) (lw hg : Bool) (ca : Option Addr) (cn cc : Nat) (ext : Bool) (fr : ByteArray) (sa : Option Addr) (sn sc : Nat) (ma : Option Addr) (mn mc : Nat) (pa : Option Addr) (pn pc : Nat) (aa : Option Addr) (an ac : Nat) (ea : Option Addr) (en ec : Nat) (w : World) (f1 f3 f4 f5 f6 f7 f8 f10 : Bool)
    (h1 : ∀ w', Below w.heap.size w w' → Calls Tryz.prog 53 #[.agg #[.int .i64 10, .string tn, .int .i64 op, .int .i64 lo, .int .i64 hi, .bool lw, .bool hg, .slice ca cn cc, .bool ext, .string fr, .slice sa sn sc, .slice ma mn mc, .slice pa pn pc, .slice aa an ac, .slice ea en ec]] w' fun e w'' => e = .returned (.bool f1) ∧ Below w'.heap.size w' w'')
    (h3 : ∀ w', Below w.heap.size w w' → Calls Tryz.prog 54 #[.agg #[.int .i64 op, .int .i64 lo, .int .i64 hi, .bool lw, .bool hg, .slice ca cn cc]] w' fun e w'' => e = .returned (.bool f3) ∧ Below w'.heap.size w' w'')
    (h4 : ∀ w', Below w.heap.size w w' → Calls Tryz.prog 55 #[.string fr] w' fun e w'' => e = .returned (.bool f4) ∧ Below w'.heap.size w' w'')
    (h5 : ∀ w', Below w.heap.size w w' → Calls Tryz.prog 32 #[.slice sa sn sc, .func (.func 56) #[] #[]] w' fun e w'' => e = .returned (.bool f5) ∧ Below w'.heap.size w' w'')
    (h6 : ∀ w', Below w.heap.size w w' → Calls Tryz.prog 32 #[.slice ma mn mc, .func (.func 56) #[] #[]] w' fun e w'' => e = .returned (.bool f6) ∧ Below w'.heap.size w' w'')
    (h7 : ∀ w', Below w.heap.size w w' → Calls Tryz.prog 57 #[.slice pa pn pc, .func (.func 52) #[] #[]] w' fun e w'' => e = .returned (.bool f7) ∧ Below w'.heap.size w' w'')
    (h8 : ∀ w', Below w.heap.size w w' → Calls Tryz.prog 57 #[.slice aa an ac, .func (.func 52) #[] #[]] w' fun e w'' => e = .returned (.bool f8) ∧ Below w'.heap.size w' w'')
    (h10 : ∀ w', Below w.heap.size w w' → Calls Tryz.prog 58 #[.slice ea en ec, .func (.func 27) #[] #[]] w' fun e w'' => e = .returned (.bool f10) ∧ Below w'.heap.size w' w'') :
    Calls Tryz.prog 27 #[.agg #[.int .i64 10, .string tn, .int .i64 op, .int .i64 lo, .int .i64 hi, .bool lw, .bool hg, .slice ca cn cc, .bool ext, .string fr, .slice sa sn sc, .slice ma mn mc, .slice pa pn pc, .slice aa an ac, .slice ea en ec]] w fun e w' => e = .returned (.bool (f1 && (f3 && (f4 && (f5 && (f6 && (f7 && (f8 && (decide (en ≤ 1) && f10))))))))) ∧ Below w.heap.size w w' := by
  obtain ⟨f9, h9⟩ : ∃ f9, decide (en ≤ 1) = f9 := ⟨_, rfl⟩
  rw [h9]
  have z9 : decide ((en : Int) ≤ 1) = f9 := by rw [← h9]; exact decide_eq_decide.2 (by omega)
  have H1 := Lib.hid h1
  have H3 := Lib.hid h3
  have H4 := Lib.hid h4
  have H5 := Lib.hid h5
  have H6 := Lib.hid h6
  have H7 := Lib.hid h7
  have H8 := Lib.hid h8
  have H10 := Lib.hid h10
  clear h1 h3 h4 h5 h6 h7 h8 h10 h9
  have HX := Lib.hid (Bx.new w #[.int .i64 10, .string tn, .int .i64 op, .int .i64 lo, .int .i64 hi, .bool lw, .bool hg, .slice ca cn cc, .bool ext, .string fr, .slice sa sn sc, .slice ma mn mc, .slice pa pn pc, .slice aa an ac, .slice ea en ec] 39)
  have HB := Lib.hid ((Below.refl w.heap.size w).alloc (Nat.le_refl _) (.cells #[.int .i64 10, .string tn, .int .i64 op, .int .i64 lo, .int .i64 hi, .bool lw, .bool hg, .slice ca cn cc, .bool ext, .string fr, .slice sa sn sc, .slice ma mn mc, .slice pa pn pc, .slice aa an ac, .slice ea en ec] 39))
  obtain ⟨res, hres⟩ : ∃ res, (f1 && (f3 && (f4 && (f5 && (f6 && (f7 && (f8 && (f9 && f10)))))))) = res := ⟨_, rfl⟩
  have HRES := Lib.hid hres
  rw [hres]
  clear hres
  go_enter Tryz.func27, Tryz.ntmps27
  go_wp2_with (refine wpList_load_mid rfl 39 (.tmp 1) rfl w.heap.size 0 rfl [.int .i64 10, .string tn, .int .i64 op, .int .i64 lo, .int .i64 hi, .bool lw, .bool hg, .slice ca cn cc, .bool ext, .string fr, .slice sa sn sc, .slice ma mn mc, .slice pa pn pc, .slice aa an ac, .slice ea en ec] _ HX.out.range Tryz.underlying39 rfl (by kernel_rfl) ?_)
  refine (H1.out _ HB.out).mono ?_
  rintro e w1 ⟨rfl, hb⟩
  have HB1 := Lib.hid (HB.out.trans (hb.mono HB.out.size))
  have hx1 := HX.out.below hb HX.out.lt
  have HX1 := Lib.hid hx1
  have c0 := hx1.cell 0 rfl
  have c1 := hx1.cell 1 rfl
  have c2 := hx1.cell 2 rfl
  have c3 := hx1.cell 3 rfl
  have c4 := hx1.cell 4 rfl
  have c5 := hx1.cell 5 rfl
  have c6 := hx1.cell 6 rfl
  have c7 := hx1.cell 7 rfl
  have c8 := hx1.cell 8 rfl
  have c9 := hx1.cell 9 rfl
  have c10 := hx1.cell 10 rfl
  have c11 := hx1.cell 11 rfl
  have c12 := hx1.cell 12 rfl
  have c13 := hx1.cell 13 rfl
  have c14 := hx1.cell 14 rfl
  clear hb hx1 H1 HB HX
  cases f1 with
  | false =>
    obtain rfl : res = false := by rw [← HRES.out]; rfl
    go_wp2_with fail
    go_ret
    exact ⟨rfl, HB1.out⟩
  | true =>
    have HRES := Lib.hid (show (f3 && (f4 && (f5 && (f6 && (f7 && (f8 && (f9 && f10))))))) = res from HRES.out)
    go_wp2_with fail
    refine (H3.out _ HB1.out).mono ?_
    rintro e w2 ⟨rfl, hb⟩
    have HB2 := Lib.hid (HB1.out.trans (hb.mono HB1.out.size))
    have hx2 := HX1.out.below hb HX1.out.lt
    have HX2 := Lib.hid hx2
    clear c0 c1 c2 c3 c4 c5 c6 c7 c8 c9 c10 c11 c12 c13 c14
    have c0 := hx2.cell 0 rfl
    have c1 := hx2.cell 1 rfl
    have c2 := hx2.cell 2 rfl
    have c3 := hx2.cell 3 rfl
    have c4 := hx2.cell 4 rfl
    have c5 := hx2.cell 5 rfl
    have c6 := hx2.cell 6 rfl
    have c7 := hx2.cell 7 rfl
    have c8 := hx2.cell 8 rfl
    have c9 := hx2.cell 9 rfl
    have c10 := hx2.cell 10 rfl
    have c11 := hx2.cell 11 rfl
    have c12 := hx2.cell 12 rfl
    have c13 := hx2.cell 13 rfl
    have c14 := hx2.cell 14 rfl
    clear hb hx2 H3 HB1 HX1
    cases f3 with
    | false =>
      obtain rfl : res = false := by rw [← HRES.out]; rfl
      go_wp2_with fail
      go_ret
      exact ⟨rfl, HB2.out⟩
    | true =>
      have HRES := Lib.hid (show (f4 && (f5 && (f6 && (f7 && (f8 && (f9 && f10)))))) = res from HRES.out)
      go_wp2_with fail
      refine (H4.out _ HB2.out).mono ?_
      rintro e w3 ⟨rfl, hb⟩
      have HB3 := Lib.hid (HB2.out.trans (hb.mono HB2.out.size))
      have hx3 := HX2.out.below hb HX2.out.lt
      have HX3 := Lib.hid hx3
      clear c0 c1 c2 c3 c4 c5 c6 c7 c8 c9 c10 c11 c12 c13 c14
      have c0 := hx3.cell 0 rfl
      have c1 := hx3.cell 1 rfl
      have c2 := hx3.cell 2 rfl
      have c3 := hx3.cell 3 rfl
      have c4 := hx3.cell 4 rfl
      have c5 := hx3.cell 5 rfl
      have c6 := hx3.cell 6 rfl
      have c7 := hx3.cell 7 rfl
      have c8 := hx3.cell 8 rfl
      have c9 := hx3.cell 9 rfl
      have c10 := hx3.cell 10 rfl
      have c11 := hx3.cell 11 rfl
      have c12 := hx3.cell 12 rfl
      have c13 := hx3.cell 13 rfl
      have c14 := hx3.cell 14 rfl
      clear hb hx3 H4 HB2 HX2
      cases f4 with
      | false =>
        obtain rfl : res = false := by rw [← HRES.out]; rfl
        go_wp2_with fail
        go_ret
        exact ⟨rfl, HB3.out⟩
      | true =>
        have HRES := Lib.hid (show (f5 && (f6 && (f7 && (f8 && (f9 && f10))))) = res from HRES.out)
        go_wp2_with fail
        refine (H5.out _ HB3.out).mono ?_
        rintro e w4 ⟨rfl, hb⟩
        have HB4 := Lib.hid (HB3.out.trans (hb.mono HB3.out.size))
        have hx4 := HX3.out.below hb HX3.out.lt
        have HX4 := Lib.hid hx4
        clear c0 c1 c2 c3 c4 c5 c6 c7 c8 c9 c10 c11 c12 c13 c14
        have c0 := hx4.cell 0 rfl
        have c1 := hx4.cell 1 rfl
        have c2 := hx4.cell 2 rfl
        have c3 := hx4.cell 3 rfl
        have c4 := hx4.cell 4 rfl
        have c5 := hx4.cell 5 rfl
        have c6 := hx4.cell 6 rfl
        have c7 := hx4.cell 7 rfl
        have c8 := hx4.cell 8 rfl
        have c9 := hx4.cell 9 rfl
        have c10 := hx4.cell 10 rfl
        have c11 := hx4.cell 11 rfl
        have c12 := hx4.cell 12 rfl
        have c13 := hx4.cell 13 rfl
        have c14 := hx4.cell 14 rfl
        clear hb hx4 H5 HB3 HX3
        cases f5 with
        | false =>
          obtain rfl : res = false := by rw [← HRES.out]; rfl
          go_wp2_with fail
          go_ret
          exact ⟨rfl, HB4.out⟩
        | true =>
          have HRES := Lib.hid (show (f6 && (f7 && (f8 && (f9 && f10)))) = res from HRES.out)
          go_wp2_with fail
          refine (H6.out _ HB4.out).mono ?_
          rintro e w5 ⟨rfl, hb⟩
          have HB5 := Lib.hid (HB4.out.trans (hb.mono HB4.out.size))
          have hx5 := HX4.out.below hb HX4.out.lt
          have HX5 := Lib.hid hx5
          clear c0 c1 c2 c3 c4 c5 c6 c7 c8 c9 c10 c11 c12 c13 c14
          have c0 := hx5.cell 0 rfl
          have c1 := hx5.cell 1 rfl
          have c2 := hx5.cell 2 rfl
          have c3 := hx5.cell 3 rfl
          have c4 := hx5.cell 4 rfl
          have c5 := hx5.cell 5 rfl
          have c6 := hx5.cell 6 rfl
          have c7 := hx5.cell 7 rfl
          have c8 := hx5.cell 8 rfl
          have c9 := hx5.cell 9 rfl
          have c10 := hx5.cell 10 rfl
          have c11 := hx5.cell 11 rfl
          have c12 := hx5.cell 12 rfl
          have c13 := hx5.cell 13 rfl
          have c14 := hx5.cell 14 rfl
          clear hb hx5 H6 HB4 HX4
          cases f6 with
          | false =>
            obtain rfl : res = false := by rw [← HRES.out]; rfl
            go_wp2_with fail
            go_ret
            exact ⟨rfl, HB5.out⟩
          | true =>
            have HRES := Lib.hid (show (f7 && (f8 && (f9 && f10))) = res from HRES.out)
            go_wp2_with fail
            refine (H7.out _ HB5.out).mono ?_
            rintro e w6 ⟨rfl, hb⟩
            have HB6 := Lib.hid (HB5.out.trans (hb.mono HB5.out.size))
            have hx6 := HX5.out.below hb HX5.out.lt
            have HX6 := Lib.hid hx6
            clear c0 c1 c2 c3 c4 c5 c6 c7 c8 c9 c10 c11 c12 c13 c14
            have c0 := hx6.cell 0 rfl
            have c1 := hx6.cell 1 rfl
            have c2 := hx6.cell 2 rfl
            have c3 := hx6.cell 3 rfl
            have c4 := hx6.cell 4 rfl
            have c5 := hx6.cell 5 rfl
            have c6 := hx6.cell 6 rfl
            have c7 := hx6.cell 7 rfl
            have c8 := hx6.cell 8 rfl
            have c9 := hx6.cell 9 rfl
            have c10 := hx6.cell 10 rfl
            have c11 := hx6.cell 11 rfl
            have c12 := hx6.cell 12 rfl
            have c13 := hx6.cell 13 rfl
            have c14 := hx6.cell 14 rfl
            clear hb hx6 H7 HB5 HX5
            cases f7 with
            | false =>
              obtain rfl : res = false := by rw [← HRES.out]; rfl
              go_wp2_with fail
              go_ret
              exact ⟨rfl, HB6.out⟩
            | true =>
              have HRES := Lib.hid (show (f8 && (f9 && f10)) = res from HRES.out)
              go_wp2_with fail
              refine (H8.out _ HB6.out).mono ?_
              rintro e w7 ⟨rfl, hb⟩
              have HB7 := Lib.hid (HB6.out.trans (hb.mono HB6.out.size))
              have hx7 := HX6.out.below hb HX6.out.lt
              have HX7 := Lib.hid hx7
              clear c0 c1 c2 c3 c4 c5 c6 c7 c8 c9 c10 c11 c12 c13 c14
              have c0 := hx7.cell 0 rfl
              have c1 := hx7.cell 1 rfl
              have c2 := hx7.cell 2 rfl
              have c3 := hx7.cell 3 rfl
              have c4 := hx7.cell 4 rfl
              have c5 := hx7.cell 5 rfl
              have c6 := hx7.cell 6 rfl
              have c7 := hx7.cell 7 rfl
              have c8 := hx7.cell 8 rfl
              have c9 := hx7.cell 9 rfl
              have c10 := hx7.cell 10 rfl
              have c11 := hx7.cell 11 rfl
              have c12 := hx7.cell 12 rfl
              have c13 := hx7.cell 13 rfl
              have c14 := hx7.cell 14 rfl
              clear hb hx7 H8 HB6 HX6
              cases f8 with
              | false =>
                obtain rfl : res = false := by rw [← HRES.out]; rfl
                go_wp2_with fail
                go_ret
                exact ⟨rfl, HB7.out⟩
              | true =>
                have HRES := Lib.hid (show (f9 && f10) = res from HRES.out)
                cases f9 with
                | false =>
                  obtain rfl : res = false := by rw [← HRES.out]; rfl
                  go_wp2_with fail
                  go_ret
                  exact ⟨rfl, HB7.out⟩
                | true =>
                  have HRES := Lib.hid (show f10 = res from HRES.out)
                  go_wp2_with fail
                  refine (H10.out _ HB7.out).mono ?_
                  rintro e w8 ⟨rfl, hb⟩
                  have HB8 := Lib.hid (HB7.out.trans (hb.mono HB7.out.size))
                  clear hb
                  go_wp2_with fail
                  go_ret
                  refine ⟨?_, HB8.out⟩
                  rw [← HRES.out]
                  rfl
end Go.Proofs.YtgmnojnalkhepaaGreatDoor

/-
  Package shape: 'isType', its calls one behind the other (Kind 11).
-/
namespace Go.Proofs.YtgmnojnalkhepaaGreatDoor
open Go.RowKit
set_option linter.unusedVariables false
set_option linter.unusedSimpArgs false
set_option maxRecDepth 100000

set_option maxHeartbeats 8000000 in
theorem isTypeW_11 (tn : ByteArray) (op lo hi : Int) (lw hg : Bool) (ca : Option Addr) (cn cc : Nat) (ext : Bool) (fr : ByteArray) (sa : Option Addr) (sn sc : Nat) (ma : Option Addr) (mn mc : Nat) (pa : Option Addr) (pn pc : Nat) (aa : Option Addr) (an ac : Nat) (ea : Option Addr) (en ec : Nat) (w : World) (f1 f2 f3 f4 f5 f6 f7 f8 f10 : Bool)
    (h1 : ∀ w', Below w.heap.size w w' → Calls Tryz.prog 53 #[.agg #[.int .i64 11, .string tn, .int .i64 op, .int .i64 lo, .int .i64 hi, .bool lw, .bool hg, .slice ca cn cc, .bool ext, .string fr, .slice sa sn sc, .slice ma mn mc, .slice pa pn pc, .slice aa an ac, .slice ea en ec]] w' fun e w'' => e = .returned (.bool f1) ∧ Below w'.heap.size w' w'')
    (h2 : ∀ w', Below w.heap.size w w' → Calls Tryz.prog 16 #[.string tn] w' fun e w'' => e = .returned (.bool f2) ∧ Below w'.heap.size w' w'')
    (h3 : ∀ w', Below w.heap.size w w' → Calls Tryz.prog 54 #[.agg #[.int .i64 op, .int .i64 lo, .int .i64 hi, .bool lw, .bool hg, .slice ca cn cc]] w' fun e w'' => e = .returned (.bool f3) ∧ Below w'.heap.size w' w'')
    (h4 : ∀ w', Below w.heap.size w w' → Calls Tryz.prog 55 #[.string fr] w' fun e w'' => e = .returned (.bool f4) ∧ Below w'.heap.size w' w'')
    (h5 : ∀ w', Below w.heap.size w w' → Calls Tryz.prog 32 #[.slice sa sn sc, .func (.func 56) #[] #[]] w' fun e w'' => e = .returned (.bool f5) ∧ Below w'.heap.size w' w'')
    (h6 : ∀ w', Below w.heap.size w w' → Calls Tryz.prog 32 #[.slice ma mn mc, .func (.func 56) #[] #[]] w' fun e w'' => e = .returned (.bool f6) ∧ Below w'.heap.size w' w'')
    (h7 : ∀ w', Below w.heap.size w w' → Calls Tryz.prog 57 #[.slice pa pn pc, .func (.func 51) #[] #[]] w' fun e w'' => e = .returned (.bool f7) ∧ Below w'.heap.size w' w'')
    (h8 : ∀ w', Below w.heap.size w w' → Calls Tryz.prog 57 #[.slice aa an ac, .func (.func 51) #[] #[]] w' fun e w'' => e = .returned (.bool f8) ∧ Below w'.heap.size w' w'')
    (h10 : ∀ w', Below w.heap.size w w' → Calls Tryz.prog 58 #[.slice ea en ec, .func (.func 27) #[] #[]] w' fun e w'' => e = .returned (.bool f10) ∧ Below w'.heap.size w' w'') :
    Calls Tryz.prog 27 #[.agg #[.int .i64 11, .string tn, .int .i64 op, .int .i64 lo, .int .i64 hi, .bool lw, .bool hg, .slice ca cn cc, .bool ext, .string fr, .slice sa sn sc, .slice ma mn mc, .slice pa pn pc, .slice aa an ac, .slice ea en ec]] w fun e w' => e = .returned (.bool (f1 && (f2 && (f3 && (f4 && (f5 && (f6 && (f7 && (f8 && (decide (en ≤ 1) && f10)))))))))) ∧ Below w.heap.size w w' := by
  obtain ⟨f9, h9⟩ : ∃ f9, decide (en ≤ 1) = f9 := ⟨_, rfl⟩
  rw [h9]
  have z9 : decide ((en : Int) ≤ 1) = f9 := by rw [← h9]; exact decide_eq_decide.2 (by omega)
  have H1 := Lib.hid h1
  have H2 := Lib.hid h2
  have H3 := Lib.hid h3
  have H4 := Lib.hid h4
  have H5 := Lib.hid h5
  have H6 := Lib.hid h6
  have H7 := Lib.hid h7
  have H8 := Lib.hid h8
  have H10 := Lib.hid h10
  clear h1 h2 h3 h4 h5 h6 h7 h8 h10 h9
  have HX := Lib.hid (Bx.new w #[.int .i64 11, .string tn, .int .i64 op, .int .i64 lo, .int .i64 hi, .bool lw, .bool hg, .slice ca cn cc, .bool ext, .string fr, .slice sa sn sc, .slice ma mn mc, .slice pa pn pc, .slice aa an ac, .slice ea en ec] 39)
  have HB := Lib.hid ((Below.refl w.heap.size w).alloc (Nat.le_refl _) (.cells #[.int .i64 11, .string tn, .int .i64 op, .int .i64 lo, .int .i64 hi, .bool lw, .bool hg, .slice ca cn cc, .bool ext, .string fr, .slice sa sn sc, .slice ma mn mc, .slice pa pn pc, .slice aa an ac, .slice ea en ec] 39))
  obtain ⟨res, hres⟩ : ∃ res, (f1 && (f2 && (f3 && (f4 && (f5 && (f6 && (f7 && (f8 && (f9 && f10))))))))) = res := ⟨_, rfl⟩
  have HRES := Lib.hid hres
  rw [hres]
  clear hres
  go_enter Tryz.func27, Tryz.ntmps27
  go_wp2_with (refine wpList_load_mid rfl 39 (.tmp 1) rfl w.heap.size 0 rfl [.int .i64 11, .string tn, .int .i64 op, .int .i64 lo, .int .i64 hi, .bool lw, .bool hg, .slice ca cn cc, .bool ext, .string fr, .slice sa sn sc, .slice ma mn mc, .slice pa pn pc, .slice aa an ac, .slice ea en ec] _ HX.out.range Tryz.underlying39 rfl (by kernel_rfl) ?_)
  refine (H1.out _ HB.out).mono ?_
  rintro e w1 ⟨rfl, hb⟩
  have HB1 := Lib.hid (HB.out.trans (hb.mono HB.out.size))
  have hx1 := HX.out.below hb HX.out.lt
  have HX1 := Lib.hid hx1
  have c0 := hx1.cell 0 rfl
  have c1 := hx1.cell 1 rfl
  have c2 := hx1.cell 2 rfl
  have c3 := hx1.cell 3 rfl
  have c4 := hx1.cell 4 rfl
  have c5 := hx1.cell 5 rfl
  have c6 := hx1.cell 6 rfl
  have c7 := hx1.cell 7 rfl
  have c8 := hx1.cell 8 rfl
  have c9 := hx1.cell 9 rfl
  have c10 := hx1.cell 10 rfl
  have c11 := hx1.cell 11 rfl
  have c12 := hx1.cell 12 rfl
  have c13 := hx1.cell 13 rfl
  have c14 := hx1.cell 14 rfl
  clear hb hx1 H1 HB HX
  cases f1 with
  | false =>
    obtain rfl : res = false := by rw [← HRES.out]; rfl
    go_wp2_with fail
    go_ret
    exact ⟨rfl, HB1.out⟩
  | true =>
    have HRES := Lib.hid (show (f2 && (f3 && (f4 && (f5 && (f6 && (f7 && (f8 && (f9 && f10)))))))) = res from HRES.out)
    go_wp2_with fail
    refine (H2.out _ HB1.out).mono ?_
    rintro e w2 ⟨rfl, hb⟩
    have HB2 := Lib.hid (HB1.out.trans (hb.mono HB1.out.size))
    have hx2 := HX1.out.below hb HX1.out.lt
    have HX2 := Lib.hid hx2
    clear c0 c1 c2 c3 c4 c5 c6 c7 c8 c9 c10 c11 c12 c13 c14
    have c0 := hx2.cell 0 rfl
    have c1 := hx2.cell 1 rfl
    have c2 := hx2.cell 2 rfl
    have c3 := hx2.cell 3 rfl
    have c4 := hx2.cell 4 rfl
    have c5 := hx2.cell 5 rfl
    have c6 := hx2.cell 6 rfl
    have c7 := hx2.cell 7 rfl
    have c8 := hx2.cell 8 rfl
    have c9 := hx2.cell 9 rfl
    have c10 := hx2.cell 10 rfl
    have c11 := hx2.cell 11 rfl
    have c12 := hx2.cell 12 rfl
    have c13 := hx2.cell 13 rfl
    have c14 := hx2.cell 14 rfl
    clear hb hx2 H2 HB1 HX1
    cases f2 with
    | false =>
      obtain rfl : res = false := by rw [← HRES.out]; rfl
      go_wp2_with fail
      go_ret
      exact ⟨rfl, HB2.out⟩
    | true =>
      have HRES := Lib.hid (show (f3 && (f4 && (f5 && (f6 && (f7 && (f8 && (f9 && f10))))))) = res from HRES.out)
      go_wp2_with fail
      refine (H3.out _ HB2.out).mono ?_
      rintro e w3 ⟨rfl, hb⟩
      have HB3 := Lib.hid (HB2.out.trans (hb.mono HB2.out.size))
      have hx3 := HX2.out.below hb HX2.out.lt
      have HX3 := Lib.hid hx3
      clear c0 c1 c2 c3 c4 c5 c6 c7 c8 c9 c10 c11 c12 c13 c14
      have c0 := hx3.cell 0 rfl
      have c1 := hx3.cell 1 rfl
      have c2 := hx3.cell 2 rfl
      have c3 := hx3.cell 3 rfl
      have c4 := hx3.cell 4 rfl
      have c5 := hx3.cell 5 rfl
      have c6 := hx3.cell 6 rfl
      have c7 := hx3.cell 7 rfl
      have c8 := hx3.cell 8 rfl
      have c9 := hx3.cell 9 rfl
      have c10 := hx3.cell 10 rfl
      have c11 := hx3.cell 11 rfl
      have c12 := hx3.cell 12 rfl
      have c13 := hx3.cell 13 rfl
      have c14 := hx3.cell 14 rfl
      clear hb hx3 H3 HB2 HX2
      cases f3 with
      | false =>
        obtain rfl : res = false := by rw [← HRES.out]; rfl
        go_wp2_with fail
        go_ret
        exact ⟨rfl, HB3.out⟩
      | true =>
        have HRES := Lib.hid (show (f4 && (f5 && (f6 && (f7 && (f8 && (f9 && f10)))))) = res from HRES.out)
        go_wp2_with fail
        refine (H4.out _ HB3.out).mono ?_
        rintro e w4 ⟨rfl, hb⟩
        have HB4 := Lib.hid (HB3.out.trans (hb.mono HB3.out.size))
        have hx4 := HX3.out.below hb HX3.out.lt
        have HX4 := Lib.hid hx4
        clear c0 c1 c2 c3 c4 c5 c6 c7 c8 c9 c10 c11 c12 c13 c14
        have c0 := hx4.cell 0 rfl
        have c1 := hx4.cell 1 rfl
        have c2 := hx4.cell 2 rfl
        have c3 := hx4.cell 3 rfl
        have c4 := hx4.cell 4 rfl
        have c5 := hx4.cell 5 rfl
        have c6 := hx4.cell 6 rfl
        have c7 := hx4.cell 7 rfl
        have c8 := hx4.cell 8 rfl
        have c9 := hx4.cell 9 rfl
        have c10 := hx4.cell 10 rfl
        have c11 := hx4.cell 11 rfl
        have c12 := hx4.cell 12 rfl
        have c13 := hx4.cell 13 rfl
        have c14 := hx4.cell 14 rfl
        clear hb hx4 H4 HB3 HX3
        cases f4 with
        | false =>
          obtain rfl : res = false := by rw [← HRES.out]; rfl
          go_wp2_with fail
          go_ret
          exact ⟨rfl, HB4.out⟩
        | true =>
          have HRES := Lib.hid (show (f5 && (f6 && (f7 && (f8 && (f9 && f10))))) = res from HRES.out)
          go_wp2_with fail
          refine (H5.out _ HB4.out).mono ?_
          rintro e w5 ⟨rfl, hb⟩
          have HB5 := Lib.hid (HB4.out.trans (hb.mono HB4.out.size))
          have hx5 := HX4.out.below hb HX4.out.lt
          have HX5 := Lib.hid hx5
          clear c0 c1 c2 c3 c4 c5 c6 c7 c8 c9 c10 c11 c12 c13 c14
          have c0 := hx5.cell 0 rfl
          have c1 := hx5.cell 1 rfl
          have c2 := hx5.cell 2 rfl
          have c3 := hx5.cell 3 rfl
          have c4 := hx5.cell 4 rfl
          have c5 := hx5.cell 5 rfl
          have c6 := hx5.cell 6 rfl
          have c7 := hx5.cell 7 rfl
          have c8 := hx5.cell 8 rfl
          have c9 := hx5.cell 9 rfl
          have c10 := hx5.cell 10 rfl
          have c11 := hx5.cell 11 rfl
          have c12 := hx5.cell 12 rfl
          have c13 := hx5.cell 13 rfl
          have c14 := hx5.cell 14 rfl
          clear hb hx5 H5 HB4 HX4
          cases f5 with
          | false =>
            obtain rfl : res = false := by rw [← HRES.out]; rfl
            go_wp2_with fail
            go_ret
            exact ⟨rfl, HB5.out⟩
          | true =>
            have HRES := Lib.hid (show (f6 && (f7 && (f8 && (f9 && f10)))) = res from HRES.out)
            go_wp2_with fail
            refine (H6.out _ HB5.out).mono ?_
            rintro e w6 ⟨rfl, hb⟩
            have HB6 := Lib.hid (HB5.out.trans (hb.mono HB5.out.size))
            have hx6 := HX5.out.below hb HX5.out.lt
            have HX6 := Lib.hid hx6
            clear c0 c1 c2 c3 c4 c5 c6 c7 c8 c9 c10 c11 c12 c13 c14
            have c0 := hx6.cell 0 rfl
            have c1 := hx6.cell 1 rfl
            have c2 := hx6.cell 2 rfl
            have c3 := hx6.cell 3 rfl
            have c4 := hx6.cell 4 rfl
            have c5 := hx6.cell 5 rfl
            have c6 := hx6.cell 6 rfl
            have c7 := hx6.cell 7 rfl
            have c8 := hx6.cell 8 rfl
            have c9 := hx6.cell 9 rfl
            have c10 := hx6.cell 10 rfl
            have c11 := hx6.cell 11 rfl
            have c12 := hx6.cell 12 rfl
            have c13 := hx6.cell 13 rfl
            have c14 := hx6.cell 14 rfl
            clear hb hx6 H6 HB5 HX5
            cases f6 with
            | false =>
              obtain rfl : res = false := by rw [← HRES.out]; rfl
              go_wp2_with fail
              go_ret
              exact ⟨rfl, HB6.out⟩
            | true =>
              have HRES := Lib.hid (show (f7 && (f8 && (f9 && f10))) = res from HRES.out)
              go_wp2_with fail
              refine (H7.out _ HB6.out).mono ?_
              rintro e w7 ⟨rfl, hb⟩
              have HB7 := Lib.hid (HB6.out.trans (hb.mono HB6.out.size))
              have hx7 := HX6.out.below hb HX6.out.lt
              have HX7 := Lib.hid hx7
              clear c0 c1 c2 c3 c4 c5 c6 c7 c8 c9 c10 c11 c12 c13 c14
              have c0 := hx7.cell 0 rfl
              have c1 := hx7.cell 1 rfl
              have c2 := hx7.cell 2 rfl
              have c3 := hx7.cell 3 rfl
              have c4 := hx7.cell 4 rfl
              have c5 := hx7.cell 5 rfl
              have c6 := hx7.cell 6 rfl
              have c7 := hx7.cell 7 rfl
              have c8 := hx7.cell 8 rfl
              have c9 := hx7.cell 9 rfl
              have c10 := hx7.cell 10 rfl
              have c11 := hx7.cell 11 rfl
              have c12 := hx7.cell 12 rfl
              have c13 := hx7.cell 13 rfl
              have c14 := hx7.cell 14 rfl
              clear hb hx7 H7 HB6 HX6
              cases f7 with
              | false =>
                obtain rfl : res = false := by rw [← HRES.out]; rfl
                go_wp2_with fail
                go_ret
                exact ⟨rfl, HB7.out⟩
              | true =>
                have HRES := Lib.hid (show (f8 && (f9 && f10)) = res from HRES.out)
                go_wp2_with fail
                refine (H8.out _ HB7.out).mono ?_
                rintro e w8 ⟨rfl, hb⟩
                have HB8 := Lib.hid (HB7.out.trans (hb.mono HB7.out.size))
                have hx8 := HX7.out.below hb HX7.out.lt
                have HX8 := Lib.hid hx8
                clear c0 c1 c2 c3 c4 c5 c6 c7 c8 c9 c10 c11 c12 c13 c14
                have c0 := hx8.cell 0 rfl
                have c1 := hx8.cell 1 rfl
                have c2 := hx8.cell 2 rfl
                have c3 := hx8.cell 3 rfl
                have c4 := hx8.cell 4 rfl
                have c5 := hx8.cell 5 rfl
                have c6 := hx8.cell 6 rfl
                have c7 := hx8.cell 7 rfl
                have c8 := hx8.cell 8 rfl
                have c9 := hx8.cell 9 rfl
                have c10 := hx8.cell 10 rfl
                have c11 := hx8.cell 11 rfl
                have c12 := hx8.cell 12 rfl
                have c13 := hx8.cell 13 rfl
                have c14 := hx8.cell 14 rfl
                clear hb hx8 H8 HB7 HX7
                cases f8 with
                | false =>
                  obtain rfl : res = false := by rw [← HRES.out]; rfl
                  go_wp2_with fail
                  go_ret
                  exact ⟨rfl, HB8.out⟩
                | true =>
                  have HRES := Lib.hid (show (f9 && f10) = res from HRES.out)
                  cases f9 with
                  | false =>
                    obtain rfl : res = false := by rw [← HRES.out]; rfl
                    go_wp2_with fail
                    go_ret
                    exact ⟨rfl, HB8.out⟩
                  | true =>
                    have HRES := Lib.hid (show f10 = res from HRES.out)
                    go_wp2_with fail
                    refine (H10.out _ HB8.out).mono ?_
                    rintro e w9 ⟨rfl, hb⟩
                    have HB9 := Lib.hid (HB8.out.trans (hb.mono HB8.out.size))
                    clear hb
                    go_wp2_with fail
                    go_ret
                    refine ⟨?_, HB9.out⟩
                    rw [← HRES.out]
                    rfl
end Go.Proofs.YtgmnojnalkhepaaGreatDoor

/-
  Package shape: 'isAlternative', 'isType'.
-/
namespace Go.Proofs.YtgmnojnalkhepaaGreatDoor
open Go.RowKit
set_option linter.unusedVariables false
set_option linter.unusedSimpArgs false
set_option maxRecDepth 100000

def altOk (p : PD) (t : Bool) : Bool := compOk p t && (!p.opt && decide (p.d.n = 0))
set_option maxHeartbeats 4000000 in
theorem alt_ok (B : Nat) (p : PD) (t : TT) (w : World) (hgs : Gs w) (hB : B ≤ w.heap.size) (hp : PDIn B w p) (ht : TIn B w t) (r : Bool)
    (hrec : ∀ w', Below w.heap.size w w' → Calls Tryz.prog 27 #[t.v] w' fun e w'' => e = .returned (.bool r) ∧ Below w'.heap.size w' w'') :
    Calls Tryz.prog 52 #[pval p t] w fun e w' => e = .returned (.bool (altOk p r)) ∧ Below w.heap.size w w' := by
  have HC := Lib.hid (fun (w' : World) (hb : Below w.heap.size w w') => comp_ok w.heap.size p t w' (hgs.below hb) hb.size (hp.below hb hB) (ht.below hb hB) r (fun w'' hb' => hrec w'' (hb.trans (hb'.mono hb.size))))
  obtain ⟨kd, tn, op, lo, hi, lw, hg, ca, cn, cc, cch, ext, fr, sa, sn, sc, sf, ma, mn, mc, mf, pa, pn, pc, pf, ptf, aa, an, ac, af, atf, ea, en, ec, etf, rfl⟩ := ht.open
  obtain ⟨qn, qo, ⟨qa, qk, qc, qf⟩⟩ := p
  have HX := Lib.hid (Bx.new w #[.string qn, .int .i64 kd, .string tn, .int .i64 op, .int .i64 lo, .int .i64 hi, .bool lw, .bool hg, .slice ca cn cc, .bool ext, .string fr, .slice sa sn sc, .slice ma mn mc, .slice pa pn pc, .slice aa an ac, .slice ea en ec, .bool qo, .slice qa qk qc] 42)
  have HB0 := Lib.hid ((Below.refl w.heap.size w).alloc (Nat.le_refl _) (.cells #[.string qn, .int .i64 kd, .string tn, .int .i64 op, .int .i64 lo, .int .i64 hi, .bool lw, .bool hg, .slice ca cn cc, .bool ext, .string fr, .slice sa sn sc, .slice ma mn mc, .slice pa pn pc, .slice aa an ac, .slice ea en ec, .bool qo, .slice qa qk qc] 42))
  obtain ⟨c, hc⟩ : ∃ c, compOk ⟨qn, qo, ⟨qa, qk, qc, qf⟩⟩ r = c := ⟨_, rfl⟩
  rw [hc] at HC
  have HRES := Lib.hid (show altOk ⟨qn, qo, ⟨qa, qk, qc, qf⟩⟩ r = (c && (!qo && decide (qk = 0))) by unfold altOk; rw [hc])
  obtain ⟨res, hres⟩ : ∃ res, altOk ⟨qn, qo, ⟨qa, qk, qc, qf⟩⟩ r = res := ⟨_, rfl⟩
  rw [hres] at HRES ⊢
  obtain ⟨b1, hb1⟩ : ∃ b1, decide (qk = 0) = b1 := ⟨_, rfl⟩
  have z1 : ((qk : Int) == 0) = b1 := by rw [← hb1, Bool.eq_iff_iff]; simp
  rw [hb1] at HRES
  clear hrec hgs hB hp hc hres ht hb1
  change Hid (∀ w', Below w.heap.size w w' → Calls Tryz.prog 51 #[.agg #[.string qn, .int .i64 kd, .string tn, .int .i64 op, .int .i64 lo, .int .i64 hi, .bool lw, .bool hg, .slice ca cn cc, .bool ext, .string fr, .slice sa sn sc, .slice ma mn mc, .slice pa pn pc, .slice aa an ac, .slice ea en ec, .bool qo, .slice qa qk qc]] w' fun e w'' => e = .returned (.bool c) ∧ Below w'.heap.size w' w'') at HC
  show Calls _ _ #[.agg #[.string qn, .int .i64 kd, .string tn, .int .i64 op, .int .i64 lo, .int .i64 hi, .bool lw, .bool hg, .slice ca cn cc, .bool ext, .string fr, .slice sa sn sc, .slice ma mn mc, .slice pa pn pc, .slice aa an ac, .slice ea en ec, .bool qo, .slice qa qk qc]] w _
  go_enter Tryz.func52, Tryz.ntmps52
  go_wp2_with (refine wpList_load_mid rfl 42 (.tmp 1) rfl w.heap.size 0 rfl [.string qn, .int .i64 kd, .string tn, .int .i64 op, .int .i64 lo, .int .i64 hi, .bool lw, .bool hg, .slice ca cn cc, .bool ext, .string fr, .slice sa sn sc, .slice ma mn mc, .slice pa pn pc, .slice aa an ac, .slice ea en ec, .bool qo, .slice qa qk qc] _ HX.out.range Tryz.underlying42 rfl (by kernel_rfl) ?_)
  refine (HC.out _ HB0.out).mono ?_
  rintro e w1 ⟨rfl, hb⟩
  have HB1 := Lib.hid (HB0.out.trans (hb.mono HB0.out.size))
  have hx1 := HX.out.below hb HX.out.lt
  have c16 := hx1.cell 16 rfl
  have c17 := hx1.cell 17 rfl
  clear hb hx1 HX HC HB0
  go_wp2_with fail
  all_goals go_ret
  all_goals refine ⟨?_, HB1.out⟩
  all_goals (have hr := HRES.out; clear HRES HB1 c16 c17; simp_all)
theorem enters_comp : Enters Tryz.prog 51 := enters_of Tryz.func51 (by kernel_rfl) rfl
theorem enters_alt : Enters Tryz.prog 52 := enters_of Tryz.func52 (by kernel_rfl) rfl
theorem enters_type : Enters Tryz.prog 27 := enters_of Tryz.func27 (by kernel_rfl) rfl
theorem enters_lower : Enters Tryz.prog 56 := enters_of Tryz.func56 (by kernel_rfl) rfl
/-- is any field of a constraint set? -/
def CT.set : CT → Bool
  | .nil => false
  | .mk op lo hi low high _ n _ _ => decide (op ≠ 0) || (decide (lo ≠ 0) || (decide (hi ≠ 0) || (low || (high || decide (0 < n)))))
/-- is a type well-formed, however deep? -/
def TT.ok : TT → Bool
  | .nil => false
  | .mk kd tn con ext fr nm mo pa pt ad at_ ea en ec et =>
    tFlds kd (decide (tn.size ≠ 0)) con.set ext (decide (fr.size ≠ 0)) (decide (0 < nm.n)) (decide (0 < mo.n)) (decide (0 < pa.n)) (decide (0 < ad.n)) (decide (0 < en)) &&
    ((decide (kd ≠ 11) || refd tn) && (con.ok 40 && (alph fr && (fewOk (fun i => lowd (nm.f i)) nm.n && (fewOk (fun i => lowd (mo.f i)) mo.n &&
      (fewOk (fun i => if kd = 10 then altOk (pa.f i) (pt i).ok else compOk (pa.f i) (pt i).ok) pa.n && (fewOk (fun i => if kd = 10 then altOk (ad.f i) (at_ i).ok else compOk (ad.f i) (at_ i).ok) ad.n && (decide (en ≤ 1) && allN (fun i => (et i).ok) en))))))))
theorem setIn_ok (kd : Int) (tn : ByteArray) (op lo hi : Int) (lw hg : Bool) (ca : Option Addr) (cn cc : Nat) (cch : Nat → CT) (ext : Bool) (fr : ByteArray) (sa : Option Addr) (sn sc : Nat) (ma : Option Addr) (mn mc : Nat) (pa : Option Addr) (pn pc : Nat) (aa : Option Addr) (an ac : Nat) (ea : Option Addr) (en ec : Nat) (w : World) :
    Calls Tryz.prog 81 #[.agg #[.int .i64 kd, .string tn, .int .i64 op, .int .i64 lo, .int .i64 hi, .bool lw, .bool hg, .slice ca cn cc, .bool ext, .string fr, .slice sa sn sc, .slice ma mn mc, .slice pa pn pc, .slice aa an ac, .slice ea en ec]] w fun e w' => e = .returned (.agg #[.bool (decide (tn.size ≠ 0)), .bool (CT.mk op lo hi lw hg ca cn cc cch).set, .bool ext, .bool (decide (fr.size ≠ 0)), .bool (decide (0 < sn)), .bool (decide (0 < mn)), .bool (decide (0 < pn)), .bool (decide (0 < an)), .bool (decide (0 < en))]) ∧ Below w.heap.size w w' := by
  by_cases ho : op = 0
  · subst ho
    refine setInType_b kd tn lo hi lw hg ca cn cc ext fr sa sn sc ma mn mc pa pn pc aa an ac ea en ec w _ _ _ _ _ _ _ (empty_size tn) _ _ _ _ rfl rfl rfl ?_ (empty_size fr) rfl rfl rfl rfl rfl
    simp [CT.set]
  · have h := setInType_a kd tn op lo hi lw hg ca cn cc ext fr sa sn sc ma mn mc pa pn pc aa an ac ea en ec w _ _ _ _ _ _ _ (empty_size tn) ho (empty_size fr) rfl rfl rfl rfl rfl
    have e : (CT.mk op lo hi lw hg ca cn cc cch).set = true := by simp [CT.set, ho]
    rw [e]
    exact h
theorem hasTy_ok (kd : Int) (cs : List Value) (hl : cs.length = 15) (h0 : cs[0]? = some (.int .i64 kd)) (w : World) (b0 b1 ext b3 b4 b5 b6 b7 b8 : Bool)
    (hs : ∀ w, Calls Tryz.prog 81 #[.agg cs.toArray] w fun e w' => e = .returned (.agg #[.bool b0, .bool b1, .bool ext, .bool b3, .bool b4, .bool b5, .bool b6, .bool b7, .bool b8]) ∧ Below w.heap.size w w') :
    Calls Tryz.prog 53 #[.agg cs.toArray] w fun e w' => e = .returned (.bool (tFlds kd b0 b1 ext b3 b4 b5 b6 b7 b8)) ∧ Below w.heap.size w w' := by

  by_cases k1 : kd = 1
  · subst k1
    exact hasTy_1 cs hl h0 w b0 b1 ext b3 b4 b5 b6 b7 b8 hs
  by_cases k4 : kd = 4
  · subst k4
    exact hasTy_4 cs hl h0 w b0 b1 ext b3 b4 b5 b6 b7 b8 hs
  by_cases k2 : kd = 2
  · subst k2
    exact hasTy_2 cs hl h0 w b0 b1 ext b3 b4 b5 b6 b7 b8 hs
  by_cases k5 : kd = 5
  · subst k5
    exact hasTy_5 cs hl h0 w b0 b1 ext b3 b4 b5 b6 b7 b8 hs
  by_cases k6 : kd = 6
  · subst k6
    exact hasTy_6 cs hl h0 w b0 b1 ext b3 b4 b5 b6 b7 b8 hs
  by_cases k7 : kd = 7
  · subst k7
    exact hasTy_7 cs hl h0 w b0 b1 ext b3 b4 b5 b6 b7 b8 hs
  by_cases k3 : kd = 3
  · subst k3
    exact hasTy_3 cs hl h0 w b0 b1 ext b3 b4 b5 b6 b7 b8 hs
  by_cases k8 : kd = 8
  · subst k8
    exact hasTy_8 cs hl h0 w b0 b1 ext b3 b4 b5 b6 b7 b8 hs
  by_cases k10 : kd = 10
  · subst k10
    exact hasTy_10 cs hl h0 w b0 b1 ext b3 b4 b5 b6 b7 b8 hs
  by_cases k9 : kd = 9
  · subst k9
    exact hasTy_9 cs hl h0 w b0 b1 ext b3 b4 b5 b6 b7 b8 hs
  by_cases k11 : kd = 11
  · subst k11
    exact hasTy_11 cs hl h0 w b0 b1 ext b3 b4 b5 b6 b7 b8 hs
  exact hasTy_o kd (by omega) cs hl h0 w b0 b1 ext b3 b4 b5 b6 b7 b8 hs
set_option maxHeartbeats 4000000 in
theorem isType_ok : ∀ (t : TT) (B : Nat) (w : World), Gs w → TIn B w t → B ≤ w.heap.size →
    Calls Tryz.prog 27 #[t.v] w fun e w' => e = .returned (.bool t.ok) ∧ Below w.heap.size w w'
  | .nil, B, w, _, h, _ => h.elim
  | .mk kd tn .nil ext fr nm mo pa pt ad at_ ea en ec et, B, w, _, h, _ => h.1.2.2.1.elim
  | .mk kd tn (.mk op lo hi lw hg ca cn cc cch) ext fr ⟨sa, sn, sc, sf⟩ ⟨ma, mn, mc, mf⟩ ⟨pa, pn, pc, pf⟩ ptf ⟨aa, an, ac, af⟩ atf ea en ec etf, B, w, hgs, h, hB => by
    obtain ⟨⟨hk, htn, hcon, hfr, hnm, hmo⟩, ⟨hpr, hp⟩, ⟨har, ha⟩, ⟨her, he⟩⟩ := h
    have RP := fun i (hi : i < pn) (w' : World) (hb : Below w.heap.size w w') => isType_ok (ptf i) w.heap.size w' (hgs.below hb) ((hp i hi).2.below hb hB) hb.size
    have RA := fun i (hi : i < an) (w' : World) (hb : Below w.heap.size w w') => isType_ok (atf i) w.heap.size w' (hgs.below hb) ((ha i hi).2.below hb hB) hb.size
    have RE := fun i (hi : i < en) (w' : World) (hb : Below w.heap.size w w') => isType_ok (etf i) w.heap.size w' (hgs.below hb) ((he i hi).below hb hB) hb.size
    have G1 := fun (w' : World) (_ : Below w.heap.size w w') => hasTy_ok kd [.int .i64 kd, .string tn, .int .i64 op, .int .i64 lo, .int .i64 hi, .bool lw, .bool hg, .slice ca cn cc, .bool ext, .string fr, .slice sa sn sc, .slice ma mn mc, .slice pa pn pc, .slice aa an ac, .slice ea en ec] rfl rfl w' _ _ _ _ _ _ _ _ _ (fun w => setIn_ok kd tn op lo hi lw hg ca cn cc cch ext fr sa sn sc ma mn mc pa pn pc aa an ac ea en ec w)
    have G2 := fun (w' : World) (hb : Below w.heap.size w w') => isRef_ok tn w' (hgs.below hb) htn
    have G3 := fun (w' : World) (hb : Below w.heap.size w w') => con_ok (.mk op lo hi lw hg ca cn cc cch) w.heap.size w' (hcon.below hb hB) hb.size
    have G4 := fun (w' : World) (_ : Below w.heap.size w w') => isAlph_ok fr w' hfr
    have GS := fun (a : Option Addr) (n cap : Nat) (f : Nat → ByteArray) (hn : SLIn B w ⟨a, n, cap, f⟩) (w' : World) (hb : Below w.heap.size w w') => fewS_ok w.heap.size w' a n cap f 56 #[] #[] (fun i => lowd (f i)) enters_lower hb.size (hn.1.below hb hB)
      (fun i hi w'' hb' => lower_ok (f i) w'' (hgs.below (hb.trans (hb'.mono hb.size))).gl (hn.2 i hi))
    have GC := fun (a : Option Addr) (n cap : Nat) (f : Nat → PD) (g : Nat → TT) (hr : RowAt B w a n cap 18 (fun i => pcells (f i) (g i))) (hc : ∀ i, i < n → PDIn B w (f i) ∧ TIn B w (g i)) (hrec : ∀ i, i < n → ∀ w', Below w.heap.size w w' → Calls Tryz.prog 27 #[(g i).v] w' fun e w'' => e = .returned (.bool (g i).ok) ∧ Below w'.heap.size w' w'') (w' : World) (hb : Below w.heap.size w w') =>
      fewP_ok w.heap.size w' a n cap f g 51 #[] #[] (fun i => compOk (f i) (g i).ok) enters_comp hb.size (hr.below hb hB) (fun i hi => ⟨(hc i hi).1.below hb hB, (hc i hi).2.below hb hB⟩)
      (fun i hi w'' hb' => comp_ok w.heap.size (f i) (g i) w'' (hgs.below (hb.trans (hb'.mono hb.size))) (Nat.le_trans hb.size hb'.size) ((hc i hi).1.below (hb.trans (hb'.mono hb.size)) hB) ((hc i hi).2.below (hb.trans (hb'.mono hb.size)) hB) (g i).ok (fun w3 hb3 => hrec i hi w3 ((hb.trans (hb'.mono hb.size)).trans (hb3.mono (Nat.le_trans hb.size hb'.size)))))
    have GA := fun (a : Option Addr) (n cap : Nat) (f : Nat → PD) (g : Nat → TT) (hr : RowAt B w a n cap 18 (fun i => pcells (f i) (g i))) (hc : ∀ i, i < n → PDIn B w (f i) ∧ TIn B w (g i)) (hrec : ∀ i, i < n → ∀ w', Below w.heap.size w w' → Calls Tryz.prog 27 #[(g i).v] w' fun e w'' => e = .returned (.bool (g i).ok) ∧ Below w'.heap.size w' w'') (w' : World) (hb : Below w.heap.size w w') =>
      fewP_ok w.heap.size w' a n cap f g 52 #[] #[] (fun i => altOk (f i) (g i).ok) enters_alt hb.size (hr.below hb hB) (fun i hi => ⟨(hc i hi).1.below hb hB, (hc i hi).2.below hb hB⟩)
      (fun i hi w'' hb' => alt_ok w.heap.size (f i) (g i) w'' (hgs.below (hb.trans (hb'.mono hb.size))) (Nat.le_trans hb.size hb'.size) ((hc i hi).1.below (hb.trans (hb'.mono hb.size)) hB) ((hc i hi).2.below (hb.trans (hb'.mono hb.size)) hB) (g i).ok (fun w3 hb3 => hrec i hi w3 ((hb.trans (hb'.mono hb.size)).trans (hb3.mono (Nat.le_trans hb.size hb'.size)))))
    have GE := fun (w' : World) (hb : Below w.heap.size w w') => everyT_ok w.heap.size w' ea en ec etf 27 #[] #[] (fun i => (etf i).ok) enters_type hb.size (her.below hb hB) (fun i hi => (he i hi).below hb hB)
      (fun i hi w'' hb' => RE i hi w'' (hb.trans (hb'.mono hb.size)))
    have G5 := GS sa sn sc sf hnm
    have G6 := GS ma mn mc mf hmo
    by_cases k10 : kd = 10
    · subst k10
      have h := isTypeW_10 tn op lo hi lw hg ca cn cc ext fr sa sn sc ma mn mc pa pn pc aa an ac ea en ec w _ _ _ _ _ _ _ _ G1 G3 G4 G5 G6 (GA pa pn pc pf ptf hpr hp RP) (GA aa an ac af atf har ha RA) GE
      simp only [TT.ok]
      exact h
    by_cases k11 : kd = 11
    · subst k11
      have h := isTypeW_11 tn op lo hi lw hg ca cn cc ext fr sa sn sc ma mn mc pa pn pc aa an ac ea en ec w _ _ _ _ _ _ _ _ _ G1 G2 G3 G4 G5 G6 (GC pa pn pc pf ptf hpr hp RP) (GC aa an ac af atf har ha RA) GE
      simp only [TT.ok]
      exact h
    · have h := isTypeW_o kd tn op lo hi lw hg ca cn cc ext fr sa sn sc ma mn mc pa pn pc aa an ac ea en ec w k10 k11 _ _ _ _ _ _ _ _ G1 G3 G4 G5 G6 (GC pa pn pc pf ptf hpr hp RP) (GC aa an ac af atf har ha RA) GE
      simp only [TT.ok, if_neg k10, decide_eq_true k11, Bool.true_or, Bool.true_and]
      exact h
end Go.Proofs.YtgmnojnalkhepaaGreatDoor
