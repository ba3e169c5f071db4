/-
  A bundle of texts, one behind the other: ShV5C, ShV5.
-/
import Derived.Test.YtgibjhljcdhppaaGreatDoorJQ
import Derived.Test.YtgibjhljcdhppaaGreatDoorJM
import Derived.BigQuiet
import Derived.Test.YtgibjhljcdhppaaGreatDoorJR
/-
  The document's whether two types are the same: its calls, and its loop.
-/
namespace Go.Proofs.YtgibjhljcdhppaaGreatDoor
open Go.RowKit
open Go.BigFrame
set_option linter.unusedVariables false
set_option linter.unusedSimpArgs false
set_option maxRecDepth 100000

set_option maxHeartbeats 16000000 in
theorem rSame_calls (B : Nat) (w : World) (kd op lo hi op' lo' hi' : Int) (tn fr : ByteArray) (lw hg ext lw' hg' : Bool) (ca sa ma pa aa ea ca' sa' ma' pa' aa' ea' : Option Addr) (cn cc sn sc mn mc pn pc an ac en ec cn' cc' sn' sc' mn' mc' pn' pc' an' ac' en' ec' : Nat) (etf etf' : Nat → TT) (r0 r1 r2 r3 r4 res : Bool)
    (HC : Hid (∀ W : World, Below w.heap.size w W → Calls Tryz.prog 59 #[.agg #[.int .i64 op, .int .i64 lo, .int .i64 hi, .bool lw, .bool hg, .slice ca cn cc], .agg #[.int .i64 op', .int .i64 lo', .int .i64 hi', .bool lw', .bool hg', .slice ca' cn' cc']] W fun e w' => e = .returned (.bool r0) ∧ Below W.heap.size W w'))
    (HN : Hid (∀ W : World, Below w.heap.size w W → Calls Tryz.prog 60 #[.slice sa sn sc, .slice sa' sn' sc'] W fun e w' => e = .returned (.bool r1) ∧ Below W.heap.size W w'))
    (HM : Hid (∀ W : World, Below w.heap.size w W → Calls Tryz.prog 60 #[.slice ma mn mc, .slice ma' mn' mc'] W fun e w' => e = .returned (.bool r2) ∧ Below W.heap.size W w'))
    (HP : Hid (∀ W : World, Below w.heap.size w W → Calls Tryz.prog 61 #[.slice pa pn pc, .slice pa' pn' pc'] W fun e w' => e = .returned (.bool r3) ∧ Below W.heap.size W w'))
    (HA : Hid (∀ W : World, Below w.heap.size w W → Calls Tryz.prog 61 #[.slice aa an ac, .slice aa' an' ac'] W fun e w' => e = .returned (.bool r4) ∧ Below W.heap.size W w'))
    (HREC : Hid (∀ i, i < en → i < en' → ∀ w' : World, Below w.heap.size w w' → Calls Tryz.prog 31 #[.agg (etf i).cells.toArray, .agg (etf' i).cells.toArray] w' fun e w'' => e = .returned (.bool ((etf i).same (etf' i))) ∧ Below w'.heap.size w' w''))
    (HR1 : Hid (RowAt B w ea en ec 15 (fun i => (etf i).cells))) (HR2 : Hid (RowAt B w ea' en' ec' 15 (fun i => (etf' i).cells)))
    (HT1 : Hid (∀ i, i < en → TIn B w (etf i))) (HT2 : Hid (∀ i, i < en' → TIn B w (etf' i))) (HBB : Hid (B ≤ w.heap.size)) (hen : en ≤ 9223372036854775807)
    (HRES1 : Hid (res = (r0 && (r1 && (r2 && (r3 && (r4 && (decide (en = en') && allN (fun i => (etf i).same (etf' i)) en)))))))) :
    Calls Tryz.prog 31 #[.agg #[.int .i64 kd, .string tn, .int .i64 op, .int .i64 lo, .int .i64 hi, .bool lw, .bool hg, .slice ca cn cc, .bool ext, .string fr, .slice sa sn sc, .slice ma mn mc, .slice pa pn pc, .slice aa an ac, .slice ea en ec], .agg #[.int .i64 kd, .string tn, .int .i64 op', .int .i64 lo', .int .i64 hi', .bool lw', .bool hg', .slice ca' cn' cc', .bool ext, .string fr, .slice sa' sn' sc', .slice ma' mn' mc', .slice pa' pn' pc', .slice aa' an' ac', .slice ea' en' ec']] w fun e w' => e = .returned (.bool res) ∧ Below w.heap.size w w' := by
  have HB0 := Lib.hid (((Below.refl w.heap.size w).alloc (Nat.le_refl _) (.cells #[.int .i64 kd, .string tn, .int .i64 op, .int .i64 lo, .int .i64 hi, .bool lw, .bool hg, .slice ca cn cc, .bool ext, .string fr, .slice sa sn sc, .slice ma mn mc, .slice pa pn pc, .slice aa an ac, .slice ea en ec] 33)).alloc (by simp) (.cells #[.int .i64 kd, .string tn, .int .i64 op', .int .i64 lo', .int .i64 hi', .bool lw', .bool hg', .slice ca' cn' cc', .bool ext, .string fr, .slice sa' sn' sc', .slice ma' mn' mc', .slice pa' pn' pc', .slice aa' an' ac', .slice ea' en' ec'] 33))
  have HX1 := Lib.hid ((Bx.new w #[.int .i64 kd, .string tn, .int .i64 op, .int .i64 lo, .int .i64 hi, .bool lw, .bool hg, .slice ca cn cc, .bool ext, .string fr, .slice sa sn sc, .slice ma mn mc, .slice pa pn pc, .slice aa an ac, .slice ea en ec] 33).alloc (.cells #[.int .i64 kd, .string tn, .int .i64 op', .int .i64 lo', .int .i64 hi', .bool lw', .bool hg', .slice ca' cn' cc', .bool ext, .string fr, .slice sa' sn' sc', .slice ma' mn' mc', .slice pa' pn' pc', .slice aa' an' ac', .slice ea' en' ec'] 33))
  have HX2 := Lib.hid (show Bx ((w.alloc (.cells #[.int .i64 kd, .string tn, .int .i64 op, .int .i64 lo, .int .i64 hi, .bool lw, .bool hg, .slice ca cn cc, .bool ext, .string fr, .slice sa sn sc, .slice ma mn mc, .slice pa pn pc, .slice aa an ac, .slice ea en ec] 33)).alloc (.cells #[.int .i64 kd, .string tn, .int .i64 op', .int .i64 lo', .int .i64 hi', .bool lw', .bool hg', .slice ca' cn' cc', .bool ext, .string fr, .slice sa' sn' sc', .slice ma' mn' mc', .slice pa' pn' pc', .slice aa' an' ac', .slice ea' en' ec'] 33)) (w.heap.size + 1) #[.int .i64 kd, .string tn, .int .i64 op', .int .i64 lo', .int .i64 hi', .bool lw', .bool hg', .slice ca' cn' cc', .bool ext, .string fr, .slice sa' sn' sc', .slice ma' mn' mc', .slice pa' pn' pc', .slice aa' an' ac', .slice ea' en' ec'] 33 by have h := Bx.new (w.alloc (.cells #[.int .i64 kd, .string tn, .int .i64 op, .int .i64 lo, .int .i64 hi, .bool lw, .bool hg, .slice ca cn cc, .bool ext, .string fr, .slice sa sn sc, .slice ma mn mc, .slice pa pn pc, .slice aa an ac, .slice ea en ec] 33)) #[.int .i64 kd, .string tn, .int .i64 op', .int .i64 lo', .int .i64 hi', .bool lw', .bool hg', .slice ca' cn' cc', .bool ext, .string fr, .slice sa' sn' sc', .slice ma' mn' mc', .slice pa' pn' pc', .slice aa' an' ac', .slice ea' en' ec'] 33; rw [World.size_alloc] at h; exact h)
  have HK0 := Lib.hid (HC.out _ HB0.out)
  clear HC
  go_enter Tryz.func31, Tryz.ntmps31
  go_wp2_with fail
  refine HK0.out.mono ?_
  rintro e v0 ⟨rfl, hb⟩
  have HW0 := Lib.hid (HB0.out.trans (hb.mono HB0.out.size))
  have HXa0 := Lib.hid (HX1.out.below hb HX1.out.lt)
  have HXb0 := Lib.hid (HX2.out.below hb HX2.out.lt)
  clear hb HK0
  have c0 : v0.cell? ⟨w.heap.size, 10, none⟩ = some (.slice sa sn sc) := HXa0.out.cell 10 rfl
  have e0 : v0.cell? ⟨w.heap.size + 1, 10, none⟩ = some (.slice sa' sn' sc') := HXb0.out.cell 10 rfl
  cases r0 with
  | false =>
    obtain rfl : res = false := by rw [HRES1.out]; simp only [Bool.false_and, Bool.and_false, Bool.true_and]
    go_wp2_with fail
    go_ret
    exact ⟨rfl, HW0.out⟩
  | true =>
    have HK1 := Lib.hid (HN.out _ HW0.out)
    clear HN
    go_wp2_with fail
    clear c0 e0
    refine HK1.out.mono ?_
    rintro e v1 ⟨rfl, hb⟩
    have HW1 := Lib.hid (HW0.out.trans (hb.mono HW0.out.size))
    have HXa1 := Lib.hid (HXa0.out.below hb HXa0.out.lt)
    have HXb1 := Lib.hid (HXb0.out.below hb HXb0.out.lt)
    clear hb HK1
    have c1 : v1.cell? ⟨w.heap.size, 11, none⟩ = some (.slice ma mn mc) := HXa1.out.cell 11 rfl
    have e1 : v1.cell? ⟨w.heap.size + 1, 11, none⟩ = some (.slice ma' mn' mc') := HXb1.out.cell 11 rfl
    cases r1 with
    | false =>
      obtain rfl : res = false := by rw [HRES1.out]; simp only [Bool.false_and, Bool.and_false, Bool.true_and]
      go_wp2_with fail
      go_ret
      exact ⟨rfl, HW1.out⟩
    | true =>
      have HK2 := Lib.hid (HM.out _ HW1.out)
      clear HM
      go_wp2_with fail
      clear c1 e1
      refine HK2.out.mono ?_
      rintro e v2 ⟨rfl, hb⟩
      have HW2 := Lib.hid (HW1.out.trans (hb.mono HW1.out.size))
      have HXa2 := Lib.hid (HXa1.out.below hb HXa1.out.lt)
      have HXb2 := Lib.hid (HXb1.out.below hb HXb1.out.lt)
      clear hb HK2
      have c2 : v2.cell? ⟨w.heap.size, 12, none⟩ = some (.slice pa pn pc) := HXa2.out.cell 12 rfl
      have e2 : v2.cell? ⟨w.heap.size + 1, 12, none⟩ = some (.slice pa' pn' pc') := HXb2.out.cell 12 rfl
      cases r2 with
      | false =>
        obtain rfl : res = false := by rw [HRES1.out]; simp only [Bool.false_and, Bool.and_false, Bool.true_and]
        go_wp2_with fail
        go_ret
        exact ⟨rfl, HW2.out⟩
      | true =>
        have HK3 := Lib.hid (HP.out _ HW2.out)
        clear HP
        go_wp2_with fail
        clear c2 e2
        refine HK3.out.mono ?_
        rintro e v3 ⟨rfl, hb⟩
        have HW3 := Lib.hid (HW2.out.trans (hb.mono HW2.out.size))
        have HXa3 := Lib.hid (HXa2.out.below hb HXa2.out.lt)
        have HXb3 := Lib.hid (HXb2.out.below hb HXb2.out.lt)
        clear hb HK3
        have c3 : v3.cell? ⟨w.heap.size, 13, none⟩ = some (.slice aa an ac) := HXa3.out.cell 13 rfl
        have e3 : v3.cell? ⟨w.heap.size + 1, 13, none⟩ = some (.slice aa' an' ac') := HXb3.out.cell 13 rfl
        cases r3 with
        | false =>
          obtain rfl : res = false := by rw [HRES1.out]; simp only [Bool.false_and, Bool.and_false, Bool.true_and]
          go_wp2_with fail
          go_ret
          exact ⟨rfl, HW3.out⟩
        | true =>
          have HK4 := Lib.hid (HA.out _ HW3.out)
          clear HA
          go_wp2_with fail
          clear c3 e3
          refine HK4.out.mono ?_
          rintro e v4 ⟨rfl, hb⟩
          have HW4 := Lib.hid (HW3.out.trans (hb.mono HW3.out.size))
          have HXa4 := Lib.hid (HXa3.out.below hb HXa3.out.lt)
          have HXb4 := Lib.hid (HXb3.out.below hb HXb3.out.lt)
          clear hb HK4
          have c4 : v4.cell? ⟨w.heap.size, 14, none⟩ = some (.slice ea en ec) := HXa4.out.cell 14 rfl
          have e4 : v4.cell? ⟨w.heap.size + 1, 14, none⟩ = some (.slice ea' en' ec') := HXb4.out.cell 14 rfl
          cases r4 with
          | false =>
            obtain rfl : res = false := by rw [HRES1.out]; simp only [Bool.false_and, Bool.and_false, Bool.true_and]
            go_wp2_with fail
            go_ret
            exact ⟨rfl, HW4.out⟩
          | true =>
            by_cases hnn : en = en'
            rotate_left
            · have qn : ((en : Int) != (en' : Int)) = true := by simp [bne]; omega
              obtain rfl : res = false := by rw [HRES1.out, decide_eq_false hnn]; simp only [Bool.false_and, Bool.and_false]
              clear hnn
              go_wp2_with fail
              go_ret
              exact ⟨rfl, HW4.out⟩
            subst hnn
            obtain ⟨p, hp⟩ : ∃ p, (fun i => (etf i).same (etf' i)) = p := ⟨_, rfl⟩
            have HPP := Lib.hid (show ∀ i, p i = (etf i).same (etf' i) from fun i => by rw [← hp])
            have HRES2 := Lib.hid (show res = allN p en by rw [HRES1.out, hp]; simp only [decide_true, Bool.true_and])
            have qn : ((en : Int) != (en : Int)) = false := by simp
            clear HRES1 hp
            go_wp2_with fail
            clear c4 e4
            go_loopw [5] (fun iv wr => RelQ w en p w.heap.size (w.heap.size + 1) 33 #[.int .i64 kd, .string tn, .int .i64 op, .int .i64 lo, .int .i64 hi, .bool lw, .bool hg, .slice ca cn cc, .bool ext, .string fr, .slice sa sn sc, .slice ma mn mc, .slice pa pn pc, .slice aa an ac, .slice ea en ec] #[.int .i64 kd, .string tn, .int .i64 op', .int .i64 lo', .int .i64 hi', .bool lw', .bool hg', .slice ca' cn' cc', .bool ext, .string fr, .slice sa' sn' sc', .slice ma' mn' mc', .slice pa' pn' pc', .slice aa' an' ac', .slice ea' en ec'] iv wr) (fun iv _ => en - (Lib.intOf iv).toNat)
            case atStart => exact ⟨0, Nat.zero_le _, rfl, rfl, HXa4.out, HXb4.out, HW4.out⟩
            case round =>
              obtain ⟨i, hi, rfl, hall, hx1, hx2, hbel⟩ := hrel
              have HB := Lib.hid hbel
              have HAL := Lib.hid hall
              have HZ1 := Lib.hid hx1
              have HZ2 := Lib.hid hx2
              have hsz := hbel.size
              have z1 : wr.cell? ⟨w.heap.size, 14, none⟩ = some (.slice ea en ec) := hx1.cell 14 rfl
              have z2 : wr.cell? ⟨w.heap.size + 1, 14, none⟩ = some (.slice ea' en ec') := hx2.cell 14 rfl
              clear hbel hall hx1 hx2
              by_cases hlt : i < en
              · have q1 : decide ((i : Int) < (en : Int)) = true := decide_eq_true (by omega)
                have q1n : decide (i < en) = true := decide_eq_true hlt
                have q3 : IntKind.i64.wrap ((i : Int) + 1) = ((i + 1 : Nat) : Int) := wrap_succ hlt hen
                obtain ⟨g1, o1, hix1, hg1, hrd1⟩ := tRow_read HR1.out hlt
                obtain ⟨g2, o2, hix2, hg2, hrd2⟩ := tRow_read HR2.out hlt
                have HRA := Lib.hid (hrd1 wr (HB.out.block g1 (by have := HBB.out; omega)))
                have HRB := Lib.hid (hrd2 wr (HB.out.block g2 (by have := HBB.out; omega)))
                obtain ⟨kdx, tnx, opx, lox, hix, lwx, hgx, cax, cnx, ccx, cchx, extx, frx, sax, snx, scx, sfx, max, mnx, mcx, mfx, pax, pnx, pcx, pfx, ptfx, aax, anx, acx, afx, atfx, eax, enx, ecx, etfx, hk1⟩ := (HT1.out i hlt).open
                obtain ⟨kdy, tny, opy, loy, hiy, lwy, hgy, cay, cny, ccy, cchy, exty, fry, say, sny, scy, sfy, may, mny, mcy, mfy, pay, pny, pcy, pfy, ptfy, aay, any, acy, afy, atfy, eay, eny, ecy, etfy, hk2⟩ := (HT2.out i hlt).open
                have HCL := Lib.hid (fun (d : Nat) (os : Array Obj) => Calls.regrown_of (HREC.out i hlt hlt (Go.Sort.grow (redrawn wr d) os) (HB.out.trans ((below_regrown wr d os).mono hsz))))
                obtain ⟨r, hr⟩ : ∃ r, (etf i).same (etf' i) = r := ⟨_, rfl⟩
                rw [hr] at HCL
                have HPI := Lib.hid (show p i = r by rw [HPP.out, hr])
                rw [hk1, hk2] at HCL
                simp only [TT.cells, CT.cells, SL.v, PL.v, List.cons_append, List.nil_append] at HCL
                have d5x := fun d os => cell_regrown z1 d os
                have f5x := fun d os => cell_regrown z2 d os
                have k0 : wr.cell? ⟨g1, o1, none⟩ = some (.int .i64 kdx) := HRA.out 0 _ (by rw [hk1]; rfl)
                have m0 : wr.cell? ⟨g2, o2, none⟩ = some (.int .i64 kdy) := HRB.out 0 _ (by rw [hk2]; rfl)
                have d0 := fun d os => cell_regrown k0 d os
                have f0 := fun d os => cell_regrown m0 d os
                clear k0 m0
                have k1 : wr.cell? ⟨g1, o1 + 1, none⟩ = some (.string tnx) := HRA.out 1 _ (by rw [hk1]; rfl)
                have m1 : wr.cell? ⟨g2, o2 + 1, none⟩ = some (.string tny) := HRB.out 1 _ (by rw [hk2]; rfl)
                have d1 := fun d os => cell_regrown k1 d os
                have f1 := fun d os => cell_regrown m1 d os
                clear k1 m1
                have k2 : wr.cell? ⟨g1, o1 + 2, none⟩ = some (.int .i64 opx) := HRA.out 2 _ (by rw [hk1]; rfl)
                have m2 : wr.cell? ⟨g2, o2 + 2, none⟩ = some (.int .i64 opy) := HRB.out 2 _ (by rw [hk2]; rfl)
                have d2 := fun d os => cell_regrown k2 d os
                have f2 := fun d os => cell_regrown m2 d os
                clear k2 m2
                have k3 : wr.cell? ⟨g1, o1 + 3, none⟩ = some (.int .i64 lox) := HRA.out 3 _ (by rw [hk1]; rfl)
                have m3 : wr.cell? ⟨g2, o2 + 3, none⟩ = some (.int .i64 loy) := HRB.out 3 _ (by rw [hk2]; rfl)
                have d3 := fun d os => cell_regrown k3 d os
                have f3 := fun d os => cell_regrown m3 d os
                clear k3 m3
                have k4 : wr.cell? ⟨g1, o1 + 4, none⟩ = some (.int .i64 hix) := HRA.out 4 _ (by rw [hk1]; rfl)
                have m4 : wr.cell? ⟨g2, o2 + 4, none⟩ = some (.int .i64 hiy) := HRB.out 4 _ (by rw [hk2]; rfl)
                have d4 := fun d os => cell_regrown k4 d os
                have f4 := fun d os => cell_regrown m4 d os
                clear k4 m4
                have k5 : wr.cell? ⟨g1, o1 + 5, none⟩ = some (.bool lwx) := HRA.out 5 _ (by rw [hk1]; rfl)
                have m5 : wr.cell? ⟨g2, o2 + 5, none⟩ = some (.bool lwy) := HRB.out 5 _ (by rw [hk2]; rfl)
                have d5 := fun d os => cell_regrown k5 d os
                have f5 := fun d os => cell_regrown m5 d os
                clear k5 m5
                have k6 : wr.cell? ⟨g1, o1 + 6, none⟩ = some (.bool hgx) := HRA.out 6 _ (by rw [hk1]; rfl)
                have m6 : wr.cell? ⟨g2, o2 + 6, none⟩ = some (.bool hgy) := HRB.out 6 _ (by rw [hk2]; rfl)
                have d6 := fun d os => cell_regrown k6 d os
                have f6 := fun d os => cell_regrown m6 d os
                clear k6 m6
                have k7 : wr.cell? ⟨g1, o1 + 7, none⟩ = some (.slice cax cnx ccx) := HRA.out 7 _ (by rw [hk1]; rfl)
                have m7 : wr.cell? ⟨g2, o2 + 7, none⟩ = some (.slice cay cny ccy) := HRB.out 7 _ (by rw [hk2]; rfl)
                have d7 := fun d os => cell_regrown k7 d os
                have f7 := fun d os => cell_regrown m7 d os
                clear k7 m7
                have k8 : wr.cell? ⟨g1, o1 + 8, none⟩ = some (.bool extx) := HRA.out 8 _ (by rw [hk1]; rfl)
                have m8 : wr.cell? ⟨g2, o2 + 8, none⟩ = some (.bool exty) := HRB.out 8 _ (by rw [hk2]; rfl)
                have d8 := fun d os => cell_regrown k8 d os
                have f8 := fun d os => cell_regrown m8 d os
                clear k8 m8
                have k9 : wr.cell? ⟨g1, o1 + 9, none⟩ = some (.string frx) := HRA.out 9 _ (by rw [hk1]; rfl)
                have m9 : wr.cell? ⟨g2, o2 + 9, none⟩ = some (.string fry) := HRB.out 9 _ (by rw [hk2]; rfl)
                have d9 := fun d os => cell_regrown k9 d os
                have f9 := fun d os => cell_regrown m9 d os
                clear k9 m9
                have k10 : wr.cell? ⟨g1, o1 + 10, none⟩ = some (.slice sax snx scx) := HRA.out 10 _ (by rw [hk1]; rfl)
                have m10 : wr.cell? ⟨g2, o2 + 10, none⟩ = some (.slice say sny scy) := HRB.out 10 _ (by rw [hk2]; rfl)
                have d10 := fun d os => cell_regrown k10 d os
                have f10 := fun d os => cell_regrown m10 d os
                clear k10 m10
                have k11 : wr.cell? ⟨g1, o1 + 11, none⟩ = some (.slice max mnx mcx) := HRA.out 11 _ (by rw [hk1]; rfl)
                have m11 : wr.cell? ⟨g2, o2 + 11, none⟩ = some (.slice may mny mcy) := HRB.out 11 _ (by rw [hk2]; rfl)
                have d11 := fun d os => cell_regrown k11 d os
                have f11 := fun d os => cell_regrown m11 d os
                clear k11 m11
                have k12 : wr.cell? ⟨g1, o1 + 12, none⟩ = some (.slice pax pnx pcx) := HRA.out 12 _ (by rw [hk1]; rfl)
                have m12 : wr.cell? ⟨g2, o2 + 12, none⟩ = some (.slice pay pny pcy) := HRB.out 12 _ (by rw [hk2]; rfl)
                have d12 := fun d os => cell_regrown k12 d os
                have f12 := fun d os => cell_regrown m12 d os
                clear k12 m12
                have k13 : wr.cell? ⟨g1, o1 + 13, none⟩ = some (.slice aax anx acx) := HRA.out 13 _ (by rw [hk1]; rfl)
                have m13 : wr.cell? ⟨g2, o2 + 13, none⟩ = some (.slice aay any acy) := HRB.out 13 _ (by rw [hk2]; rfl)
                have d13 := fun d os => cell_regrown k13 d os
                have f13 := fun d os => cell_regrown m13 d os
                clear k13 m13
                have k14 : wr.cell? ⟨g1, o1 + 14, none⟩ = some (.slice eax enx ecx) := HRA.out 14 _ (by rw [hk1]; rfl)
                have m14 : wr.cell? ⟨g2, o2 + 14, none⟩ = some (.slice eay eny ecy) := HRB.out 14 _ (by rw [hk2]; rfl)
                have d14 := fun d os => cell_regrown k14 d os
                have f14 := fun d os => cell_regrown m14 d os
                clear k14 m14
                clear hr hk1 hk2 hrd1 hrd2 HRA HRB
                cases r with
                | true =>
                  have HNX := Lib.hid (allN_succ (f := p) HAL.out HPI.out)
                  clear HPI
                  go_wp2_with fail
                  clear z1 z2
                  refine wp_region_quiet_below (by kernel_rfl) (by kernel_rfl) ?_
                  go_big_quiet_step (fail)
                  go_big_quiet_step (fail)
                  go_big_quiet_step (fail)
                  go_big_quiet_step (fail)
                  go_big_quiet_step (fail)
                  go_big_quiet_step (fail)
                  go_big_quiet_step (fail)
                  go_big_quiet_step (fail)
                  go_big_quiet_step (fail)
                  go_big_quiet_step (fail)
                  go_big_quiet_step (exact HCL.out _ _)
                  go_big_quiet_step (fail)
                  refine wpQuiet_nil ?_
                  intro _ hw'
                  obtain ⟨⟨dq, osq⟩, hw''⟩ := hw'
                  subst hw''
                  have hb2 := below_regrown wr dq osq
                  clear d5x f5x d0 f0 d1 f1 d2 f2 d3 f3 d4 f4 d5 f5 d6 f6 d7 f7 d8 f8 d9 f9 d10 f10 d11 f11 d12 f12 d13 f13 d14 f14 HCL
                  generalize Go.Sort.grow (redrawn wr dq) osq = W2 at *
                  have HB1 := Lib.hid (HB.out.trans (hb2.mono hsz))
                  have HW1 := Lib.hid (HZ1.out.below hb2 HZ1.out.lt)
                  have HW2 := Lib.hid (HZ2.out.below hb2 HZ2.out.lt)
                  clear hb2
                  go_wp2_with fail
                  go_roundw
                  case rel => exact ⟨i + 1, hlt, rfl, HNX.out, HW1.out, HW2.out, HB1.out⟩
                  case measure => simp only [Lib.intOf]; omega
                | false =>
                  have HNX := Lib.hid (allN_no (f := p) hlt HPI.out)
                  obtain rfl : res = false := by rw [HRES2.out, HNX.out]
                  clear HPI
                  go_wp2_with fail
                  clear z1 z2
                  refine wp_region_quiet_below (by kernel_rfl) (by kernel_rfl) ?_
                  go_big_quiet_step (fail)
                  go_big_quiet_step (fail)
                  go_big_quiet_step (fail)
                  go_big_quiet_step (fail)
                  go_big_quiet_step (fail)
                  go_big_quiet_step (fail)
                  go_big_quiet_step (fail)
                  go_big_quiet_step (fail)
                  go_big_quiet_step (fail)
                  go_big_quiet_step (fail)
                  go_big_quiet_step (exact HCL.out _ _)
                  go_big_quiet_step (fail)
                  refine wpQuiet_nil ?_
                  intro _ hw'
                  obtain ⟨⟨dq, osq⟩, hw''⟩ := hw'
                  subst hw''
                  have hb2 := below_regrown wr dq osq
                  clear d5x f5x d0 f0 d1 f1 d2 f2 d3 f3 d4 f4 d5 f5 d6 f6 d7 f7 d8 f8 d9 f9 d10 f10 d11 f11 d12 f12 d13 f13 d14 f14 HCL
                  generalize Go.Sort.grow (redrawn wr dq) osq = W2 at *
                  have HB1 := Lib.hid (HB.out.trans (hb2.mono hsz))
                  clear hb2
                  go_wp2_with fail
                  go_ret
                  exact ⟨rfl, HB1.out⟩
              · have q1 : decide ((i : Int) < (en : Int)) = false := decide_eq_false (by omega)
                have q1n : decide (i < en) = false := decide_eq_false hlt
                obtain rfl : i = en := by omega
                go_wp2_with fail
                go_ret
                refine ⟨?_, HB.out⟩
                rw [HRES2.out, HAL.out]
                rfl
end Go.Proofs.YtgibjhljcdhppaaGreatDoor

/-
  The document's whether two types are the same: 'Same'.
-/
namespace Go.Proofs.YtgibjhljcdhppaaGreatDoor
open Go.RowKit
open Go.BigFrame
set_option linter.unusedVariables false
set_option linter.unusedSimpArgs false
set_option maxRecDepth 100000

set_option maxHeartbeats 16000000 in
theorem rSame_ok : ∀ (t u : TT) (B : Nat) (w : World), TIn B w t → TIn B w u → B ≤ w.heap.size →
    Calls Tryz.prog 31 #[.agg t.cells.toArray, .agg u.cells.toArray] w fun e w' => e = .returned (.bool (t.same u)) ∧ Below w.heap.size w w'
  | .nil, _, _, _, h, _, _ => h.elim
  | .mk _ _ .nil _ _ _ _ _ _ _ _ _ _ _ _, _, _, _, h, _, _ => h.1.2.2.1.elim
  | .mk kd tn (.mk op lo hi lw hg ca cn cc cch) ext fr ⟨sa, sn, sc, sf⟩ ⟨ma, mn, mc, mf⟩ ⟨pa, pn, pc, pf⟩ ptf ⟨aa, an, ac, af⟩ atf ea en ec etf, u, B, w, ht, hu, hB => by
    have RP := fun i (hi : i < pn) (d : TT) (w' : World) (hb : Below w.heap.size w w') (hd : TIn w.heap.size w' d) => rSame_ok (ptf i) d w.heap.size w' ((ht.2.1.2 i hi).2.below hb hB) hd hb.size
    have RA := fun i (hi : i < an) (d : TT) (w' : World) (hb : Below w.heap.size w w') (hd : TIn w.heap.size w' d) => rSame_ok (atf i) d w.heap.size w' ((ht.2.2.1.2 i hi).2.below hb hB) hd hb.size
    have RE := fun i (hi : i < en) (d : TT) (w' : World) (hb : Below w.heap.size w w') (hd : TIn w.heap.size w' d) => rSame_ok (etf i) d w.heap.size w' ((ht.2.2.2.2 i hi).below hb hB) hd hb.size
    obtain ⟨kd', tn', op', lo', hi', lw', hg', ca', cn', cc', cch', ext', fr', sa', sn', sc', sf', ma', mn', mc', mf', pa', pn', pc', pf', ptf', aa', an', ac', af', atf', ea', en', ec', etf', rfl⟩ := hu.open
    obtain ⟨⟨_, _, hcon, _, hnm, hmo⟩, ⟨hpr, hp⟩, ⟨har, ha⟩, ⟨her, he⟩⟩ := ht
    obtain ⟨⟨_, _, hcon', _, hnm', hmo'⟩, ⟨hpr', hp'⟩, ⟨har', ha'⟩, ⟨her', he'⟩⟩ := hu
    have HC := Lib.hid (fun (W : World) (hb : Below w.heap.size w W) => rsameCon_ok (.mk op lo hi lw hg ca cn cc cch) (.mk op' lo' hi' lw' hg' ca' cn' cc' cch') w.heap.size W (hcon.below hb hB) (hcon'.below hb hB) hb.size)
    have HN := Lib.hid (fun (W : World) (hb : Below w.heap.size w W) => rsameTexts_ok w.heap.size W sa sn sc sf sa' sn' sc' sf' hb.size (hnm.below hb hB) (hnm'.below hb hB))
    have HM := Lib.hid (fun (W : World) (hb : Below w.heap.size w W) => rsameTexts_ok w.heap.size W ma mn mc mf ma' mn' mc' mf' hb.size (hmo.below hb hB) (hmo'.below hb hB))
    have HP := Lib.hid (fun (W : World) (hb : Below w.heap.size w W) => rsameParts_ok w.heap.size W pa pn pc pf ptf pa' pn' pc' pf' ptf' hb.size (hpr.below hb hB) (fun i hi => ⟨(hp i hi).1.below hb hB, (hp i hi).2.below hb hB⟩) (hpr'.below hb hB) (fun i hi => ⟨(hp' i hi).1.below hb hB, (hp' i hi).2.below hb hB⟩)
      (fun i hi hi' w' hb' => RP i hi (ptf' i) w' (hb.trans (hb'.mono hb.size)) ((hp' i hi').2.below (hb.trans (hb'.mono hb.size)) hB)))
    have HA := Lib.hid (fun (W : World) (hb : Below w.heap.size w W) => rsameParts_ok w.heap.size W aa an ac af atf aa' an' ac' af' atf' hb.size (har.below hb hB) (fun i hi => ⟨(ha i hi).1.below hb hB, (ha i hi).2.below hb hB⟩) (har'.below hb hB) (fun i hi => ⟨(ha' i hi).1.below hb hB, (ha' i hi).2.below hb hB⟩)
      (fun i hi hi' w' hb' => RA i hi (atf' i) w' (hb.trans (hb'.mono hb.size)) ((ha' i hi').2.below (hb.trans (hb'.mono hb.size)) hB)))
    have HREC := Lib.hid (fun i (hi : i < en) (hi' : i < en') (w' : World) (hb : Below w.heap.size w w') => RE i hi (etf' i) w' hb ((he' i hi').below hb hB))
    have HR1 := Lib.hid her
    have HR2 := Lib.hid her'
    have HT1 := Lib.hid he
    have HT2 := Lib.hid he'
    have HBB := Lib.hid hB
    have hen : en ≤ 9223372036854775807 := by have h1 := her.1; have h2 := her.2.1; omega
    clear RP RA RE hcon hnm hmo hpr hp har ha her he hcon' hnm' hmo' hpr' hp' har' ha' her' he' hB
    obtain ⟨res, hres⟩ : ∃ res, (TT.mk kd tn (.mk op lo hi lw hg ca cn cc cch) ext fr ⟨sa, sn, sc, sf⟩ ⟨ma, mn, mc, mf⟩ ⟨pa, pn, pc, pf⟩ ptf ⟨aa, an, ac, af⟩ atf ea en ec etf).same (TT.mk kd' tn' (.mk op' lo' hi' lw' hg' ca' cn' cc' cch') ext' fr' ⟨sa', sn', sc', sf'⟩ ⟨ma', mn', mc', mf'⟩ ⟨pa', pn', pc', pf'⟩ ptf' ⟨aa', an', ac', af'⟩ atf' ea' en' ec' etf') = res := ⟨_, rfl⟩
    have HRES : res = ((kd == kd') && (sEq tn tn' && ((ext == ext') && (sEq fr fr' && ((CT.mk op lo hi lw hg ca cn cc cch).same (.mk op' lo' hi' lw' hg' ca' cn' cc' cch') && ((SL.mk sa sn sc sf).same ⟨sa', sn', sc', sf'⟩ && ((SL.mk ma mn mc mf).same ⟨ma', mn', mc', mf'⟩ && ((decide (pn = pn') && allN (fun i => (pf i).same (pf' i) ((ptf i).same (ptf' i))) pn) && ((decide (an = an') && allN (fun i => (af i).same (af' i) ((atf i).same (atf' i))) an) && (decide (en = en') && allN (fun i => (etf i).same (etf' i)) en)))))))))) := hres.symm
    rw [hres]
    clear hres
    simp only [CT.cells] at HC
    simp only [TT.cells, CT.cells, SL.v, PL.v, List.cons_append, List.nil_append]
    cases h0 : (kd == kd') with
    | false =>
      obtain rfl : res = false := by rw [HRES]; simp only [h0, beq_self_eq_true, sEq_refl, Bool.false_and, Bool.and_false, Bool.true_and]
      clear HRES
      exact rSame_D0 w _ _ _ _ _ _ _ _ _ _ _ _ _ _ _ _ _ _ _ _ _ _ _ _ _ _ _ _ _ _ _ _ _ _ _ _ _ _ _ _ _ _ _ _ _ _ _ _ _ _ _ _ _ _ h0
    | true =>
      obtain rfl : kd = kd' := by simpa using h0
      clear h0
      cases h1 : sEq tn tn' with
      | false =>
        obtain rfl : res = false := by rw [HRES]; simp only [h1, beq_self_eq_true, sEq_refl, Bool.false_and, Bool.and_false, Bool.true_and]
        clear HRES
        exact rSame_D1 w _ _ _ _ _ _ _ _ _ _ _ _ _ _ _ _ _ _ _ _ _ _ _ _ _ _ _ _ _ _ _ _ _ _ _ _ _ _ _ _ _ _ _ _ _ _ _ _ _ _ _ _ _ h1
      | true =>
        obtain rfl : tn = tn' := by rw [sEq_eq] at h1; exact of_decide_eq_true h1
        clear h1
        cases h2 : (ext == ext') with
        | false =>
          obtain rfl : res = false := by rw [HRES]; simp only [h2, beq_self_eq_true, sEq_refl, Bool.false_and, Bool.and_false, Bool.true_and]
          clear HRES
          cases ext <;> cases ext'
          · exact absurd h2 (by decide)
          · exact rSame_D2b w _ _ _ _ _ _ _ _ _ _ _ _ _ _ _ _ _ _ _ _ _ _ _ _ _ _ _ _ _ _ _ _ _ _ _ _ _ _ _ _ _ _ _ _ _ _ _ _ _ _
          · exact rSame_D2a w _ _ _ _ _ _ _ _ _ _ _ _ _ _ _ _ _ _ _ _ _ _ _ _ _ _ _ _ _ _ _ _ _ _ _ _ _ _ _ _ _ _ _ _ _ _ _ _ _ _
          · exact absurd h2 (by decide)
        | true =>
          obtain rfl : ext = ext' := by simpa using h2
          clear h2
          cases h3 : sEq fr fr' with
          | false =>
            obtain rfl : res = false := by rw [HRES]; simp only [h3, beq_self_eq_true, sEq_refl, Bool.false_and, Bool.and_false, Bool.true_and]
            clear HRES
            exact rSame_D3 w _ _ _ _ _ _ _ _ _ _ _ _ _ _ _ _ _ _ _ _ _ _ _ _ _ _ _ _ _ _ _ _ _ _ _ _ _ _ _ _ _ _ _ _ _ _ _ _ _ _ _ h3
          | true =>
            obtain rfl : fr = fr' := by rw [sEq_eq] at h3; exact of_decide_eq_true h3
            clear h3
            exact rSame_calls B w _ _ _ _ _ _ _ _ _ _ _ _ _ _ _ _ _ _ _ _ _ _ _ _ _ _ _ _ _ _ _ _ _ _ _ _ _ _ _ _ _ _ _ _ _ _ _ _ _ _ _ _ ((CT.mk op lo hi lw hg ca cn cc cch).same (.mk op' lo' hi' lw' hg' ca' cn' cc' cch')) ((SL.mk sa sn sc sf).same ⟨sa', sn', sc', sf'⟩) ((SL.mk ma mn mc mf).same ⟨ma', mn', mc', mf'⟩) (decide (pn = pn') && allN (fun i => (pf i).same (pf' i) ((ptf i).same (ptf' i))) pn) (decide (an = an') && allN (fun i => (af i).same (af' i) ((atf i).same (atf' i))) an) _ HC HN HM HP HA HREC HR1 HR2 HT1 HT2 HBB hen (Lib.hid (by rw [HRES]; simp only [beq_self_eq_true, sEq_refl, Bool.true_and]))
end Go.Proofs.YtgibjhljcdhppaaGreatDoor
