/-
  A bundle of texts, one behind the other: ShV3, ShV4.
-/
import Derived.Test.YtgibjhljcdhppaaGreatDoorJO
import Derived.BigQuiet
/-
  The document's whether two are the same: 'sameTexts', 'sameCon', 'SameValue'.
-/
namespace Go.Proofs.YtgibjhljcdhppaaGreatDoor
open Go.RowKit
set_option linter.unusedVariables false
set_option linter.unusedSimpArgs false
set_option maxRecDepth 100000

def RelQ (w : World) (n : Nat) (p : Nat → Bool) (b1 b2 : Nat) (ty : TypeId) (c1 c2 : Array Value) (iv : Value) (wr : World) : Prop :=
  ∃ i : Nat, i ≤ n ∧ iv = .int .i64 (i : Nat) ∧ allN p i = true ∧ Bx wr b1 c1 ty ∧ Bx wr b2 c2 ty ∧ Below w.heap.size w wr
set_option maxHeartbeats 4000000 in
theorem rsameTexts_ok (B : Nat) (w : World) (a : Option Addr) (n cap : Nat) (f : Nat → ByteArray) (a' : Option Addr) (n' cap' : Nat) (f' : Nat → ByteArray) (hB : B ≤ w.heap.size) (hs : SLIn B w ⟨a, n, cap, f⟩) (ht : SLIn B w ⟨a', n', cap', f'⟩) :
    Calls Tryz.prog 60 #[.slice a n cap, .slice a' n' cap'] w fun e w' => e = .returned (.bool ((SL.mk a n cap f).same ⟨a', n', cap', f'⟩)) ∧ Below w.heap.size w w' := by
  have hr1 : RowAt B w a n cap 1 (fun i => [.string (f i)]) := hs.1
  have hr2 : RowAt B w a' n' cap' 1 (fun i => [.string (f' i)]) := ht.1
  have HB0 := Lib.hid (Below.refl w.heap.size w)
  by_cases hnn : n = n'
  · subst hnn
    obtain ⟨p, hp⟩ : ∃ p, (fun i => sEq (f i) (f' i)) = p := ⟨_, rfl⟩
    have HP := Lib.hid (show ∀ i, p i = sEq (f i) (f' i) from fun i => by rw [← hp])
    have hres : (SL.mk a n cap f).same ⟨a', n, cap', f'⟩ = allN p n := by
      rw [← hp]
      show (decide (n = n) && _) = _
      rw [show decide (n = n) = true from decide_eq_true rfl, Bool.true_and]
    rw [hres]
    obtain ⟨res, hr⟩ : ∃ res, allN p n = res := ⟨_, rfl⟩
    rw [hr]
    have HRES := Lib.hid hr
    have hn : n ≤ 9223372036854775807 := by have h1 := hr1.1; have h2 := hr1.2.1; omega
    have HR1 := Lib.hid hr1
    have HR2 := Lib.hid hr2
    have HBB := Lib.hid hB
    clear hs ht hr1 hr2 hB hp hres hr
    go_enter Tryz.func60, Tryz.ntmps60
    go_wp2_with fail
    go_loopw [5] (fun iv wr => RelEv w n p iv wr) (fun iv _ => n - (Lib.intOf iv).toNat)
    case atStart => exact ⟨0, Nat.zero_le _, rfl, rfl, HB0.out⟩
    case round =>
      obtain ⟨i, hi, rfl, hall, hbel⟩ := hrel
      have HB := Lib.hid hbel
      have HA := Lib.hid hall
      have hsz := hbel.size
      clear hbel hall
      by_cases hlt : i < n
      · have q1 : decide ((i : Int) < (n : Int)) = true := decide_eq_true (by omega)
        have q1n : decide (i < n) = true := decide_eq_true hlt
        have q3 : IntKind.i64.wrap ((i : Int) + 1) = ((i + 1 : Nat) : Int) := wrap_succ hlt hn
        obtain ⟨g1, o1, hix1, hg1, hrd1⟩ := HR1.out.read 29 9 Tryz.underlying29 (by kernel_rfl) Tryz.sizeOf9 hlt
        obtain ⟨g2, o2, hix2, hg2, hrd2⟩ := HR2.out.read 29 9 Tryz.underlying29 (by kernel_rfl) Tryz.sizeOf9 hlt
        have k1 : wr.cell? ⟨g1, o1, none⟩ = some (.string (f i)) := hrd1 wr (HB.out.block g1 (by have := HBB.out; omega)) 0 _ rfl
        have k2 : wr.cell? ⟨g2, o2, none⟩ = some (.string (f' i)) := hrd2 wr (HB.out.block g2 (by have := HBB.out; omega)) 0 _ rfl
        obtain ⟨x, hx⟩ : ∃ x, f i = x := ⟨_, rfl⟩
        obtain ⟨y, hy⟩ : ∃ y, f' i = y := ⟨_, rfl⟩
        have HPI := Lib.hid (show p i = sEq x y by rw [HP.out, hx, hy])
        rw [hx] at k1
        rw [hy] at k2
        clear hx hy hrd1 hrd2
        have d1 := fun d os => cell_regrown k1 d os
        have d2 := fun d os => cell_regrown k2 d os
        clear k1 k2
        cases hxy : sEq x y with
        | true =>
          have HN := Lib.hid (allN_succ (f := p) HA.out (HPI.out.trans hxy))
          obtain rfl : x = y := by rw [sEq_eq] at hxy; exact of_decide_eq_true hxy
          clear hxy HPI
          go_wp2_with fail
          refine wp_region_quiet_below (by kernel_rfl) (by kernel_rfl) ?_
          quiet_step (fail)
          quiet_step (fail)
          quiet_step (fail)
          quiet_step (fail)
          quiet_step (fail)
          quiet_step (fail)
          quiet_step (fail)
          quiet_step (fail)
          quiet_step (fail)
          refine wpQuiet_nil ?_
          intro _ hw'
          obtain ⟨⟨dq, osq⟩, hw''⟩ := hw'
          subst hw''
          have hb2 := below_regrown wr dq osq
          clear d1 d2
          generalize Go.Sort.grow (redrawn wr dq) osq = W2 at *
          have HB1 := Lib.hid (HB.out.trans (hb2.mono hsz))
          clear hb2
          go_wp2_with fail
          go_roundw
          case rel => exact ⟨i + 1, hlt, rfl, HN.out, HB1.out⟩
          case measure => simp only [Lib.intOf]; omega
        | false =>
          have HN := Lib.hid (allN_no (f := p) hlt (HPI.out.trans hxy))
          have q4 : (x.toList != y.toList) = true := by unfold bne; rw [show (x.toList == y.toList) = false from hxy]; rfl
          have q5 : (x.toList == y.toList) = false := hxy
          obtain rfl : res = false := by rw [← HRES.out, HN.out]
          clear hxy HPI
          go_wp2_with fail
          refine wp_region_quiet_below (by kernel_rfl) (by kernel_rfl) ?_
          quiet_step (fail)
          quiet_step (fail)
          quiet_step (fail)
          quiet_step (fail)
          quiet_step (fail)
          quiet_step (fail)
          quiet_step (fail)
          quiet_step (fail)
          quiet_step (fail)
          refine wpQuiet_nil ?_
          intro _ hw'
          obtain ⟨⟨dq, osq⟩, hw''⟩ := hw'
          subst hw''
          have hb2 := below_regrown wr dq osq
          clear d1 d2
          generalize Go.Sort.grow (redrawn wr dq) osq = W2 at *
          have HB1 := Lib.hid (HB.out.trans (hb2.mono hsz))
          clear hb2
          go_wp2_with fail
          go_ret
          exact ⟨rfl, HB1.out⟩
      · have q1 : decide ((i : Int) < (n : Int)) = false := decide_eq_false (by omega)
        have q1n : decide (i < n) = false := decide_eq_false hlt
        obtain rfl : i = n := by omega
        go_wp2_with fail
        go_ret
        refine ⟨?_, HB.out⟩
        rw [← HRES.out, HA.out]
        rfl
  · have q0 : ((n : Int) != (n' : Int)) = true := by simp [bne]; omega
    rw [show (SL.mk a n cap f).same ⟨a', n', cap', f'⟩ = false by show (decide (n = n') && _) = false; rw [decide_eq_false hnn]; rfl]
    clear hs ht hr1 hr2 hB hnn
    go_enter Tryz.func60, Tryz.ntmps60
    go_wp2_with fail
    go_ret
    exact ⟨rfl, HB0.out⟩
set_option maxHeartbeats 8000000 in
theorem rsameCon_ok : ∀ (c d : CT) (B : Nat) (w : World), CIn B w c → CIn B w d → B ≤ w.heap.size →
    Calls Tryz.prog 59 #[.agg c.cells.toArray, .agg d.cells.toArray] w fun e w' => e = .returned (.bool (c.same d)) ∧ Below w.heap.size w w'
  | .nil, _, _, _, h, _, _ => h.elim
  | .mk .., .nil, _, _, _, h, _ => h.elim
  | .mk op lo hi low high a n cap ch, .mk op' lo' hi' low' high' a' n' cap' ch', B, w, hc, hd, hB => by
    have hrec := fun i (h1 : i < n) (h2 : i < n') (w' : World) (hb : Below w.heap.size w w') => rsameCon_ok (ch i) (ch' i) w.heap.size w' ((hc.2.2 i h1).below hb hB) ((hd.2.2 i h2).below hb hB) hb.size
    cases h0 : (op == op') with
    | false =>
      have HB0 := Lib.hid (((Below.refl w.heap.size w).alloc (Nat.le_refl _) (.cells #[.int .i64 op, .int .i64 lo, .int .i64 hi, .bool low, .bool high, .slice a n cap] 24)).alloc (by simp) (.cells #[.int .i64 op', .int .i64 lo', .int .i64 hi', .bool low', .bool high', .slice a' n' cap'] 24))
      have HX1 := Lib.hid ((Bx.new w #[.int .i64 op, .int .i64 lo, .int .i64 hi, .bool low, .bool high, .slice a n cap] 24).alloc (.cells #[.int .i64 op', .int .i64 lo', .int .i64 hi', .bool low', .bool high', .slice a' n' cap'] 24))
      have HX2 := Lib.hid (show Bx ((w.alloc (.cells #[.int .i64 op, .int .i64 lo, .int .i64 hi, .bool low, .bool high, .slice a n cap] 24)).alloc (.cells #[.int .i64 op', .int .i64 lo', .int .i64 hi', .bool low', .bool high', .slice a' n' cap'] 24)) (w.heap.size + 1) #[.int .i64 op', .int .i64 lo', .int .i64 hi', .bool low', .bool high', .slice a' n' cap'] 24 by have h := Bx.new (w.alloc (.cells #[.int .i64 op, .int .i64 lo, .int .i64 hi, .bool low, .bool high, .slice a n cap] 24)) #[.int .i64 op', .int .i64 lo', .int .i64 hi', .bool low', .bool high', .slice a' n' cap'] 24; rw [World.size_alloc] at h; exact h)
      have q0 : (op != op') = true := by unfold bne; rw [show (op == op') = false from h0]; rfl
      rw [show (CT.mk op lo hi low high a n cap ch).same (CT.mk op' lo' hi' low' high' a' n' cap' ch') = false from by simp only [CT.same, VT.same, beq_self_eq_true, sEq_refl, Bool.false_and, Bool.and_false, Bool.true_and, h0]]
      clear hc hd hB hrec h0
      simp only [CT.cells, VT.cells, SL.v]
      go_enter Tryz.func59, Tryz.ntmps59
      go_wp2_with fail
      go_ret
      exact ⟨rfl, HB0.out⟩
    | true =>
      obtain rfl : op = op' := by simpa using h0
      clear h0
      cases h1 : (lo == lo') with
      | false =>
        have HB0 := Lib.hid (((Below.refl w.heap.size w).alloc (Nat.le_refl _) (.cells #[.int .i64 op, .int .i64 lo, .int .i64 hi, .bool low, .bool high, .slice a n cap] 24)).alloc (by simp) (.cells #[.int .i64 op, .int .i64 lo', .int .i64 hi', .bool low', .bool high', .slice a' n' cap'] 24))
        have HX1 := Lib.hid ((Bx.new w #[.int .i64 op, .int .i64 lo, .int .i64 hi, .bool low, .bool high, .slice a n cap] 24).alloc (.cells #[.int .i64 op, .int .i64 lo', .int .i64 hi', .bool low', .bool high', .slice a' n' cap'] 24))
        have HX2 := Lib.hid (show Bx ((w.alloc (.cells #[.int .i64 op, .int .i64 lo, .int .i64 hi, .bool low, .bool high, .slice a n cap] 24)).alloc (.cells #[.int .i64 op, .int .i64 lo', .int .i64 hi', .bool low', .bool high', .slice a' n' cap'] 24)) (w.heap.size + 1) #[.int .i64 op, .int .i64 lo', .int .i64 hi', .bool low', .bool high', .slice a' n' cap'] 24 by have h := Bx.new (w.alloc (.cells #[.int .i64 op, .int .i64 lo, .int .i64 hi, .bool low, .bool high, .slice a n cap] 24)) #[.int .i64 op, .int .i64 lo', .int .i64 hi', .bool low', .bool high', .slice a' n' cap'] 24; rw [World.size_alloc] at h; exact h)
        have q1 : (lo != lo') = true := by unfold bne; rw [show (lo == lo') = false from h1]; rfl
        rw [show (CT.mk op lo hi low high a n cap ch).same (CT.mk op lo' hi' low' high' a' n' cap' ch') = false from by simp only [CT.same, VT.same, beq_self_eq_true, sEq_refl, Bool.false_and, Bool.and_false, Bool.true_and, h1]]
        clear hc hd hB hrec h1
        simp only [CT.cells, VT.cells, SL.v]
        go_enter Tryz.func59, Tryz.ntmps59
        go_wp2_with fail
        go_ret
        exact ⟨rfl, HB0.out⟩
      | true =>
        obtain rfl : lo = lo' := by simpa using h1
        clear h1
        cases h2 : (hi == hi') with
        | false =>
          have HB0 := Lib.hid (((Below.refl w.heap.size w).alloc (Nat.le_refl _) (.cells #[.int .i64 op, .int .i64 lo, .int .i64 hi, .bool low, .bool high, .slice a n cap] 24)).alloc (by simp) (.cells #[.int .i64 op, .int .i64 lo, .int .i64 hi', .bool low', .bool high', .slice a' n' cap'] 24))
          have HX1 := Lib.hid ((Bx.new w #[.int .i64 op, .int .i64 lo, .int .i64 hi, .bool low, .bool high, .slice a n cap] 24).alloc (.cells #[.int .i64 op, .int .i64 lo, .int .i64 hi', .bool low', .bool high', .slice a' n' cap'] 24))
          have HX2 := Lib.hid (show Bx ((w.alloc (.cells #[.int .i64 op, .int .i64 lo, .int .i64 hi, .bool low, .bool high, .slice a n cap] 24)).alloc (.cells #[.int .i64 op, .int .i64 lo, .int .i64 hi', .bool low', .bool high', .slice a' n' cap'] 24)) (w.heap.size + 1) #[.int .i64 op, .int .i64 lo, .int .i64 hi', .bool low', .bool high', .slice a' n' cap'] 24 by have h := Bx.new (w.alloc (.cells #[.int .i64 op, .int .i64 lo, .int .i64 hi, .bool low, .bool high, .slice a n cap] 24)) #[.int .i64 op, .int .i64 lo, .int .i64 hi', .bool low', .bool high', .slice a' n' cap'] 24; rw [World.size_alloc] at h; exact h)
          have q2 : (hi != hi') = true := by unfold bne; rw [show (hi == hi') = false from h2]; rfl
          rw [show (CT.mk op lo hi low high a n cap ch).same (CT.mk op lo hi' low' high' a' n' cap' ch') = false from by simp only [CT.same, VT.same, beq_self_eq_true, sEq_refl, Bool.false_and, Bool.and_false, Bool.true_and, h2]]
          clear hc hd hB hrec h2
          simp only [CT.cells, VT.cells, SL.v]
          go_enter Tryz.func59, Tryz.ntmps59
          go_wp2_with fail
          go_ret
          exact ⟨rfl, HB0.out⟩
        | true =>
          obtain rfl : hi = hi' := by simpa using h2
          clear h2
          cases h3 : (low == low') with
          | false =>
            have hb3 : (low = true ∧ low' = false) ∨ (low = false ∧ low' = true) := by revert h3; clear hrec hc hd; cases low <;> cases low' <;> decide
            clear h3
            rcases hb3 with ⟨rfl, rfl⟩ | ⟨rfl, rfl⟩
            · have HB0 := Lib.hid (((Below.refl w.heap.size w).alloc (Nat.le_refl _) (.cells #[.int .i64 op, .int .i64 lo, .int .i64 hi, .bool true, .bool high, .slice a n cap] 24)).alloc (by simp) (.cells #[.int .i64 op, .int .i64 lo, .int .i64 hi, .bool false, .bool high', .slice a' n' cap'] 24))
              have HX1 := Lib.hid ((Bx.new w #[.int .i64 op, .int .i64 lo, .int .i64 hi, .bool true, .bool high, .slice a n cap] 24).alloc (.cells #[.int .i64 op, .int .i64 lo, .int .i64 hi, .bool false, .bool high', .slice a' n' cap'] 24))
              have HX2 := Lib.hid (show Bx ((w.alloc (.cells #[.int .i64 op, .int .i64 lo, .int .i64 hi, .bool true, .bool high, .slice a n cap] 24)).alloc (.cells #[.int .i64 op, .int .i64 lo, .int .i64 hi, .bool false, .bool high', .slice a' n' cap'] 24)) (w.heap.size + 1) #[.int .i64 op, .int .i64 lo, .int .i64 hi, .bool false, .bool high', .slice a' n' cap'] 24 by have h := Bx.new (w.alloc (.cells #[.int .i64 op, .int .i64 lo, .int .i64 hi, .bool true, .bool high, .slice a n cap] 24)) #[.int .i64 op, .int .i64 lo, .int .i64 hi, .bool false, .bool high', .slice a' n' cap'] 24; rw [World.size_alloc] at h; exact h)
              have q3 : (true != false) = true := rfl
              rw [show (CT.mk op lo hi true high a n cap ch).same (CT.mk op lo hi false high' a' n' cap' ch') = false from by simp only [CT.same, VT.same, beq_self_eq_true, sEq_refl, Bool.false_and, Bool.and_false, Bool.true_and, show (true == false) = false from rfl]]
              clear hc hd hB hrec
              simp only [CT.cells, VT.cells, SL.v]
              go_enter Tryz.func59, Tryz.ntmps59
              go_wp2_with fail
              go_ret
              exact ⟨rfl, HB0.out⟩
            · have HB0 := Lib.hid (((Below.refl w.heap.size w).alloc (Nat.le_refl _) (.cells #[.int .i64 op, .int .i64 lo, .int .i64 hi, .bool false, .bool high, .slice a n cap] 24)).alloc (by simp) (.cells #[.int .i64 op, .int .i64 lo, .int .i64 hi, .bool true, .bool high', .slice a' n' cap'] 24))
              have HX1 := Lib.hid ((Bx.new w #[.int .i64 op, .int .i64 lo, .int .i64 hi, .bool false, .bool high, .slice a n cap] 24).alloc (.cells #[.int .i64 op, .int .i64 lo, .int .i64 hi, .bool true, .bool high', .slice a' n' cap'] 24))
              have HX2 := Lib.hid (show Bx ((w.alloc (.cells #[.int .i64 op, .int .i64 lo, .int .i64 hi, .bool false, .bool high, .slice a n cap] 24)).alloc (.cells #[.int .i64 op, .int .i64 lo, .int .i64 hi, .bool true, .bool high', .slice a' n' cap'] 24)) (w.heap.size + 1) #[.int .i64 op, .int .i64 lo, .int .i64 hi, .bool true, .bool high', .slice a' n' cap'] 24 by have h := Bx.new (w.alloc (.cells #[.int .i64 op, .int .i64 lo, .int .i64 hi, .bool false, .bool high, .slice a n cap] 24)) #[.int .i64 op, .int .i64 lo, .int .i64 hi, .bool true, .bool high', .slice a' n' cap'] 24; rw [World.size_alloc] at h; exact h)
              have q3 : (false != true) = true := rfl
              rw [show (CT.mk op lo hi false high a n cap ch).same (CT.mk op lo hi true high' a' n' cap' ch') = false from by simp only [CT.same, VT.same, beq_self_eq_true, sEq_refl, Bool.false_and, Bool.and_false, Bool.true_and, show (false == true) = false from rfl]]
              clear hc hd hB hrec
              simp only [CT.cells, VT.cells, SL.v]
              go_enter Tryz.func59, Tryz.ntmps59
              go_wp2_with fail
              go_ret
              exact ⟨rfl, HB0.out⟩
          | true =>
            obtain rfl : low = low' := by simpa using h3
            clear h3
            cases h4 : (high == high') with
            | false =>
              have hb4 : (high = true ∧ high' = false) ∨ (high = false ∧ high' = true) := by revert h4; clear hrec hc hd; cases high <;> cases high' <;> decide
              clear h4
              rcases hb4 with ⟨rfl, rfl⟩ | ⟨rfl, rfl⟩
              · have HB0 := Lib.hid (((Below.refl w.heap.size w).alloc (Nat.le_refl _) (.cells #[.int .i64 op, .int .i64 lo, .int .i64 hi, .bool low, .bool true, .slice a n cap] 24)).alloc (by simp) (.cells #[.int .i64 op, .int .i64 lo, .int .i64 hi, .bool low, .bool false, .slice a' n' cap'] 24))
                have HX1 := Lib.hid ((Bx.new w #[.int .i64 op, .int .i64 lo, .int .i64 hi, .bool low, .bool true, .slice a n cap] 24).alloc (.cells #[.int .i64 op, .int .i64 lo, .int .i64 hi, .bool low, .bool false, .slice a' n' cap'] 24))
                have HX2 := Lib.hid (show Bx ((w.alloc (.cells #[.int .i64 op, .int .i64 lo, .int .i64 hi, .bool low, .bool true, .slice a n cap] 24)).alloc (.cells #[.int .i64 op, .int .i64 lo, .int .i64 hi, .bool low, .bool false, .slice a' n' cap'] 24)) (w.heap.size + 1) #[.int .i64 op, .int .i64 lo, .int .i64 hi, .bool low, .bool false, .slice a' n' cap'] 24 by have h := Bx.new (w.alloc (.cells #[.int .i64 op, .int .i64 lo, .int .i64 hi, .bool low, .bool true, .slice a n cap] 24)) #[.int .i64 op, .int .i64 lo, .int .i64 hi, .bool low, .bool false, .slice a' n' cap'] 24; rw [World.size_alloc] at h; exact h)
                have q4 : (true != false) = true := rfl
                rw [show (CT.mk op lo hi low true a n cap ch).same (CT.mk op lo hi low false a' n' cap' ch') = false from by simp only [CT.same, VT.same, beq_self_eq_true, sEq_refl, Bool.false_and, Bool.and_false, Bool.true_and, show (true == false) = false from rfl]]
                clear hc hd hB hrec
                simp only [CT.cells, VT.cells, SL.v]
                go_enter Tryz.func59, Tryz.ntmps59
                go_wp2_with fail
                go_ret
                exact ⟨rfl, HB0.out⟩
              · have HB0 := Lib.hid (((Below.refl w.heap.size w).alloc (Nat.le_refl _) (.cells #[.int .i64 op, .int .i64 lo, .int .i64 hi, .bool low, .bool false, .slice a n cap] 24)).alloc (by simp) (.cells #[.int .i64 op, .int .i64 lo, .int .i64 hi, .bool low, .bool true, .slice a' n' cap'] 24))
                have HX1 := Lib.hid ((Bx.new w #[.int .i64 op, .int .i64 lo, .int .i64 hi, .bool low, .bool false, .slice a n cap] 24).alloc (.cells #[.int .i64 op, .int .i64 lo, .int .i64 hi, .bool low, .bool true, .slice a' n' cap'] 24))
                have HX2 := Lib.hid (show Bx ((w.alloc (.cells #[.int .i64 op, .int .i64 lo, .int .i64 hi, .bool low, .bool false, .slice a n cap] 24)).alloc (.cells #[.int .i64 op, .int .i64 lo, .int .i64 hi, .bool low, .bool true, .slice a' n' cap'] 24)) (w.heap.size + 1) #[.int .i64 op, .int .i64 lo, .int .i64 hi, .bool low, .bool true, .slice a' n' cap'] 24 by have h := Bx.new (w.alloc (.cells #[.int .i64 op, .int .i64 lo, .int .i64 hi, .bool low, .bool false, .slice a n cap] 24)) #[.int .i64 op, .int .i64 lo, .int .i64 hi, .bool low, .bool true, .slice a' n' cap'] 24; rw [World.size_alloc] at h; exact h)
                have q4 : (false != true) = true := rfl
                rw [show (CT.mk op lo hi low false a n cap ch).same (CT.mk op lo hi low true a' n' cap' ch') = false from by simp only [CT.same, VT.same, beq_self_eq_true, sEq_refl, Bool.false_and, Bool.and_false, Bool.true_and, show (false == true) = false from rfl]]
                clear hc hd hB hrec
                simp only [CT.cells, VT.cells, SL.v]
                go_enter Tryz.func59, Tryz.ntmps59
                go_wp2_with fail
                go_ret
                exact ⟨rfl, HB0.out⟩
            | true =>
              obtain rfl : high = high' := by simpa using h4
              clear h4
              have hres : (CT.mk op lo hi low high a n cap ch).same (CT.mk op lo hi low high a' n' cap' ch') = (decide (n = n') && allN (fun i => (ch i).same (ch' i)) n) := by simp only [CT.same, VT.same, beq_self_eq_true, sEq_refl, Bool.false_and, Bool.and_false, Bool.true_and]
              obtain ⟨res, hr⟩ : ∃ res, (CT.mk op lo hi low high a n cap ch).same (CT.mk op lo hi low high a' n' cap' ch') = res := ⟨_, rfl⟩
              rw [hr] at hres ⊢
              have HRES := Lib.hid hres
              clear hres hr
              have HB0 := Lib.hid (((Below.refl w.heap.size w).alloc (Nat.le_refl _) (.cells #[.int .i64 op, .int .i64 lo, .int .i64 hi, .bool low, .bool high, .slice a n cap] 24)).alloc (by simp) (.cells #[.int .i64 op, .int .i64 lo, .int .i64 hi, .bool low, .bool high, .slice a' n' cap'] 24))
              have HX1 := Lib.hid ((Bx.new w #[.int .i64 op, .int .i64 lo, .int .i64 hi, .bool low, .bool high, .slice a n cap] 24).alloc (.cells #[.int .i64 op, .int .i64 lo, .int .i64 hi, .bool low, .bool high, .slice a' n' cap'] 24))
              have HX2 := Lib.hid (show Bx ((w.alloc (.cells #[.int .i64 op, .int .i64 lo, .int .i64 hi, .bool low, .bool high, .slice a n cap] 24)).alloc (.cells #[.int .i64 op, .int .i64 lo, .int .i64 hi, .bool low, .bool high, .slice a' n' cap'] 24)) (w.heap.size + 1) #[.int .i64 op, .int .i64 lo, .int .i64 hi, .bool low, .bool high, .slice a' n' cap'] 24 by have h := Bx.new (w.alloc (.cells #[.int .i64 op, .int .i64 lo, .int .i64 hi, .bool low, .bool high, .slice a n cap] 24)) #[.int .i64 op, .int .i64 lo, .int .i64 hi, .bool low, .bool high, .slice a' n' cap'] 24; rw [World.size_alloc] at h; exact h)
              by_cases hnn : n = n'
              rotate_left
              · have qn : ((n : Int) != (n' : Int)) = true := by simp [bne]; omega
                have hz : (decide (n = n') && allN (fun i => (ch i).same (ch' i)) n) = false := by rw [decide_eq_false hnn]; rfl
                rw [hz] at HRES
                obtain rfl : res = false := HRES.out
                clear hc hd hB hrec hnn hz HRES
                simp only [CT.cells, VT.cells, SL.v]
                go_enter Tryz.func59, Tryz.ntmps59
                go_wp2_with fail
                go_ret
                exact ⟨rfl, HB0.out⟩
              subst hnn
              obtain ⟨p, hp⟩ : ∃ p, (fun i => (ch i).same (ch' i)) = p := ⟨_, rfl⟩
              have HP := Lib.hid (show ∀ i, p i = (ch i).same (ch' i) from fun i => by rw [← hp])
              rw [hp, show decide (n = n) = true from decide_eq_true rfl, Bool.true_and] at HRES
              have hn : n ≤ 9223372036854775807 := by have h1 := hc.2.1.1; have h2 := hc.2.1.2.1; omega
              have HR1 := Lib.hid hc.2.1
              have HR2 := Lib.hid hd.2.1
              have HC1 := Lib.hid hc.2.2
              have HC2 := Lib.hid hd.2.2
              have HBB := Lib.hid hB
              have HREC := Lib.hid hrec
              clear hc hd hB hrec hp
              simp only [CT.cells, VT.cells, SL.v]
              go_enter Tryz.func59, Tryz.ntmps59
              go_wp2_with fail
              go_loopw [5] (fun iv wr => RelQ w n p w.heap.size (w.heap.size + 1) 24 #[.int .i64 op, .int .i64 lo, .int .i64 hi, .bool low, .bool high, .slice a n cap] #[.int .i64 op, .int .i64 lo, .int .i64 hi, .bool low, .bool high, .slice a' n cap'] iv wr) (fun iv _ => n - (Lib.intOf iv).toNat)
              case atStart => exact ⟨0, Nat.zero_le _, rfl, rfl, HX1.out, HX2.out, HB0.out⟩
              case round =>
                obtain ⟨i, hi, rfl, hall, hx1, hx2, hbel⟩ := hrel
                have HB := Lib.hid hbel
                have HA := Lib.hid hall
                have HZ1 := Lib.hid hx1
                have HZ2 := Lib.hid hx2
                have hsz := hbel.size
                have z1 : wr.cell? ⟨w.heap.size, 5, none⟩ = some (.slice a n cap) := hx1.cell 5 rfl
                have z2 : wr.cell? ⟨w.heap.size + 1, 5, none⟩ = some (.slice a' n cap') := hx2.cell 5 rfl
                clear hbel hall hx1 hx2
                by_cases hlt : i < n
                · have q1 : decide ((i : Int) < (n : Int)) = true := decide_eq_true (by omega)
                  have q1n : decide (i < n) = true := decide_eq_true hlt
                  have q3 : IntKind.i64.wrap ((i : Int) + 1) = ((i + 1 : Nat) : Int) := wrap_succ hlt hn
                  obtain ⟨g1, o1, op1, lo1, hi1, low1, high1, a1, n1, cap1, ch1, hch1, hix1, hg1, hrd1⟩ := cRow_read HR1.out hlt (HC1.out i hlt)
                  obtain ⟨g2, o2, op2, lo2, hi2, low2, high2, a2, n2, cap2, ch2, hch2, hix2, hg2, hrd2⟩ := cRow_read HR2.out hlt (HC2.out i hlt)
                  obtain ⟨k0, k1, k2, k3, k4, k5⟩ := hrd1 wr (HB.out.block g1 (by have := HBB.out; omega))
                  obtain ⟨m0, m1, m2, m3, m4, m5⟩ := hrd2 wr (HB.out.block g2 (by have := HBB.out; omega))
                  have HCL := Lib.hid (fun (d : Nat) (os : Array Obj) => Calls.regrown_of (HREC.out i hlt hlt (Go.Sort.grow (redrawn wr d) os) (HB.out.trans ((below_regrown wr d os).mono hsz))))
                  obtain ⟨r, hr⟩ : ∃ r, (ch i).same (ch' i) = r := ⟨_, rfl⟩
                  rw [hr] at HCL
                  have HPI := Lib.hid (show p i = r by rw [HP.out, hr])
                  rw [hch1, hch2] at HCL
                  simp only [CT.cells, VT.cells, SL.v] at HCL
                  have d5x := fun d os => cell_regrown z1 d os
                  have f5x := fun d os => cell_regrown z2 d os
                  have d0 := fun d os => cell_regrown k0 d os
                  have f0 := fun d os => cell_regrown m0 d os
                  have d1 := fun d os => cell_regrown k1 d os
                  have f1 := fun d os => cell_regrown m1 d os
                  have d2 := fun d os => cell_regrown k2 d os
                  have f2 := fun d os => cell_regrown m2 d os
                  have d3 := fun d os => cell_regrown k3 d os
                  have f3 := fun d os => cell_regrown m3 d os
                  have d4 := fun d os => cell_regrown k4 d os
                  have f4 := fun d os => cell_regrown m4 d os
                  have d5 := fun d os => cell_regrown k5 d os
                  have f5 := fun d os => cell_regrown m5 d os
                  clear hr hch1 hch2 hrd1 hrd2 k0 k1 k2 k3 k4 k5 m0 m1 m2 m3 m4 m5
                  cases r with
                  | true =>
                    have HN := Lib.hid (allN_succ (f := p) HA.out HPI.out)
                    clear HPI
                    go_wp2_with fail
                    clear z1 z2
                    refine wp_region_quiet_below (by kernel_rfl) (by kernel_rfl) ?_
                    quiet_step (fail)
                    quiet_step (fail)
                    quiet_step (fail)
                    quiet_step (fail)
                    quiet_step (fail)
                    quiet_step (fail)
                    quiet_step (fail)
                    quiet_step (fail)
                    quiet_step (fail)
                    quiet_step (fail)
                    quiet_step (exact HCL.out _ _)
                    quiet_step (fail)
                    refine wpQuiet_nil ?_
                    intro _ hw'
                    obtain ⟨⟨dq, osq⟩, hw''⟩ := hw'
                    subst hw''
                    have hb2 := below_regrown wr dq osq
                    clear d5x f5x d0 f0 d1 f1 d2 f2 d3 f3 d4 f4 d5 f5 HCL
                    generalize Go.Sort.grow (redrawn wr dq) osq = W2 at *
                    have HB1 := Lib.hid (HB.out.trans (hb2.mono hsz))
                    have HW1 := Lib.hid (HZ1.out.below hb2 HZ1.out.lt)
                    have HW2 := Lib.hid (HZ2.out.below hb2 HZ2.out.lt)
                    clear hb2
                    go_wp2_with fail
                    go_roundw
                    case rel => exact ⟨i + 1, hlt, rfl, HN.out, HW1.out, HW2.out, HB1.out⟩
                    case measure => simp only [Lib.intOf]; omega
                  | false =>
                    have HN := Lib.hid (allN_no (f := p) hlt HPI.out)
                    obtain rfl : res = false := by rw [HRES.out, HN.out]
                    clear HPI
                    go_wp2_with fail
                    clear z1 z2
                    refine wp_region_quiet_below (by kernel_rfl) (by kernel_rfl) ?_
                    quiet_step (fail)
                    quiet_step (fail)
                    quiet_step (fail)
                    quiet_step (fail)
                    quiet_step (fail)
                    quiet_step (fail)
                    quiet_step (fail)
                    quiet_step (fail)
                    quiet_step (fail)
                    quiet_step (fail)
                    quiet_step (exact HCL.out _ _)
                    quiet_step (fail)
                    refine wpQuiet_nil ?_
                    intro _ hw'
                    obtain ⟨⟨dq, osq⟩, hw''⟩ := hw'
                    subst hw''
                    have hb2 := below_regrown wr dq osq
                    clear d5x f5x d0 f0 d1 f1 d2 f2 d3 f3 d4 f4 d5 f5 HCL
                    generalize Go.Sort.grow (redrawn wr dq) osq = W2 at *
                    have HB1 := Lib.hid (HB.out.trans (hb2.mono hsz))
                    clear hb2
                    go_wp2_with fail
                    go_ret
                    exact ⟨rfl, HB1.out⟩
                · have q1 : decide ((i : Int) < (n : Int)) = false := decide_eq_false (by omega)
                  have q1n : decide (i < n) = false := decide_eq_false hlt
                  obtain rfl : i = n := by omega
                  go_wp2_with fail
                  go_ret
                  refine ⟨?_, HB.out⟩
                  rw [HRES.out, HA.out]
                  rfl
set_option maxHeartbeats 8000000 in
theorem rsameValue_ok : ∀ (c d : VT) (B : Nat) (w : World), VIn B w c → VIn B w d → B ≤ w.heap.size →
    Calls Tryz.prog 108 #[.agg c.cells.toArray, .agg d.cells.toArray] w fun e w' => e = .returned (.bool (c.same d)) ∧ Below w.heap.size w w'
  | .nil, _, _, _, h, _, _ => h.elim
  | .mk .., .nil, _, _, _, h, _ => h.elim
  | .mk k m s ⟨na, nn, nc, nf⟩ a n cap ch, .mk k' m' s' ⟨na', nn', nc', nf'⟩ a' n' cap' ch', B, w, hc, hd, hB => by
    have hrec := fun i (h1 : i < n) (h2 : i < n') (w' : World) (hb : Below w.heap.size w w') => rsameValue_ok (ch i) (ch' i) w.heap.size w' ((hc.2.2 i h1).below hb hB) ((hd.2.2 i h2).below hb hB) hb.size
    cases h0 : (k == k') with
    | false =>
      have HB0 := Lib.hid (((Below.refl w.heap.size w).alloc (Nat.le_refl _) (.cells #[.int .i64 k, .int .i64 m, .string s, .slice na nn nc, .slice a n cap] 58)).alloc (by simp) (.cells #[.int .i64 k', .int .i64 m', .string s', .slice na' nn' nc', .slice a' n' cap'] 58))
      have HX1 := Lib.hid ((Bx.new w #[.int .i64 k, .int .i64 m, .string s, .slice na nn nc, .slice a n cap] 58).alloc (.cells #[.int .i64 k', .int .i64 m', .string s', .slice na' nn' nc', .slice a' n' cap'] 58))
      have HX2 := Lib.hid (show Bx ((w.alloc (.cells #[.int .i64 k, .int .i64 m, .string s, .slice na nn nc, .slice a n cap] 58)).alloc (.cells #[.int .i64 k', .int .i64 m', .string s', .slice na' nn' nc', .slice a' n' cap'] 58)) (w.heap.size + 1) #[.int .i64 k', .int .i64 m', .string s', .slice na' nn' nc', .slice a' n' cap'] 58 by have h := Bx.new (w.alloc (.cells #[.int .i64 k, .int .i64 m, .string s, .slice na nn nc, .slice a n cap] 58)) #[.int .i64 k', .int .i64 m', .string s', .slice na' nn' nc', .slice a' n' cap'] 58; rw [World.size_alloc] at h; exact h)
      have q0 : (k != k') = true := by unfold bne; rw [show (k == k') = false from h0]; rfl
      rw [show (VT.mk k m s ⟨na, nn, nc, nf⟩ a n cap ch).same (VT.mk k' m' s' ⟨na', nn', nc', nf'⟩ a' n' cap' ch') = false from by simp only [CT.same, VT.same, beq_self_eq_true, sEq_refl, Bool.false_and, Bool.and_false, Bool.true_and, h0]]
      clear hc hd hB hrec h0
      simp only [CT.cells, VT.cells, SL.v]
      go_enter Tryz.func108, Tryz.ntmps108
      go_wp2_with fail
      go_ret
      exact ⟨rfl, HB0.out⟩
    | true =>
      obtain rfl : k = k' := by simpa using h0
      clear h0
      cases h1 : (m == m') with
      | false =>
        have HB0 := Lib.hid (((Below.refl w.heap.size w).alloc (Nat.le_refl _) (.cells #[.int .i64 k, .int .i64 m, .string s, .slice na nn nc, .slice a n cap] 58)).alloc (by simp) (.cells #[.int .i64 k, .int .i64 m', .string s', .slice na' nn' nc', .slice a' n' cap'] 58))
        have HX1 := Lib.hid ((Bx.new w #[.int .i64 k, .int .i64 m, .string s, .slice na nn nc, .slice a n cap] 58).alloc (.cells #[.int .i64 k, .int .i64 m', .string s', .slice na' nn' nc', .slice a' n' cap'] 58))
        have HX2 := Lib.hid (show Bx ((w.alloc (.cells #[.int .i64 k, .int .i64 m, .string s, .slice na nn nc, .slice a n cap] 58)).alloc (.cells #[.int .i64 k, .int .i64 m', .string s', .slice na' nn' nc', .slice a' n' cap'] 58)) (w.heap.size + 1) #[.int .i64 k, .int .i64 m', .string s', .slice na' nn' nc', .slice a' n' cap'] 58 by have h := Bx.new (w.alloc (.cells #[.int .i64 k, .int .i64 m, .string s, .slice na nn nc, .slice a n cap] 58)) #[.int .i64 k, .int .i64 m', .string s', .slice na' nn' nc', .slice a' n' cap'] 58; rw [World.size_alloc] at h; exact h)
        have q1 : (m != m') = true := by unfold bne; rw [show (m == m') = false from h1]; rfl
        rw [show (VT.mk k m s ⟨na, nn, nc, nf⟩ a n cap ch).same (VT.mk k m' s' ⟨na', nn', nc', nf'⟩ a' n' cap' ch') = false from by simp only [CT.same, VT.same, beq_self_eq_true, sEq_refl, Bool.false_and, Bool.and_false, Bool.true_and, h1]]
        clear hc hd hB hrec h1
        simp only [CT.cells, VT.cells, SL.v]
        go_enter Tryz.func108, Tryz.ntmps108
        go_wp2_with fail
        go_ret
        exact ⟨rfl, HB0.out⟩
      | true =>
        obtain rfl : m = m' := by simpa using h1
        clear h1
        cases h2 : sEq s s' with
        | false =>
          have HB0 := Lib.hid (((Below.refl w.heap.size w).alloc (Nat.le_refl _) (.cells #[.int .i64 k, .int .i64 m, .string s, .slice na nn nc, .slice a n cap] 58)).alloc (by simp) (.cells #[.int .i64 k, .int .i64 m, .string s', .slice na' nn' nc', .slice a' n' cap'] 58))
          have HX1 := Lib.hid ((Bx.new w #[.int .i64 k, .int .i64 m, .string s, .slice na nn nc, .slice a n cap] 58).alloc (.cells #[.int .i64 k, .int .i64 m, .string s', .slice na' nn' nc', .slice a' n' cap'] 58))
          have HX2 := Lib.hid (show Bx ((w.alloc (.cells #[.int .i64 k, .int .i64 m, .string s, .slice na nn nc, .slice a n cap] 58)).alloc (.cells #[.int .i64 k, .int .i64 m, .string s', .slice na' nn' nc', .slice a' n' cap'] 58)) (w.heap.size + 1) #[.int .i64 k, .int .i64 m, .string s', .slice na' nn' nc', .slice a' n' cap'] 58 by have h := Bx.new (w.alloc (.cells #[.int .i64 k, .int .i64 m, .string s, .slice na nn nc, .slice a n cap] 58)) #[.int .i64 k, .int .i64 m, .string s', .slice na' nn' nc', .slice a' n' cap'] 58; rw [World.size_alloc] at h; exact h)
          have q2 : (s.toList != s'.toList) = true := by unfold bne; rw [show (s.toList == s'.toList) = false from h2]; rfl
          have qe2 : (s.toList == s'.toList) = false := h2
          rw [show (VT.mk k m s ⟨na, nn, nc, nf⟩ a n cap ch).same (VT.mk k m s' ⟨na', nn', nc', nf'⟩ a' n' cap' ch') = false from by simp only [CT.same, VT.same, beq_self_eq_true, sEq_refl, Bool.false_and, Bool.and_false, Bool.true_and, h2]]
          clear hc hd hB hrec h2
          simp only [CT.cells, VT.cells, SL.v]
          go_enter Tryz.func108, Tryz.ntmps108
          go_wp2_with fail
          go_ret
          exact ⟨rfl, HB0.out⟩
        | true =>
          obtain rfl : s = s' := by rw [sEq_eq] at h2; exact of_decide_eq_true h2
          clear h2
          have HS := Lib.hid (fun (W : World) (hb : Below w.heap.size w W) => rsameTexts_ok w.heap.size W na nn nc nf na' nn' nc' nf' hb.size (hc.1.2.2.2.below hb hB) (hd.1.2.2.2.below hb hB))
          have hres : (VT.mk k m s ⟨na, nn, nc, nf⟩ a n cap ch).same (VT.mk k m s ⟨na', nn', nc', nf'⟩ a' n' cap' ch') = ((SL.mk na nn nc nf).same ⟨na', nn', nc', nf'⟩ && (decide (n = n') && allN (fun i => (ch i).same (ch' i)) n)) := by simp only [CT.same, VT.same, beq_self_eq_true, sEq_refl, Bool.false_and, Bool.and_false, Bool.true_and]
          obtain ⟨res, hr⟩ : ∃ res, (VT.mk k m s ⟨na, nn, nc, nf⟩ a n cap ch).same (VT.mk k m s ⟨na', nn', nc', nf'⟩ a' n' cap' ch') = res := ⟨_, rfl⟩
          rw [hr] at hres ⊢
          have HRES := Lib.hid hres
          clear hres hr
          have HB0 := Lib.hid (((Below.refl w.heap.size w).alloc (Nat.le_refl _) (.cells #[.int .i64 k, .int .i64 m, .string s, .slice na nn nc, .slice a n cap] 58)).alloc (by simp) (.cells #[.int .i64 k, .int .i64 m, .string s, .slice na' nn' nc', .slice a' n' cap'] 58))
          have HX1 := Lib.hid ((Bx.new w #[.int .i64 k, .int .i64 m, .string s, .slice na nn nc, .slice a n cap] 58).alloc (.cells #[.int .i64 k, .int .i64 m, .string s, .slice na' nn' nc', .slice a' n' cap'] 58))
          have HX2 := Lib.hid (show Bx ((w.alloc (.cells #[.int .i64 k, .int .i64 m, .string s, .slice na nn nc, .slice a n cap] 58)).alloc (.cells #[.int .i64 k, .int .i64 m, .string s, .slice na' nn' nc', .slice a' n' cap'] 58)) (w.heap.size + 1) #[.int .i64 k, .int .i64 m, .string s, .slice na' nn' nc', .slice a' n' cap'] 58 by have h := Bx.new (w.alloc (.cells #[.int .i64 k, .int .i64 m, .string s, .slice na nn nc, .slice a n cap] 58)) #[.int .i64 k, .int .i64 m, .string s, .slice na' nn' nc', .slice a' n' cap'] 58; rw [World.size_alloc] at h; exact h)
          by_cases hnn : n = n'
          rotate_left
          · have qn : ((n : Int) != (n' : Int)) = true := by simp [bne]; omega
            have hz : (decide (n = n') && allN (fun i => (ch i).same (ch' i)) n) = false := by rw [decide_eq_false hnn]; rfl
            rw [hz] at HRES
            obtain rfl : res = false := by rw [HRES.out, Bool.and_false]
            have HS0 := Lib.hid (HS.out _ HB0.out)
            clear hc hd hB hrec hnn hz HRES HS
            simp only [CT.cells, VT.cells, SL.v]
            go_enter Tryz.func108, Tryz.ntmps108
            go_wp2_with fail
            refine HS0.out.mono ?_
            rintro e v1 ⟨rfl, hb⟩
            have HB1 := Lib.hid (HB0.out.trans (hb.mono HB0.out.size))
            have y1 := HX1.out.below hb HX1.out.lt
            have y2 := HX2.out.below hb HX2.out.lt
            have e1 : v1.cell? ⟨w.heap.size, 4, none⟩ = some (.slice a n cap) := y1.cell 4 rfl
            have e2 : v1.cell? ⟨w.heap.size + 1, 4, none⟩ = some (.slice a' n' cap') := y2.cell 4 rfl
            clear hb y1 y2
            cases (SL.mk na nn nc nf).same ⟨na', nn', nc', nf'⟩ with
            | true =>
              go_wp2_with fail
              go_ret
              exact ⟨rfl, HB1.out⟩
            | false =>
              go_wp2_with fail
              go_ret
              exact ⟨rfl, HB1.out⟩
          subst hnn
          obtain ⟨p, hp⟩ : ∃ p, (fun i => (ch i).same (ch' i)) = p := ⟨_, rfl⟩
          have HP := Lib.hid (show ∀ i, p i = (ch i).same (ch' i) from fun i => by rw [← hp])
          rw [hp, show decide (n = n) = true from decide_eq_true rfl, Bool.true_and] at HRES
          have hn : n ≤ 9223372036854775807 := by have h1 := hc.2.1.1; have h2 := hc.2.1.2.1; omega
          have HR1 := Lib.hid hc.2.1
          have HR2 := Lib.hid hd.2.1
          have HC1 := Lib.hid hc.2.2
          have HC2 := Lib.hid hd.2.2
          have HBB := Lib.hid hB
          have HREC := Lib.hid hrec
          have HS0 := Lib.hid (HS.out _ HB0.out)
          clear HS
          clear hc hd hB hrec hp
          simp only [CT.cells, VT.cells, SL.v]
          go_enter Tryz.func108, Tryz.ntmps108
          go_wp2_with fail
          refine HS0.out.mono ?_
          rintro e v1 ⟨rfl, hb⟩
          have HB1 := Lib.hid (HB0.out.trans (hb.mono HB0.out.size))
          have HY1 := Lib.hid (HX1.out.below hb HX1.out.lt)
          have HY2 := Lib.hid (HX2.out.below hb HX2.out.lt)
          have e1 : v1.cell? ⟨w.heap.size, 4, none⟩ = some (.slice a n cap) := HY1.out.cell 4 rfl
          have e2 : v1.cell? ⟨w.heap.size + 1, 4, none⟩ = some (.slice a' n cap') := HY2.out.cell 4 rfl
          clear hb HX1 HX2 HB0 HS0
          obtain ⟨sr, hsr⟩ : ∃ r, (SL.mk na nn nc nf).same ⟨na', nn', nc', nf'⟩ = r := ⟨_, rfl⟩
          rw [hsr] at HRES ⊢
          clear hsr
          cases sr with
          | false =>
            obtain rfl : res = false := HRES.out
            go_wp2_with fail
            go_ret
            exact ⟨rfl, HB1.out⟩
          | true =>
            have HRES2 := Lib.hid (show res = allN p n from HRES.out)
            go_wp2_with fail
            clear e1 e2
            go_loopw [5] (fun iv wr => RelQ w n p w.heap.size (w.heap.size + 1) 58 #[.int .i64 k, .int .i64 m, .string s, .slice na nn nc, .slice a n cap] #[.int .i64 k, .int .i64 m, .string s, .slice na' nn' nc', .slice a' n cap'] iv wr) (fun iv _ => n - (Lib.intOf iv).toNat)
            case atStart => exact ⟨0, Nat.zero_le _, rfl, rfl, HY1.out, HY2.out, HB1.out⟩
            case round =>
              obtain ⟨i, hi, rfl, hall, hx1, hx2, hbel⟩ := hrel
              have HB := Lib.hid hbel
              have HA := Lib.hid hall
              have HZ1 := Lib.hid hx1
              have HZ2 := Lib.hid hx2
              have hsz := hbel.size
              have z1 : wr.cell? ⟨w.heap.size, 4, none⟩ = some (.slice a n cap) := hx1.cell 4 rfl
              have z2 : wr.cell? ⟨w.heap.size + 1, 4, none⟩ = some (.slice a' n cap') := hx2.cell 4 rfl
              clear hbel hall hx1 hx2
              by_cases hlt : i < n
              · have q1 : decide ((i : Int) < (n : Int)) = true := decide_eq_true (by omega)
                have q1n : decide (i < n) = true := decide_eq_true hlt
                have q3 : IntKind.i64.wrap ((i : Int) + 1) = ((i + 1 : Nat) : Int) := wrap_succ hlt hn
                obtain ⟨g1, o1, kx1, mx1, sx1, nx1, ny1, nz1, nw1, a1, n1, cap1, ch1, hch1, hix1, hg1, hrd1⟩ := vRow_read HR1.out hlt (HC1.out i hlt)
                obtain ⟨g2, o2, kx2, mx2, sx2, nx2, ny2, nz2, nw2, a2, n2, cap2, ch2, hch2, hix2, hg2, hrd2⟩ := vRow_read HR2.out hlt (HC2.out i hlt)
                obtain ⟨k0, k1, k2, k3, k4⟩ := hrd1 wr (HB.out.block g1 (by have := HBB.out; omega))
                obtain ⟨m0, m1, m2, m3, m4⟩ := hrd2 wr (HB.out.block g2 (by have := HBB.out; omega))
                have HCL := Lib.hid (fun (d : Nat) (os : Array Obj) => Calls.regrown_of (HREC.out i hlt hlt (Go.Sort.grow (redrawn wr d) os) (HB.out.trans ((below_regrown wr d os).mono hsz))))
                obtain ⟨r, hr⟩ : ∃ r, (ch i).same (ch' i) = r := ⟨_, rfl⟩
                rw [hr] at HCL
                have HPI := Lib.hid (show p i = r by rw [HP.out, hr])
                rw [hch1, hch2] at HCL
                simp only [CT.cells, VT.cells, SL.v] at HCL
                have d5x := fun d os => cell_regrown z1 d os
                have f5x := fun d os => cell_regrown z2 d os
                have d0 := fun d os => cell_regrown k0 d os
                have f0 := fun d os => cell_regrown m0 d os
                have d1 := fun d os => cell_regrown k1 d os
                have f1 := fun d os => cell_regrown m1 d os
                have d2 := fun d os => cell_regrown k2 d os
                have f2 := fun d os => cell_regrown m2 d os
                have d3 := fun d os => cell_regrown k3 d os
                have f3 := fun d os => cell_regrown m3 d os
                have d4 := fun d os => cell_regrown k4 d os
                have f4 := fun d os => cell_regrown m4 d os
                clear hr hch1 hch2 hrd1 hrd2 k0 k1 k2 k3 k4 m0 m1 m2 m3 m4
                cases r with
                | true =>
                  have HN := Lib.hid (allN_succ (f := p) HA.out HPI.out)
                  clear HPI
                  go_wp2_with fail
                  clear z1 z2
                  refine wp_region_quiet_below (by kernel_rfl) (by kernel_rfl) ?_
                  quiet_step (fail)
                  quiet_step (fail)
                  quiet_step (fail)
                  quiet_step (fail)
                  quiet_step (fail)
                  quiet_step (fail)
                  quiet_step (fail)
                  quiet_step (fail)
                  quiet_step (fail)
                  quiet_step (fail)
                  quiet_step (exact HCL.out _ _)
                  quiet_step (fail)
                  refine wpQuiet_nil ?_
                  intro _ hw'
                  obtain ⟨⟨dq, osq⟩, hw''⟩ := hw'
                  subst hw''
                  have hb2 := below_regrown wr dq osq
                  clear d5x f5x d0 f0 d1 f1 d2 f2 d3 f3 d4 f4 HCL
                  generalize Go.Sort.grow (redrawn wr dq) osq = W2 at *
                  have HB1 := Lib.hid (HB.out.trans (hb2.mono hsz))
                  have HW1 := Lib.hid (HZ1.out.below hb2 HZ1.out.lt)
                  have HW2 := Lib.hid (HZ2.out.below hb2 HZ2.out.lt)
                  clear hb2
                  go_wp2_with fail
                  go_roundw
                  case rel => exact ⟨i + 1, hlt, rfl, HN.out, HW1.out, HW2.out, HB1.out⟩
                  case measure => simp only [Lib.intOf]; omega
                | false =>
                  have HN := Lib.hid (allN_no (f := p) hlt HPI.out)
                  obtain rfl : res = false := by rw [HRES2.out, HN.out]
                  clear HPI
                  go_wp2_with fail
                  clear z1 z2
                  refine wp_region_quiet_below (by kernel_rfl) (by kernel_rfl) ?_
                  quiet_step (fail)
                  quiet_step (fail)
                  quiet_step (fail)
                  quiet_step (fail)
                  quiet_step (fail)
                  quiet_step (fail)
                  quiet_step (fail)
                  quiet_step (fail)
                  quiet_step (fail)
                  quiet_step (fail)
                  quiet_step (exact HCL.out _ _)
                  quiet_step (fail)
                  refine wpQuiet_nil ?_
                  intro _ hw'
                  obtain ⟨⟨dq, osq⟩, hw''⟩ := hw'
                  subst hw''
                  have hb2 := below_regrown wr dq osq
                  clear d5x f5x d0 f0 d1 f1 d2 f2 d3 f3 d4 f4 HCL
                  generalize Go.Sort.grow (redrawn wr dq) osq = W2 at *
                  have HB1 := Lib.hid (HB.out.trans (hb2.mono hsz))
                  clear hb2
                  go_wp2_with fail
                  go_ret
                  exact ⟨rfl, HB1.out⟩
              · have q1 : decide ((i : Int) < (n : Int)) = false := decide_eq_false (by omega)
                have q1n : decide (i < n) = false := decide_eq_false hlt
                obtain rfl : i = n := by omega
                go_wp2_with fail
                go_ret
                refine ⟨?_, HB.out⟩
                rw [HRES2.out, HA.out]
                rfl
end Go.Proofs.YtgibjhljcdhppaaGreatDoor

/-
  The document's whether two lists of parts are the same: 'sameParts'.
-/
namespace Go.Proofs.YtgibjhljcdhppaaGreatDoor
open Go.RowKit
open Go.BigFrame
set_option linter.unusedVariables false
set_option linter.unusedSimpArgs false
set_option maxRecDepth 100000

set_option maxHeartbeats 16000000 in
theorem rsameParts_ok (B : Nat) (w : World) (a : Option Addr) (n cap : Nat) (pf : Nat → PD) (pt : Nat → TT) (a' : Option Addr) (n' cap' : Nat) (pf' : Nat → PD) (pt' : Nat → TT) (hB : B ≤ w.heap.size)
    (hr1 : RowAt B w a n cap 18 (fun i => pcells (pf i) (pt i))) (hp1 : ∀ i, i < n → PDIn B w (pf i) ∧ TIn B w (pt i))
    (hr2 : RowAt B w a' n' cap' 18 (fun i => pcells (pf' i) (pt' i))) (hp2 : ∀ i, i < n' → PDIn B w (pf' i) ∧ TIn B w (pt' i))
    (hrec : ∀ i, i < n → i < n' → ∀ w', Below w.heap.size w w' → Calls Tryz.prog 31 #[.agg (pt i).cells.toArray, .agg (pt' i).cells.toArray] w' fun e w'' => e = .returned (.bool ((pt i).same (pt' i))) ∧ Below w'.heap.size w' w'') :
    Calls Tryz.prog 61 #[.slice a n cap, .slice a' n' cap'] w fun e w' => e = .returned (.bool (decide (n = n') && allN (fun i => (pf i).same (pf' i) ((pt i).same (pt' i))) n)) ∧ Below w.heap.size w w' := by
  have HB0 := Lib.hid (Below.refl w.heap.size w)
  by_cases hnn : n = n'
  · subst hnn
    obtain ⟨p, hp⟩ : ∃ p, (fun i => (pf i).same (pf' i) ((pt i).same (pt' i))) = p := ⟨_, rfl⟩
    have HP := Lib.hid (show ∀ i, p i = (pf i).same (pf' i) ((pt i).same (pt' i)) from fun i => by rw [← hp])
    rw [hp, show decide (n = n) = true from decide_eq_true rfl, Bool.true_and]
    obtain ⟨res, hr⟩ : ∃ res, allN p n = res := ⟨_, rfl⟩
    rw [hr]
    have HRES := Lib.hid hr
    have hn : n ≤ 9223372036854775807 := by have h1 := hr1.1; have h2 := hr1.2.1; omega
    have HR1 := Lib.hid hr1
    have HR2 := Lib.hid hr2
    have HP1 := Lib.hid hp1
    have HP2 := Lib.hid hp2
    have HREC := Lib.hid hrec
    have HBB := Lib.hid hB
    clear hr1 hr2 hp1 hp2 hrec hB hp hr
    go_enter Tryz.func61, Tryz.ntmps61
    go_wp2_with fail
    go_loopw [5] (fun iv wr => RelEv w n p iv wr) (fun iv _ => n - (Lib.intOf iv).toNat)
    case atStart => exact ⟨0, Nat.zero_le _, rfl, rfl, HB0.out⟩
    case round =>
      obtain ⟨i, hi, rfl, hall, hbel⟩ := hrel
      have HB := Lib.hid hbel
      have HA := Lib.hid hall
      have hsz := hbel.size
      clear hbel hall
      by_cases hlt : i < n
      · have q1 : decide ((i : Int) < (n : Int)) = true := decide_eq_true (by omega)
        have q1n : decide (i < n) = true := decide_eq_true hlt
        have q3 : IntKind.i64.wrap ((i : Int) + 1) = ((i + 1 : Nat) : Int) := wrap_succ hlt hn
        obtain ⟨g1, o1, hix1, hg1, hrd1⟩ := pRow_read HR1.out hlt
        obtain ⟨g2, o2, hix2, hg2, hrd2⟩ := pRow_read HR2.out hlt
        have HRA := Lib.hid (hrd1 wr (HB.out.block g1 (by have := HBB.out; omega)))
        have HRB := Lib.hid (hrd2 wr (HB.out.block g2 (by have := HBB.out; omega)))
        obtain ⟨kd, tn, op, lo, hi, lw, hg, ca, cn, cc, cch, ext, fr, sa, sn, sc, sf, ma, mn, mc, mf, pa, pn, pc, pfx, ptf, aa, an, ac, af, atf, ea, en, ec, etf, hk1⟩ := (HP1.out i hlt).2.open
        obtain ⟨kd', tn', op', lo', hi', lw', hg', ca', cn', cc', cch', ext', fr', sa', sn', sc', sf', ma', mn', mc', mf', pa', pn', pc', pfx', ptf', aa', an', ac', af', atf', ea', en', ec', etf', hk2⟩ := (HP2.out i hlt).2.open
        obtain ⟨qn, qo, qa, qk, qc, qf, hd1⟩ : ∃ qn qo qa qk qc qf, pf i = ⟨qn, qo, ⟨qa, qk, qc, qf⟩⟩ := ⟨_, _, _, _, _, _, rfl⟩
        obtain ⟨qn', qo', qa', qk', qc', qf', hd2⟩ : ∃ qn qo qa qk qc qf, pf' i = ⟨qn, qo, ⟨qa, qk, qc, qf⟩⟩ := ⟨_, _, _, _, _, _, rfl⟩
        have HIN1 : Hid (DLIn B w ⟨qa, qk, qc, qf⟩) := Lib.hid (by have := (HP1.out i hlt).1.2; rw [hd1] at this; exact this)
        have HIN2 : Hid (DLIn B w ⟨qa', qk', qc', qf'⟩) := Lib.hid (by have := (HP2.out i hlt).1.2; rw [hd2] at this; exact this)
        have HC1 := Lib.hid (show ∀ W : World, Below w.heap.size w W → W.cell? ⟨g1, o1 + 17, none⟩ = some (.slice qa qk qc) from fun W hb => hrd1 W (hb.block g1 (by have := HBB.out; omega)) 17 _ (by rw [hk1, hd1]; rfl))
        have HC2 := Lib.hid (show ∀ W : World, Below w.heap.size w W → W.cell? ⟨g2, o2 + 17, none⟩ = some (.slice qa' qk' qc') from fun W hb => hrd2 W (hb.block g2 (by have := HBB.out; omega)) 17 _ (by rw [hk2, hd2]; rfl))
        obtain ⟨rT, hrT⟩ : ∃ r, (pt i).same (pt' i) = r := ⟨_, rfl⟩
        have HPI := Lib.hid (show p i = (sEq qn qn' && ((qo == qo') && ((decide (qk = qk') && allN (fun j => (qf j).same (qf' j)) qk) && rT))) by rw [HP.out, hd1, hd2, hrT]; rfl)
        have HCL := Lib.hid (fun (d : Nat) (os : Array Obj) => Calls.regrown_of (HREC.out i hlt hlt (Go.Sort.grow (redrawn wr d) os) (HB.out.trans ((below_regrown wr d os).mono hsz))))
        rw [hrT] at HCL
        rw [hk1, hk2] at HCL
        simp only [TT.cells, CT.cells, SL.v, PL.v, List.cons_append, List.nil_append] at HCL
        clear hrd1 hrd2 hrT
        cases hA : sEq qn qn' with
        | false =>
          have HN := Lib.hid (allN_no (f := p) hlt (HPI.out.trans (by rw [hA]; rfl)))
          obtain rfl : res = false := by rw [← HRES.out, HN.out]
          have q4 : (qn.toList != qn'.toList) = true := by unfold bne; rw [show (qn.toList == qn'.toList) = false from hA]; rfl
          have q5 : (qn.toList == qn'.toList) = false := hA
          have k0 : wr.cell? ⟨g1, o1, none⟩ = some (.string qn) := HRA.out 0 _ (by rw [hk1, hd1]; rfl)
          have m0 : wr.cell? ⟨g2, o2, none⟩ = some (.string qn') := HRB.out 0 _ (by rw [hk2, hd2]; rfl)
          have d0 := fun d os => cell_regrown k0 d os
          have f0 := fun d os => cell_regrown m0 d os
          clear k0 m0
          clear HPI hA HCL hk1 hk2 hd1 hd2
          go_wp2_with fail
          refine wp_region_quiet_below (by kernel_rfl) (by kernel_rfl) ?_
          go_big_quiet_step (fail)
          go_big_quiet_step (fail)
          go_big_quiet_step (fail)
          go_big_quiet_step (fail)
          go_big_quiet_step (fail)
          go_big_quiet_step (fail)
          go_big_quiet_step (fail)
          go_big_quiet_step (fail)
          go_big_quiet_step (fail)
          go_big_quiet_step (fail)
          go_big_quiet_step (fail)
          go_big_quiet_step (fail)
          go_big_quiet_step (fail)
          go_big_quiet_step (fail)
          go_big_quiet_step (fail)
          go_big_quiet_step (fail)
          go_big_quiet_step (fail)
          go_big_quiet_step (fail)
          go_big_quiet_step (fail)
          go_big_quiet_step (fail)
          go_big_quiet_step (fail)
          go_big_quiet_step (fail)
          go_big_quiet_step (fail)
          go_big_quiet_step (fail)
          go_big_quiet_step (fail)
          go_big_quiet_step (fail)
          go_big_quiet_step (fail)
          go_big_quiet_step (fail)
          go_big_quiet_step (fail)
          go_big_quiet_step (fail)
          go_big_quiet_step (fail)
          go_big_quiet_step (fail)
          go_big_quiet_step (fail)
          go_big_quiet_step (fail)
          go_big_quiet_step (fail)
          go_big_quiet_step (fail)
          go_big_quiet_step (fail)
          go_big_quiet_step (fail)
          go_big_quiet_step (fail)
          go_big_quiet_step (fail)
          go_big_quiet_step (fail)
          go_big_quiet_step (fail)
          go_big_quiet_step (fail)
          go_big_quiet_step (fail)
          go_big_quiet_step (fail)
          go_big_quiet_step (fail)
          go_big_quiet_step (fail)
          go_big_quiet_step (fail)
          go_big_quiet_step (fail)
          go_big_quiet_step (fail)
          go_big_quiet_step (fail)
          go_big_quiet_step (fail)
          go_big_quiet_step (fail)
          refine wpQuiet_nil ?_
          intro _ hw'
          obtain ⟨⟨dq, osq⟩, hw''⟩ := hw'
          subst hw''
          have hb2 := below_regrown wr dq osq
          clear d0 f0
          generalize Go.Sort.grow (redrawn wr dq) osq = W2 at *
          have HB1 := Lib.hid (HB.out.trans (hb2.mono hsz))
          clear hb2
          go_wp2_with fail
          go_ret
          exact ⟨rfl, HB1.out⟩
        | true =>
          obtain rfl : qn = qn' := by rw [sEq_eq] at hA; exact of_decide_eq_true hA
          clear hA
          cases hO : (qo == qo') with
          | false =>
            have hb : (qo = true ∧ qo' = false) ∨ (qo = false ∧ qo' = true) := by revert hO; clear HPI HC1 HC2 HIN1 HIN2 HRA HRB hd1 hd2; cases qo <;> cases qo' <;> decide
            clear hO
            rcases hb with ⟨rfl, rfl⟩ | ⟨rfl, rfl⟩
            · have HN := Lib.hid (allN_no (f := p) hlt (HPI.out.trans (by rw [show (true == false) = false from rfl]; simp only [Bool.false_and, Bool.and_false])))
              obtain rfl : res = false := by rw [← HRES.out, HN.out]
              have q4 : (true != false) = true := rfl
              have q5 : (qn.toList == qn.toList) = true := by simp
              have k0 : wr.cell? ⟨g1, o1, none⟩ = some (.string qn) := HRA.out 0 _ (by rw [hk1, hd1]; rfl)
              have m0 : wr.cell? ⟨g2, o2, none⟩ = some (.string qn) := HRB.out 0 _ (by rw [hk2, hd2]; rfl)
              have d0 := fun d os => cell_regrown k0 d os
              have f0 := fun d os => cell_regrown m0 d os
              clear k0 m0
              have k16 : wr.cell? ⟨g1, o1 + 16, none⟩ = some (.bool true) := HRA.out 16 _ (by rw [hk1, hd1]; rfl)
              have m16 : wr.cell? ⟨g2, o2 + 16, none⟩ = some (.bool false) := HRB.out 16 _ (by rw [hk2, hd2]; rfl)
              have d16 := fun d os => cell_regrown k16 d os
              have f16 := fun d os => cell_regrown m16 d os
              clear k16 m16
              clear HPI HCL hk1 hk2 hd1 hd2
              go_wp2_with fail
              refine wp_region_quiet_below (by kernel_rfl) (by kernel_rfl) ?_
              go_big_quiet_step (fail)
              go_big_quiet_step (fail)
              go_big_quiet_step (fail)
              go_big_quiet_step (fail)
              go_big_quiet_step (fail)
              go_big_quiet_step (fail)
              go_big_quiet_step (fail)
              go_big_quiet_step (fail)
              go_big_quiet_step (fail)
              go_big_quiet_step (fail)
              go_big_quiet_step (fail)
              go_big_quiet_step (fail)
              go_big_quiet_step (fail)
              go_big_quiet_step (fail)
              go_big_quiet_step (fail)
              go_big_quiet_step (fail)
              go_big_quiet_step (fail)
              go_big_quiet_step (fail)
              go_big_quiet_step (fail)
              go_big_quiet_step (fail)
              go_big_quiet_step (fail)
              go_big_quiet_step (fail)
              go_big_quiet_step (fail)
              go_big_quiet_step (fail)
              go_big_quiet_step (fail)
              go_big_quiet_step (fail)
              go_big_quiet_step (fail)
              go_big_quiet_step (fail)
              go_big_quiet_step (fail)
              go_big_quiet_step (fail)
              go_big_quiet_step (fail)
              go_big_quiet_step (fail)
              go_big_quiet_step (fail)
              go_big_quiet_step (fail)
              go_big_quiet_step (fail)
              go_big_quiet_step (fail)
              go_big_quiet_step (fail)
              go_big_quiet_step (fail)
              go_big_quiet_step (fail)
              go_big_quiet_step (fail)
              go_big_quiet_step (fail)
              go_big_quiet_step (fail)
              go_big_quiet_step (fail)
              go_big_quiet_step (fail)
              go_big_quiet_step (fail)
              go_big_quiet_step (fail)
              go_big_quiet_step (fail)
              go_big_quiet_step (fail)
              go_big_quiet_step (fail)
              go_big_quiet_step (fail)
              go_big_quiet_step (fail)
              go_big_quiet_step (fail)
              go_big_quiet_step (fail)
              refine wpQuiet_nil ?_
              intro _ hw'
              obtain ⟨⟨dq, osq⟩, hw''⟩ := hw'
              subst hw''
              have hb2 := below_regrown wr dq osq
              clear d0 f0 d16 f16
              generalize Go.Sort.grow (redrawn wr dq) osq = W2 at *
              have HB1 := Lib.hid (HB.out.trans (hb2.mono hsz))
              clear hb2
              go_wp2_with fail
              go_ret
              exact ⟨rfl, HB1.out⟩
            · have HN := Lib.hid (allN_no (f := p) hlt (HPI.out.trans (by rw [show (false == true) = false from rfl]; simp only [Bool.false_and, Bool.and_false])))
              obtain rfl : res = false := by rw [← HRES.out, HN.out]
              have q4 : (false != true) = true := rfl
              have q5 : (qn.toList == qn.toList) = true := by simp
              have k0 : wr.cell? ⟨g1, o1, none⟩ = some (.string qn) := HRA.out 0 _ (by rw [hk1, hd1]; rfl)
              have m0 : wr.cell? ⟨g2, o2, none⟩ = some (.string qn) := HRB.out 0 _ (by rw [hk2, hd2]; rfl)
              have d0 := fun d os => cell_regrown k0 d os
              have f0 := fun d os => cell_regrown m0 d os
              clear k0 m0
              have k16 : wr.cell? ⟨g1, o1 + 16, none⟩ = some (.bool false) := HRA.out 16 _ (by rw [hk1, hd1]; rfl)
              have m16 : wr.cell? ⟨g2, o2 + 16, none⟩ = some (.bool true) := HRB.out 16 _ (by rw [hk2, hd2]; rfl)
              have d16 := fun d os => cell_regrown k16 d os
              have f16 := fun d os => cell_regrown m16 d os
              clear k16 m16
              clear HPI HCL hk1 hk2 hd1 hd2
              go_wp2_with fail
              refine wp_region_quiet_below (by kernel_rfl) (by kernel_rfl) ?_
              go_big_quiet_step (fail)
              go_big_quiet_step (fail)
              go_big_quiet_step (fail)
              go_big_quiet_step (fail)
              go_big_quiet_step (fail)
              go_big_quiet_step (fail)
              go_big_quiet_step (fail)
              go_big_quiet_step (fail)
              go_big_quiet_step (fail)
              go_big_quiet_step (fail)
              go_big_quiet_step (fail)
              go_big_quiet_step (fail)
              go_big_quiet_step (fail)
              go_big_quiet_step (fail)
              go_big_quiet_step (fail)
              go_big_quiet_step (fail)
              go_big_quiet_step (fail)
              go_big_quiet_step (fail)
              go_big_quiet_step (fail)
              go_big_quiet_step (fail)
              go_big_quiet_step (fail)
              go_big_quiet_step (fail)
              go_big_quiet_step (fail)
              go_big_quiet_step (fail)
              go_big_quiet_step (fail)
              go_big_quiet_step (fail)
              go_big_quiet_step (fail)
              go_big_quiet_step (fail)
              go_big_quiet_step (fail)
              go_big_quiet_step (fail)
              go_big_quiet_step (fail)
              go_big_quiet_step (fail)
              go_big_quiet_step (fail)
              go_big_quiet_step (fail)
              go_big_quiet_step (fail)
              go_big_quiet_step (fail)
              go_big_quiet_step (fail)
              go_big_quiet_step (fail)
              go_big_quiet_step (fail)
              go_big_quiet_step (fail)
              go_big_quiet_step (fail)
              go_big_quiet_step (fail)
              go_big_quiet_step (fail)
              go_big_quiet_step (fail)
              go_big_quiet_step (fail)
              go_big_quiet_step (fail)
              go_big_quiet_step (fail)
              go_big_quiet_step (fail)
              go_big_quiet_step (fail)
              go_big_quiet_step (fail)
              go_big_quiet_step (fail)
              go_big_quiet_step (fail)
              go_big_quiet_step (fail)
              refine wpQuiet_nil ?_
              intro _ hw'
              obtain ⟨⟨dq, osq⟩, hw''⟩ := hw'
              subst hw''
              have hb2 := below_regrown wr dq osq
              clear d0 f0 d16 f16
              generalize Go.Sort.grow (redrawn wr dq) osq = W2 at *
              have HB1 := Lib.hid (HB.out.trans (hb2.mono hsz))
              clear hb2
              go_wp2_with fail
              go_ret
              exact ⟨rfl, HB1.out⟩
          | true =>
            obtain rfl : qo = qo' := by simpa using hO
            clear hO
            have q5 : (qn.toList == qn.toList) = true := by simp
            have q6 : (qo == qo) = true := by simp
            by_cases hkk : qk = qk'
            rotate_left
            · have HN := Lib.hid (allN_no (f := p) hlt (HPI.out.trans (by rw [decide_eq_false hkk]; simp only [Bool.false_and, Bool.and_false])))
              obtain rfl : res = false := by rw [← HRES.out, HN.out]
              have q7 : ((qk : Int) != (qk' : Int)) = true := by simp [bne]; omega
              have k0 : wr.cell? ⟨g1, o1, none⟩ = some (.string qn) := HRA.out 0 _ (by rw [hk1, hd1]; rfl)
              have m0 : wr.cell? ⟨g2, o2, none⟩ = some (.string qn) := HRB.out 0 _ (by rw [hk2, hd2]; rfl)
              have d0 := fun d os => cell_regrown k0 d os
              have f0 := fun d os => cell_regrown m0 d os
              clear k0 m0
              have k16 : wr.cell? ⟨g1, o1 + 16, none⟩ = some (.bool qo) := HRA.out 16 _ (by rw [hk1, hd1]; rfl)
              have m16 : wr.cell? ⟨g2, o2 + 16, none⟩ = some (.bool qo) := HRB.out 16 _ (by rw [hk2, hd2]; rfl)
              have d16 := fun d os => cell_regrown k16 d os
              have f16 := fun d os => cell_regrown m16 d os
              clear k16 m16
              have k17 : wr.cell? ⟨g1, o1 + 17, none⟩ = some (.slice qa qk qc) := HRA.out 17 _ (by rw [hk1, hd1]; rfl)
              have m17 : wr.cell? ⟨g2, o2 + 17, none⟩ = some (.slice qa' qk' qc') := HRB.out 17 _ (by rw [hk2, hd2]; rfl)
              have d17 := fun d os => cell_regrown k17 d os
              have f17 := fun d os => cell_regrown m17 d os
              clear k17 m17
              clear HPI HCL hk1 hk2 hd1 hd2 hkk
              go_wp2_with fail
              refine wp_region_quiet_below (by kernel_rfl) (by kernel_rfl) ?_
              go_big_quiet_step (fail)
              go_big_quiet_step (fail)
              go_big_quiet_step (fail)
              go_big_quiet_step (fail)
              go_big_quiet_step (fail)
              go_big_quiet_step (fail)
              go_big_quiet_step (fail)
              go_big_quiet_step (fail)
              go_big_quiet_step (fail)
              go_big_quiet_step (fail)
              go_big_quiet_step (fail)
              go_big_quiet_step (fail)
              go_big_quiet_step (fail)
              go_big_quiet_step (fail)
              go_big_quiet_step (fail)
              go_big_quiet_step (fail)
              go_big_quiet_step (fail)
              go_big_quiet_step (fail)
              go_big_quiet_step (fail)
              go_big_quiet_step (fail)
              go_big_quiet_step (fail)
              go_big_quiet_step (fail)
              go_big_quiet_step (fail)
              go_big_quiet_step (fail)
              go_big_quiet_step (fail)
              go_big_quiet_step (fail)
              go_big_quiet_step (fail)
              go_big_quiet_step (fail)
              go_big_quiet_step (fail)
              go_big_quiet_step (fail)
              go_big_quiet_step (fail)
              go_big_quiet_step (fail)
              go_big_quiet_step (fail)
              go_big_quiet_step (fail)
              go_big_quiet_step (fail)
              go_big_quiet_step (fail)
              go_big_quiet_step (fail)
              go_big_quiet_step (fail)
              go_big_quiet_step (fail)
              go_big_quiet_step (fail)
              go_big_quiet_step (fail)
              go_big_quiet_step (fail)
              go_big_quiet_step (fail)
              go_big_quiet_step (fail)
              go_big_quiet_step (fail)
              go_big_quiet_step (fail)
              go_big_quiet_step (fail)
              go_big_quiet_step (fail)
              go_big_quiet_step (fail)
              go_big_quiet_step (fail)
              go_big_quiet_step (fail)
              go_big_quiet_step (fail)
              go_big_quiet_step (fail)
              refine wpQuiet_nil ?_
              intro _ hw'
              obtain ⟨⟨dq, osq⟩, hw''⟩ := hw'
              subst hw''
              have hb2 := below_regrown wr dq osq
              clear d0 f0 d16 f16 d17 f17
              generalize Go.Sort.grow (redrawn wr dq) osq = W2 at *
              have HB1 := Lib.hid (HB.out.trans (hb2.mono hsz))
              clear hb2
              go_wp2_with fail
              go_ret
              exact ⟨rfl, HB1.out⟩
            subst hkk
            have q7 : ((qk : Int) != (qk : Int)) = false := by simp
            have hqk : qk ≤ 9223372036854775807 := by have h1 : qk ≤ qc := HIN1.out.1.1; have h2 : qc ≤ 140737488355328 := HIN1.out.1.2.1; omega
            obtain ⟨pd, hpd⟩ : ∃ pd, (fun j => (qf j).same (qf' j)) = pd := ⟨_, rfl⟩
            have HPD := Lib.hid (show ∀ j, pd j = (qf j).same (qf' j) from fun j => by rw [← hpd])
            have HPI2 := Lib.hid (show p i = (allN pd qk && rT) by rw [HPI.out, hpd]; simp only [sEq_refl, beq_self_eq_true, decide_true, Bool.true_and])
            clear HPI hpd
            have k0 : wr.cell? ⟨g1, o1, none⟩ = some (.string qn) := HRA.out 0 _ (by rw [hk1, hd1]; rfl)
            have m0 : wr.cell? ⟨g2, o2, none⟩ = some (.string qn) := HRB.out 0 _ (by rw [hk2, hd2]; rfl)
            have d0 := fun d os => cell_regrown k0 d os
            have f0 := fun d os => cell_regrown m0 d os
            clear k0 m0
            have k1 : wr.cell? ⟨g1, o1 + 1, none⟩ = some (.int .i64 kd) := HRA.out 1 _ (by rw [hk1, hd1]; rfl)
            have m1 : wr.cell? ⟨g2, o2 + 1, none⟩ = some (.int .i64 kd') := HRB.out 1 _ (by rw [hk2, hd2]; rfl)
            have d1 := fun d os => cell_regrown k1 d os
            have f1 := fun d os => cell_regrown m1 d os
            clear k1 m1
            have k2 : wr.cell? ⟨g1, o1 + 2, none⟩ = some (.string tn) := HRA.out 2 _ (by rw [hk1, hd1]; rfl)
            have m2 : wr.cell? ⟨g2, o2 + 2, none⟩ = some (.string tn') := HRB.out 2 _ (by rw [hk2, hd2]; rfl)
            have d2 := fun d os => cell_regrown k2 d os
            have f2 := fun d os => cell_regrown m2 d os
            clear k2 m2
            have k3 : wr.cell? ⟨g1, o1 + 3, none⟩ = some (.int .i64 op) := HRA.out 3 _ (by rw [hk1, hd1]; rfl)
            have m3 : wr.cell? ⟨g2, o2 + 3, none⟩ = some (.int .i64 op') := HRB.out 3 _ (by rw [hk2, hd2]; rfl)
            have d3 := fun d os => cell_regrown k3 d os
            have f3 := fun d os => cell_regrown m3 d os
            clear k3 m3
            have k4 : wr.cell? ⟨g1, o1 + 4, none⟩ = some (.int .i64 lo) := HRA.out 4 _ (by rw [hk1, hd1]; rfl)
            have m4 : wr.cell? ⟨g2, o2 + 4, none⟩ = some (.int .i64 lo') := HRB.out 4 _ (by rw [hk2, hd2]; rfl)
            have d4 := fun d os => cell_regrown k4 d os
            have f4 := fun d os => cell_regrown m4 d os
            clear k4 m4
            have k5 : wr.cell? ⟨g1, o1 + 5, none⟩ = some (.int .i64 hi) := HRA.out 5 _ (by rw [hk1, hd1]; rfl)
            have m5 : wr.cell? ⟨g2, o2 + 5, none⟩ = some (.int .i64 hi') := HRB.out 5 _ (by rw [hk2, hd2]; rfl)
            have d5 := fun d os => cell_regrown k5 d os
            have f5 := fun d os => cell_regrown m5 d os
            clear k5 m5
            have k6 : wr.cell? ⟨g1, o1 + 6, none⟩ = some (.bool lw) := HRA.out 6 _ (by rw [hk1, hd1]; rfl)
            have m6 : wr.cell? ⟨g2, o2 + 6, none⟩ = some (.bool lw') := HRB.out 6 _ (by rw [hk2, hd2]; rfl)
            have d6 := fun d os => cell_regrown k6 d os
            have f6 := fun d os => cell_regrown m6 d os
            clear k6 m6
            have k7 : wr.cell? ⟨g1, o1 + 7, none⟩ = some (.bool hg) := HRA.out 7 _ (by rw [hk1, hd1]; rfl)
            have m7 : wr.cell? ⟨g2, o2 + 7, none⟩ = some (.bool hg') := HRB.out 7 _ (by rw [hk2, hd2]; rfl)
            have d7 := fun d os => cell_regrown k7 d os
            have f7 := fun d os => cell_regrown m7 d os
            clear k7 m7
            have k8 : wr.cell? ⟨g1, o1 + 8, none⟩ = some (.slice ca cn cc) := HRA.out 8 _ (by rw [hk1, hd1]; rfl)
            have m8 : wr.cell? ⟨g2, o2 + 8, none⟩ = some (.slice ca' cn' cc') := HRB.out 8 _ (by rw [hk2, hd2]; rfl)
            have d8 := fun d os => cell_regrown k8 d os
            have f8 := fun d os => cell_regrown m8 d os
            clear k8 m8
            have k9 : wr.cell? ⟨g1, o1 + 9, none⟩ = some (.bool ext) := HRA.out 9 _ (by rw [hk1, hd1]; rfl)
            have m9 : wr.cell? ⟨g2, o2 + 9, none⟩ = some (.bool ext') := HRB.out 9 _ (by rw [hk2, hd2]; rfl)
            have d9 := fun d os => cell_regrown k9 d os
            have f9 := fun d os => cell_regrown m9 d os
            clear k9 m9
            have k10 : wr.cell? ⟨g1, o1 + 10, none⟩ = some (.string fr) := HRA.out 10 _ (by rw [hk1, hd1]; rfl)
            have m10 : wr.cell? ⟨g2, o2 + 10, none⟩ = some (.string fr') := HRB.out 10 _ (by rw [hk2, hd2]; rfl)
            have d10 := fun d os => cell_regrown k10 d os
            have f10 := fun d os => cell_regrown m10 d os
            clear k10 m10
            have k11 : wr.cell? ⟨g1, o1 + 11, none⟩ = some (.slice sa sn sc) := HRA.out 11 _ (by rw [hk1, hd1]; rfl)
            have m11 : wr.cell? ⟨g2, o2 + 11, none⟩ = some (.slice sa' sn' sc') := HRB.out 11 _ (by rw [hk2, hd2]; rfl)
            have d11 := fun d os => cell_regrown k11 d os
            have f11 := fun d os => cell_regrown m11 d os
            clear k11 m11
            have k12 : wr.cell? ⟨g1, o1 + 12, none⟩ = some (.slice ma mn mc) := HRA.out 12 _ (by rw [hk1, hd1]; rfl)
            have m12 : wr.cell? ⟨g2, o2 + 12, none⟩ = some (.slice ma' mn' mc') := HRB.out 12 _ (by rw [hk2, hd2]; rfl)
            have d12 := fun d os => cell_regrown k12 d os
            have f12 := fun d os => cell_regrown m12 d os
            clear k12 m12
            have k13 : wr.cell? ⟨g1, o1 + 13, none⟩ = some (.slice pa pn pc) := HRA.out 13 _ (by rw [hk1, hd1]; rfl)
            have m13 : wr.cell? ⟨g2, o2 + 13, none⟩ = some (.slice pa' pn' pc') := HRB.out 13 _ (by rw [hk2, hd2]; rfl)
            have d13 := fun d os => cell_regrown k13 d os
            have f13 := fun d os => cell_regrown m13 d os
            clear k13 m13
            have k14 : wr.cell? ⟨g1, o1 + 14, none⟩ = some (.slice aa an ac) := HRA.out 14 _ (by rw [hk1, hd1]; rfl)
            have m14 : wr.cell? ⟨g2, o2 + 14, none⟩ = some (.slice aa' an' ac') := HRB.out 14 _ (by rw [hk2, hd2]; rfl)
            have d14 := fun d os => cell_regrown k14 d os
            have f14 := fun d os => cell_regrown m14 d os
            clear k14 m14
            have k15 : wr.cell? ⟨g1, o1 + 15, none⟩ = some (.slice ea en ec) := HRA.out 15 _ (by rw [hk1, hd1]; rfl)
            have m15 : wr.cell? ⟨g2, o2 + 15, none⟩ = some (.slice ea' en' ec') := HRB.out 15 _ (by rw [hk2, hd2]; rfl)
            have d15 := fun d os => cell_regrown k15 d os
            have f15 := fun d os => cell_regrown m15 d os
            clear k15 m15
            have k16 : wr.cell? ⟨g1, o1 + 16, none⟩ = some (.bool qo) := HRA.out 16 _ (by rw [hk1, hd1]; rfl)
            have m16 : wr.cell? ⟨g2, o2 + 16, none⟩ = some (.bool qo) := HRB.out 16 _ (by rw [hk2, hd2]; rfl)
            have d16 := fun d os => cell_regrown k16 d os
            have f16 := fun d os => cell_regrown m16 d os
            clear k16 m16
            have k17 : wr.cell? ⟨g1, o1 + 17, none⟩ = some (.slice qa qk qc) := HRA.out 17 _ (by rw [hk1, hd1]; rfl)
            have m17 : wr.cell? ⟨g2, o2 + 17, none⟩ = some (.slice qa' qk qc') := HRB.out 17 _ (by rw [hk2, hd2]; rfl)
            have d17 := fun d os => cell_regrown k17 d os
            have f17 := fun d os => cell_regrown m17 d os
            clear k17 m17
            clear hk1 hk2 hd1 hd2 HRA HRB
            cases rT with
            | false =>
              have HN := Lib.hid (allN_no (f := p) hlt (HPI2.out.trans (Bool.and_false _)))
              obtain rfl : res = false := by rw [← HRES.out, HN.out]
              clear HPI2
              go_wp2_with fail
              refine wp_region_quiet_below (by kernel_rfl) (by kernel_rfl) ?_
              go_big_quiet_step (fail)
              go_big_quiet_step (fail)
              go_big_quiet_step (fail)
              go_big_quiet_step (fail)
              go_big_quiet_step (fail)
              go_big_quiet_step (fail)
              go_big_quiet_step (fail)
              go_big_quiet_step (fail)
              go_big_quiet_step (fail)
              go_big_quiet_step (fail)
              go_big_quiet_step (fail)
              go_big_quiet_step (fail)
              go_big_quiet_step (fail)
              go_big_quiet_step (fail)
              go_big_quiet_step (fail)
              go_big_quiet_step (fail)
              go_big_quiet_step (fail)
              go_big_quiet_step (fail)
              go_big_quiet_step (fail)
              go_big_quiet_step (fail)
              go_big_quiet_step (fail)
              go_big_quiet_step (fail)
              go_big_quiet_step (fail)
              go_big_quiet_step (fail)
              go_big_quiet_step (fail)
              go_big_quiet_step (fail)
              go_big_quiet_step (fail)
              go_big_quiet_step (fail)
              go_big_quiet_step (fail)
              go_big_quiet_step (fail)
              go_big_quiet_step (fail)
              go_big_quiet_step (fail)
              go_big_quiet_step (fail)
              go_big_quiet_step (fail)
              go_big_quiet_step (fail)
              go_big_quiet_step (fail)
              go_big_quiet_step (fail)
              go_big_quiet_step (fail)
              go_big_quiet_step (fail)
              go_big_quiet_step (fail)
              go_big_quiet_step (fail)
              go_big_quiet_step (fail)
              go_big_quiet_step (fail)
              go_big_quiet_step (fail)
              go_big_quiet_step (fail)
              go_big_quiet_step (fail)
              go_big_quiet_step (fail)
              go_big_quiet_step (fail)
              go_big_quiet_step (fail)
              go_big_quiet_step (fail)
              go_big_quiet_step (exact HCL.out _ _)
              go_big_quiet_step (fail)
              go_big_quiet_step (fail)
              refine wpQuiet_nil ?_
              intro _ hw'
              obtain ⟨⟨dq, osq⟩, hw''⟩ := hw'
              subst hw''
              have hb2 := below_regrown wr dq osq
              clear HCL d0 f0 d1 f1 d2 f2 d3 f3 d4 f4 d5 f5 d6 f6 d7 f7 d8 f8 d9 f9 d10 f10 d11 f11 d12 f12 d13 f13 d14 f14 d15 f15 d16 f16 d17 f17
              generalize Go.Sort.grow (redrawn wr dq) osq = W2 at *
              have HB1 := Lib.hid (HB.out.trans (hb2.mono hsz))
              clear hb2
              go_wp2_with fail
              go_ret
              exact ⟨rfl, HB1.out⟩
            | true =>
              have HPI3 := Lib.hid (show p i = allN pd qk by rw [HPI2.out, Bool.and_true])
              clear HPI2
              go_wp2_with fail
              refine wp_region_quiet_below (by kernel_rfl) (by kernel_rfl) ?_
              go_big_quiet_step (fail)
              go_big_quiet_step (fail)
              go_big_quiet_step (fail)
              go_big_quiet_step (fail)
              go_big_quiet_step (fail)
              go_big_quiet_step (fail)
              go_big_quiet_step (fail)
              go_big_quiet_step (fail)
              go_big_quiet_step (fail)
              go_big_quiet_step (fail)
              go_big_quiet_step (fail)
              go_big_quiet_step (fail)
              go_big_quiet_step (fail)
              go_big_quiet_step (fail)
              go_big_quiet_step (fail)
              go_big_quiet_step (fail)
              go_big_quiet_step (fail)
              go_big_quiet_step (fail)
              go_big_quiet_step (fail)
              go_big_quiet_step (fail)
              go_big_quiet_step (fail)
              go_big_quiet_step (fail)
              go_big_quiet_step (fail)
              go_big_quiet_step (fail)
              go_big_quiet_step (fail)
              go_big_quiet_step (fail)
              go_big_quiet_step (fail)
              go_big_quiet_step (fail)
              go_big_quiet_step (fail)
              go_big_quiet_step (fail)
              go_big_quiet_step (fail)
              go_big_quiet_step (fail)
              go_big_quiet_step (fail)
              go_big_quiet_step (fail)
              go_big_quiet_step (fail)
              go_big_quiet_step (fail)
              go_big_quiet_step (fail)
              go_big_quiet_step (fail)
              go_big_quiet_step (fail)
              go_big_quiet_step (fail)
              go_big_quiet_step (fail)
              go_big_quiet_step (fail)
              go_big_quiet_step (fail)
              go_big_quiet_step (fail)
              go_big_quiet_step (fail)
              go_big_quiet_step (fail)
              go_big_quiet_step (fail)
              go_big_quiet_step (fail)
              go_big_quiet_step (fail)
              go_big_quiet_step (fail)
              go_big_quiet_step (exact HCL.out _ _)
              go_big_quiet_step (fail)
              go_big_quiet_step (fail)
              refine wpQuiet_nil ?_
              intro _ hw'
              obtain ⟨⟨dq, osq⟩, hw''⟩ := hw'
              subst hw''
              have hb2 := below_regrown wr dq osq
              clear HCL d0 f0 d1 f1 d2 f2 d3 f3 d4 f4 d5 f5 d6 f6 d7 f7 d8 f8 d9 f9 d10 f10 d11 f11 d12 f12 d13 f13 d14 f14 d15 f15 d16 f16 d17 f17
              generalize Go.Sort.grow (redrawn wr dq) osq = W2 at *
              have HB1 := Lib.hid (HB.out.trans (hb2.mono hsz))
              clear hb2
              go_wp2_with fail
              go_loopw [6] (fun jv wr => RelEv w qk pd jv wr) (fun jv _ => qk - (Lib.intOf jv).toNat)
              case atStart => exact ⟨0, Nat.zero_le _, rfl, rfl, HB1.out⟩
              case round =>
                obtain ⟨j, hj, rfl, hallj, hbelj⟩ := hrel
                have HBJ := Lib.hid hbelj
                have HAJ := Lib.hid hallj
                have hszj := hbelj.size
                have z1 := HC1.out wr hbelj
                have z2 := HC2.out wr hbelj
                clear hbelj hallj
                by_cases hltj : j < qk
                · have p1 : decide ((j : Int) < (qk : Int)) = true := decide_eq_true (by omega)
                  have p1n : decide (j < qk) = true := decide_eq_true hltj
                  have p3 : IntKind.i64.wrap ((j : Int) + 1) = ((j + 1 : Nat) : Int) := wrap_succ hltj hqk
                  obtain ⟨g3, o3, kx1, mx1, sx1, nx1, ny1, nz1, nw1, b1, l1, cp1, ch1, hch1, hix3, hg3, hrd3⟩ := vRow_read HIN1.out.1 hltj (HIN1.out.2 j hltj)
                  obtain ⟨g4, o4, kx2, mx2, sx2, nx2, ny2, nz2, nw2, b2, l2, cp2, ch2, hch2, hix4, hg4, hrd4⟩ := vRow_read HIN2.out.1 hltj (HIN2.out.2 j hltj)
                  obtain ⟨k0, k1, k2, k3, k4⟩ := hrd3 wr (HBJ.out.block g3 (by have := HBB.out; omega))
                  obtain ⟨m0, m1, m2, m3, m4⟩ := hrd4 wr (HBJ.out.block g4 (by have := HBB.out; omega))
                  have HCV := Lib.hid (fun (d : Nat) (os : Array Obj) => Calls.regrown_of (rsameValue_ok (qf j) (qf' j) w.heap.size (Go.Sort.grow (redrawn wr d) os) ((HIN1.out.2 j hltj).below (HBJ.out.trans ((below_regrown wr d os).mono hszj)) HBB.out) ((HIN2.out.2 j hltj).below (HBJ.out.trans ((below_regrown wr d os).mono hszj)) HBB.out) (Nat.le_trans hszj (below_regrown wr d os).size)))
                  obtain ⟨r, hr⟩ : ∃ r, (qf j).same (qf' j) = r := ⟨_, rfl⟩
                  rw [hr] at HCV
                  have HPJ := Lib.hid (show pd j = r by rw [HPD.out, hr])
                  have hch1b : qf j = _ := hch1
                  have hch2b : qf' j = _ := hch2
                  rw [hch1b, hch2b] at HCV
                  simp only [VT.cells, SL.v] at HCV
                  have x1 := fun d os => cell_regrown z1 d os
                  have x2 := fun d os => cell_regrown z2 d os
                  have d0 := fun d os => cell_regrown k0 d os
                  have f0 := fun d os => cell_regrown m0 d os
                  have d1 := fun d os => cell_regrown k1 d os
                  have f1 := fun d os => cell_regrown m1 d os
                  have d2 := fun d os => cell_regrown k2 d os
                  have f2 := fun d os => cell_regrown m2 d os
                  have d3 := fun d os => cell_regrown k3 d os
                  have f3 := fun d os => cell_regrown m3 d os
                  have d4 := fun d os => cell_regrown k4 d os
                  have f4 := fun d os => cell_regrown m4 d os
                  clear hr hch1 hch2 hch1b hch2b hrd3 hrd4 k0 k1 k2 k3 k4 m0 m1 m2 m3 m4
                  cases r with
                  | true =>
                    have HNJ := Lib.hid (allN_succ (f := pd) HAJ.out HPJ.out)
                    clear HPJ
                    go_wp2_with fail
                    clear z1 z2
                    refine wp_region_quiet_below (by kernel_rfl) (by kernel_rfl) ?_
                    quiet_step (fail)
                    quiet_step (fail)
                    quiet_step (fail)
                    quiet_step (fail)
                    quiet_step (fail)
                    quiet_step (fail)
                    quiet_step (fail)
                    quiet_step (fail)
                    quiet_step (fail)
                    quiet_step (fail)
                    quiet_step (fail)
                    quiet_step (fail)
                    quiet_step (fail)
                    quiet_step (fail)
                    quiet_step (fail)
                    quiet_step (fail)
                    quiet_step (exact HCV.out _ _)
                    quiet_step (fail)
                    refine wpQuiet_nil ?_
                    intro _ hw'
                    obtain ⟨⟨dq, osq⟩, hw''⟩ := hw'
                    subst hw''
                    have hb2 := below_regrown wr dq osq
                    clear x1 x2 d0 f0 d1 f1 d2 f2 d3 f3 d4 f4 HCV
                    generalize Go.Sort.grow (redrawn wr dq) osq = W3 at *
                    have HBJ1 := Lib.hid (HBJ.out.trans (hb2.mono hszj))
                    clear hb2
                    go_wp2_with fail
                    go_roundw
                    case rel => exact ⟨j + 1, hltj, rfl, HNJ.out, HBJ1.out⟩
                    case measure => simp only [Lib.intOf]; omega
                  | false =>
                    have HNJ := Lib.hid (allN_no (f := pd) hltj HPJ.out)
                    have HN := Lib.hid (allN_no (f := p) hlt (HPI3.out.trans HNJ.out))
                    obtain rfl : res = false := by rw [← HRES.out, HN.out]
                    clear HPJ
                    go_wp2_with fail
                    clear z1 z2
                    refine wp_region_quiet_below (by kernel_rfl) (by kernel_rfl) ?_
                    quiet_step (fail)
                    quiet_step (fail)
                    quiet_step (fail)
                    quiet_step (fail)
                    quiet_step (fail)
                    quiet_step (fail)
                    quiet_step (fail)
                    quiet_step (fail)
                    quiet_step (fail)
                    quiet_step (fail)
                    quiet_step (fail)
                    quiet_step (fail)
                    quiet_step (fail)
                    quiet_step (fail)
                    quiet_step (fail)
                    quiet_step (fail)
                    quiet_step (exact HCV.out _ _)
                    quiet_step (fail)
                    refine wpQuiet_nil ?_
                    intro _ hw'
                    obtain ⟨⟨dq, osq⟩, hw''⟩ := hw'
                    subst hw''
                    have hb2 := below_regrown wr dq osq
                    clear x1 x2 d0 f0 d1 f1 d2 f2 d3 f3 d4 f4 HCV
                    generalize Go.Sort.grow (redrawn wr dq) osq = W3 at *
                    have HBJ1 := Lib.hid (HBJ.out.trans (hb2.mono hszj))
                    clear hb2
                    go_wp2_with fail
                    go_ret
                    exact ⟨rfl, HBJ1.out⟩
                · have p1 : decide ((j : Int) < (qk : Int)) = false := decide_eq_false (by omega)
                  have p1n : decide (j < qk) = false := decide_eq_false hltj
                  obtain rfl : j = qk := by omega
                  have HN := Lib.hid (allN_succ (f := p) HA.out (HPI3.out.trans HAJ.out))
                  go_wp2_with fail
                  go_roundw
                  case rel => exact ⟨i + 1, hlt, rfl, HN.out, HBJ.out⟩
                  case measure => simp only [Lib.intOf]; omega
      · have q1 : decide ((i : Int) < (n : Int)) = false := decide_eq_false (by omega)
        have q1n : decide (i < n) = false := decide_eq_false hlt
        obtain rfl : i = n := by omega
        go_wp2_with fail
        go_ret
        refine ⟨?_, HB.out⟩
        rw [← HRES.out, HA.out]
        rfl
  · have q0 : ((n : Int) != (n' : Int)) = true := by simp [bne]; omega
    rw [decide_eq_false hnn, Bool.false_and]
    clear hr1 hr2 hp1 hp2 hrec hB hnn
    go_enter Tryz.func61, Tryz.ntmps61
    go_wp2_with fail
    go_ret
    exact ⟨rfl, HB0.out⟩
end Go.Proofs.YtgibjhljcdhppaaGreatDoor
