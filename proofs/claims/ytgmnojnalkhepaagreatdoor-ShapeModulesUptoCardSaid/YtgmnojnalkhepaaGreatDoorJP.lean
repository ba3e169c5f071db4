/-
  A bundle of texts, one behind the other: ShS1, ShS2, ShS3, ShS4, ShS5.
-/
import Derived.Test.YtgmnojnalkhepaaGreatDoorJB
import Derived.Test.YtgmnojnalkhepaaGreatDoorJE
import Derived.Test.YtgmnojnalkhepaaGreatDoorJH
import Derived.Lib.ItoaNum
import Derived.Laws.BytesArg
/-
  The document's whether a constraint is well-formed: 'con', its lists.
-/
namespace Go.Proofs.YtgmnojnalkhepaaGreatDoor
open Go.RowKit
set_option linter.unusedVariables false
set_option linter.unusedSimpArgs false
set_option maxRecDepth 100000

def RelRC (w : World) (n : Nat) (p : Nat → Bool) (g : Nat) (cs : Array Value) (iv : Value) (wr : World) : Prop :=
  ∃ (i : Nat), i ≤ n ∧ iv = .int .i64 (i : Nat) ∧ allN p i = true ∧ Bx wr g cs 34 ∧ Below w.heap.size w wr
set_option maxHeartbeats 2000000 in
theorem rcon_2 (B : Nat) (w : World) (a : Option Addr) (n : Nat) (cap : Nat) (ch : Nat → CT) (d : Nat) (kk p : Nat → Bool) (hd : d ≤ 40) (h2 : 2 ≤ n) (hrow : RowAt B w a n cap 6 (fun i => (ch i).cells)) (hch : ∀ i, i < n → CIn B w (ch i)) (hB : B ≤ w.heap.size)
    (hp : ∀ i, p i = (decide ((ch i).op ≠ 0) && kk i)) (hrec : ∀ i, i < n → ∀ w', Below w.heap.size w w' → Calls Tryz.prog 90 #[(ch i).v, .int .i64 (d + 1 : Nat)] w' fun e w'' => e = .returned (.bool (kk i)) ∧ Below w'.heap.size w' w'') :
    Calls Tryz.prog 90 #[.agg #[.int .i64 2, .int .i64 0, .int .i64 0, .bool false, .bool false, .slice a n cap], .int .i64 (d : Nat)] w fun e w' => e = .returned (.bool (allN p n)) ∧ Below w.heap.size w w' := by
  have hn : n ≤ 9223372036854775807 := by have := hrow.1; have := hrow.2.1; omega
  have HROW := Lib.hid hrow
  have HCH := Lib.hid hch
  have HBB := Lib.hid hB
  have HP := Lib.hid hp
  have HREC := Lib.hid hrec
  have HB0 := Lib.hid ((Below.refl w.heap.size w).alloc (Nat.le_refl _) (.cells #[.int .i64 2, .int .i64 0, .int .i64 0, .bool false, .bool false, .slice a n cap] 34))
  have HX0 := Lib.hid (Bx.new w #[.int .i64 2, .int .i64 0, .int .i64 0, .bool false, .bool false, .slice a n cap] 34)
  have q0 : decide ((40 : Int) < (d : Int)) = false := decide_eq_false (by omega)
  have q0n : decide (40 < d) = false := decide_eq_false (by omega)
  have q3 : IntKind.i64.wrap ((d : Int) + 1) = ((d + 1 : Nat) : Int) := (wrap_ok (x := (d : Int) + 1) (by unfold I64; omega)).trans (by omega)
  have p5 : decide ((n : Int) < 2) = false := decide_eq_false (by omega)
  have p5n : decide (n < 2) = false := decide_eq_false (by omega)
  obtain ⟨res, hres⟩ : ∃ res, allN p n = res := ⟨_, rfl⟩
  rw [hres]
  have HRES := Lib.hid hres
  clear hrow hch hB hp hrec hres
  go_enter Tryz.func90, Tryz.ntmps90
  go_wp2_with fail
  go_loopw [5] (fun iv wr => RelRC w n p w.heap.size #[.int .i64 2, .int .i64 0, .int .i64 0, .bool false, .bool false, .slice a n cap] iv wr) (fun iv _ => n - (Lib.intOf iv).toNat)
  case atStart => exact ⟨0, Nat.zero_le _, rfl, rfl, HX0.out, HB0.out⟩
  case round =>
    obtain ⟨i, hi, rfl, hall, hbx, hbel⟩ := hrel
    have HB := Lib.hid hbel
    have HX := Lib.hid hbx
    have HA := Lib.hid hall
    have c5 := hbx.cell 5 rfl
    have hsz := hbel.size
    clear hbel hbx hall
    by_cases hlt : i < n
    · have q1 : decide ((i : Int) < (n : Int)) = true := decide_eq_true (by omega)
      have q1n : decide (i < n) = true := decide_eq_true hlt
      obtain ⟨gx, ox, op', lo', hi', low', high', a', n', cap', ch', hchi, hix, hgx, hrd⟩ := cRow_read HROW.out hlt (HCH.out i hlt)
      obtain ⟨k0, k1, k2, k3, k4, k5⟩ := hrd wr (HB.out.block gx (by have := HBB.out; omega))
      have q6 : IntKind.i64.wrap ((i : Int) + 1) = ((i + 1 : Nat) : Int) := wrap_succ hlt hn
      have hop : (ch i).op = op' := by rw [hchi]; rfl
      by_cases h0 : op' = 0
      · subst h0
        have HN := Lib.hid (allN_no (f := p) hlt (by rw [HP.out, hop]; simp))
        clear hchi hrd hop
        go_wp2_with fail
        go_ret
        refine ⟨?_, HB.out⟩
        rw [← HRES.out, HN.out]
        rfl
      · have q7 : (op' == 0) = false := by simpa using h0
        have HC := Lib.hid (HREC.out i hlt wr HB.out)
        obtain ⟨k, hk⟩ : ∃ k, kk i = k := ⟨_, rfl⟩
        rw [hk] at HC
        have HPI := Lib.hid (show p i = k by rw [HP.out, hop, hk]; simp [h0])
        rw [hchi] at HC
        simp only [CT.v, CT.cells] at HC
        clear hchi hrd hop hk h0
        cases k with
        | true =>
          have HN := Lib.hid (allN_succ (f := p) HA.out HPI.out)
          go_wp2_with fail
          refine HC.out.mono ?_
          rintro e w1 ⟨rfl, hb⟩
          have HX1 := Lib.hid (HX.out.below hb HX.out.lt)
          have HB1 := Lib.hid (HB.out.trans (hb.mono hsz))
          clear hb
          go_wp2_with fail
          go_roundw
          case rel => exact ⟨i + 1, hlt, rfl, HN.out, HX1.out, HB1.out⟩
          case measure => simp only [Lib.intOf]; omega
        | false =>
          have HN := Lib.hid (allN_no (f := p) hlt HPI.out)
          go_wp2_with fail
          refine HC.out.mono ?_
          rintro e w1 ⟨rfl, hb⟩
          have HB1 := Lib.hid (HB.out.trans (hb.mono hsz))
          clear hb
          go_wp2_with fail
          go_ret
          refine ⟨?_, HB1.out⟩
          rw [← HRES.out, HN.out]
          rfl
    · have q1 : decide ((i : Int) < (n : Int)) = false := decide_eq_false (by omega)
      have q1n : decide (i < n) = false := decide_eq_false hlt
      obtain rfl : i = n := by omega
      go_wp2_with fail
      go_ret
      refine ⟨?_, HB.out⟩
      rw [← HRES.out, HA.out]
      rfl
set_option maxHeartbeats 2000000 in
theorem rcon_3 (B : Nat) (w : World) (a : Option Addr) (n : Nat) (cap : Nat) (ch : Nat → CT) (d : Nat) (kk p : Nat → Bool) (hd : d ≤ 40) (h2 : 2 ≤ n) (hrow : RowAt B w a n cap 6 (fun i => (ch i).cells)) (hch : ∀ i, i < n → CIn B w (ch i)) (hB : B ≤ w.heap.size)
    (hp : ∀ i, p i = (decide ((ch i).op ≠ 0) && kk i)) (hrec : ∀ i, i < n → ∀ w', Below w.heap.size w w' → Calls Tryz.prog 90 #[(ch i).v, .int .i64 (d + 1 : Nat)] w' fun e w'' => e = .returned (.bool (kk i)) ∧ Below w'.heap.size w' w'') :
    Calls Tryz.prog 90 #[.agg #[.int .i64 3, .int .i64 0, .int .i64 0, .bool false, .bool false, .slice a n cap], .int .i64 (d : Nat)] w fun e w' => e = .returned (.bool (allN p n)) ∧ Below w.heap.size w w' := by
  have hn : n ≤ 9223372036854775807 := by have := hrow.1; have := hrow.2.1; omega
  have HROW := Lib.hid hrow
  have HCH := Lib.hid hch
  have HBB := Lib.hid hB
  have HP := Lib.hid hp
  have HREC := Lib.hid hrec
  have HB0 := Lib.hid ((Below.refl w.heap.size w).alloc (Nat.le_refl _) (.cells #[.int .i64 3, .int .i64 0, .int .i64 0, .bool false, .bool false, .slice a n cap] 34))
  have HX0 := Lib.hid (Bx.new w #[.int .i64 3, .int .i64 0, .int .i64 0, .bool false, .bool false, .slice a n cap] 34)
  have q0 : decide ((40 : Int) < (d : Int)) = false := decide_eq_false (by omega)
  have q0n : decide (40 < d) = false := decide_eq_false (by omega)
  have q3 : IntKind.i64.wrap ((d : Int) + 1) = ((d + 1 : Nat) : Int) := (wrap_ok (x := (d : Int) + 1) (by unfold I64; omega)).trans (by omega)
  have p5 : decide ((n : Int) < 2) = false := decide_eq_false (by omega)
  have p5n : decide (n < 2) = false := decide_eq_false (by omega)
  obtain ⟨res, hres⟩ : ∃ res, allN p n = res := ⟨_, rfl⟩
  rw [hres]
  have HRES := Lib.hid hres
  clear hrow hch hB hp hrec hres
  go_enter Tryz.func90, Tryz.ntmps90
  go_wp2_with fail
  go_loopw [5] (fun iv wr => RelRC w n p w.heap.size #[.int .i64 3, .int .i64 0, .int .i64 0, .bool false, .bool false, .slice a n cap] iv wr) (fun iv _ => n - (Lib.intOf iv).toNat)
  case atStart => exact ⟨0, Nat.zero_le _, rfl, rfl, HX0.out, HB0.out⟩
  case round =>
    obtain ⟨i, hi, rfl, hall, hbx, hbel⟩ := hrel
    have HB := Lib.hid hbel
    have HX := Lib.hid hbx
    have HA := Lib.hid hall
    have c5 := hbx.cell 5 rfl
    have hsz := hbel.size
    clear hbel hbx hall
    by_cases hlt : i < n
    · have q1 : decide ((i : Int) < (n : Int)) = true := decide_eq_true (by omega)
      have q1n : decide (i < n) = true := decide_eq_true hlt
      obtain ⟨gx, ox, op', lo', hi', low', high', a', n', cap', ch', hchi, hix, hgx, hrd⟩ := cRow_read HROW.out hlt (HCH.out i hlt)
      obtain ⟨k0, k1, k2, k3, k4, k5⟩ := hrd wr (HB.out.block gx (by have := HBB.out; omega))
      have q6 : IntKind.i64.wrap ((i : Int) + 1) = ((i + 1 : Nat) : Int) := wrap_succ hlt hn
      have hop : (ch i).op = op' := by rw [hchi]; rfl
      by_cases h0 : op' = 0
      · subst h0
        have HN := Lib.hid (allN_no (f := p) hlt (by rw [HP.out, hop]; simp))
        clear hchi hrd hop
        go_wp2_with fail
        go_ret
        refine ⟨?_, HB.out⟩
        rw [← HRES.out, HN.out]
        rfl
      · have q7 : (op' == 0) = false := by simpa using h0
        have HC := Lib.hid (HREC.out i hlt wr HB.out)
        obtain ⟨k, hk⟩ : ∃ k, kk i = k := ⟨_, rfl⟩
        rw [hk] at HC
        have HPI := Lib.hid (show p i = k by rw [HP.out, hop, hk]; simp [h0])
        rw [hchi] at HC
        simp only [CT.v, CT.cells] at HC
        clear hchi hrd hop hk h0
        cases k with
        | true =>
          have HN := Lib.hid (allN_succ (f := p) HA.out HPI.out)
          go_wp2_with fail
          refine HC.out.mono ?_
          rintro e w1 ⟨rfl, hb⟩
          have HX1 := Lib.hid (HX.out.below hb HX.out.lt)
          have HB1 := Lib.hid (HB.out.trans (hb.mono hsz))
          clear hb
          go_wp2_with fail
          go_roundw
          case rel => exact ⟨i + 1, hlt, rfl, HN.out, HX1.out, HB1.out⟩
          case measure => simp only [Lib.intOf]; omega
        | false =>
          have HN := Lib.hid (allN_no (f := p) hlt HPI.out)
          go_wp2_with fail
          refine HC.out.mono ?_
          rintro e w1 ⟨rfl, hb⟩
          have HB1 := Lib.hid (HB.out.trans (hb.mono hsz))
          clear hb
          go_wp2_with fail
          go_ret
          refine ⟨?_, HB1.out⟩
          rw [← HRES.out, HN.out]
          rfl
    · have q1 : decide ((i : Int) < (n : Int)) = false := decide_eq_false (by omega)
      have q1n : decide (i < n) = false := decide_eq_false hlt
      obtain rfl : i = n := by omega
      go_wp2_with fail
      go_ret
      refine ⟨?_, HB.out⟩
      rw [← HRES.out, HA.out]
      rfl
set_option maxHeartbeats 2000000 in
theorem rcon_4 (B : Nat) (w : World) (a : Option Addr) (cap : Nat) (ch : Nat → CT) (d : Nat) (kk p : Nat → Bool) (hd : d ≤ 40) (hrow : RowAt B w a 2 cap 6 (fun i => (ch i).cells)) (hch : ∀ i, i < 2 → CIn B w (ch i)) (hB : B ≤ w.heap.size)
    (hp : ∀ i, p i = (decide ((ch i).op ≠ 0) && kk i)) (hrec : ∀ i, i < 2 → ∀ w', Below w.heap.size w w' → Calls Tryz.prog 90 #[(ch i).v, .int .i64 (d + 1 : Nat)] w' fun e w'' => e = .returned (.bool (kk i)) ∧ Below w'.heap.size w' w'') :
    Calls Tryz.prog 90 #[.agg #[.int .i64 4, .int .i64 0, .int .i64 0, .bool false, .bool false, .slice a 2 cap], .int .i64 (d : Nat)] w fun e w' => e = .returned (.bool (allN p 2)) ∧ Below w.heap.size w w' := by
  have hn : 2 ≤ 9223372036854775807 := by have := hrow.1; have := hrow.2.1; omega
  have HROW := Lib.hid hrow
  have HCH := Lib.hid hch
  have HBB := Lib.hid hB
  have HP := Lib.hid hp
  have HREC := Lib.hid hrec
  have HB0 := Lib.hid ((Below.refl w.heap.size w).alloc (Nat.le_refl _) (.cells #[.int .i64 4, .int .i64 0, .int .i64 0, .bool false, .bool false, .slice a 2 cap] 34))
  have HX0 := Lib.hid (Bx.new w #[.int .i64 4, .int .i64 0, .int .i64 0, .bool false, .bool false, .slice a 2 cap] 34)
  have q0 : decide ((40 : Int) < (d : Int)) = false := decide_eq_false (by omega)
  have q0n : decide (40 < d) = false := decide_eq_false (by omega)
  have q3 : IntKind.i64.wrap ((d : Int) + 1) = ((d + 1 : Nat) : Int) := (wrap_ok (x := (d : Int) + 1) (by unfold I64; omega)).trans (by omega)
  obtain ⟨res, hres⟩ : ∃ res, allN p 2 = res := ⟨_, rfl⟩
  rw [hres]
  have HRES := Lib.hid hres
  clear hrow hch hB hp hrec hres
  go_enter Tryz.func90, Tryz.ntmps90
  go_wp2_with fail
  go_loopw [5] (fun iv wr => RelRC w 2 p w.heap.size #[.int .i64 4, .int .i64 0, .int .i64 0, .bool false, .bool false, .slice a 2 cap] iv wr) (fun iv _ => 2 - (Lib.intOf iv).toNat)
  case atStart => exact ⟨0, Nat.zero_le _, rfl, rfl, HX0.out, HB0.out⟩
  case round =>
    obtain ⟨i, hi, rfl, hall, hbx, hbel⟩ := hrel
    have HB := Lib.hid hbel
    have HX := Lib.hid hbx
    have HA := Lib.hid hall
    have c5 := hbx.cell 5 rfl
    have hsz := hbel.size
    clear hbel hbx hall
    by_cases hlt : i < 2
    · have q1 : decide ((i : Int) < 2) = true := decide_eq_true (by omega)
      have q1n : decide (i < 2) = true := decide_eq_true hlt
      obtain ⟨gx, ox, op', lo', hi', low', high', a', n', cap', ch', hchi, hix, hgx, hrd⟩ := cRow_read HROW.out hlt (HCH.out i hlt)
      obtain ⟨k0, k1, k2, k3, k4, k5⟩ := hrd wr (HB.out.block gx (by have := HBB.out; omega))
      have q6 : IntKind.i64.wrap ((i : Int) + 1) = ((i + 1 : Nat) : Int) := wrap_succ hlt hn
      have hop : (ch i).op = op' := by rw [hchi]; rfl
      by_cases h0 : op' = 0
      · subst h0
        have HN := Lib.hid (allN_no (f := p) hlt (by rw [HP.out, hop]; simp))
        clear hchi hrd hop
        go_wp2_with fail
        go_ret
        refine ⟨?_, HB.out⟩
        rw [← HRES.out, HN.out]
        rfl
      · have q7 : (op' == 0) = false := by simpa using h0
        have HC := Lib.hid (HREC.out i hlt wr HB.out)
        obtain ⟨k, hk⟩ : ∃ k, kk i = k := ⟨_, rfl⟩
        rw [hk] at HC
        have HPI := Lib.hid (show p i = k by rw [HP.out, hop, hk]; simp [h0])
        rw [hchi] at HC
        simp only [CT.v, CT.cells] at HC
        clear hchi hrd hop hk h0
        cases k with
        | true =>
          have HN := Lib.hid (allN_succ (f := p) HA.out HPI.out)
          go_wp2_with fail
          refine HC.out.mono ?_
          rintro e w1 ⟨rfl, hb⟩
          have HX1 := Lib.hid (HX.out.below hb HX.out.lt)
          have HB1 := Lib.hid (HB.out.trans (hb.mono hsz))
          clear hb
          go_wp2_with fail
          go_roundw
          case rel => exact ⟨i + 1, hlt, rfl, HN.out, HX1.out, HB1.out⟩
          case measure => simp only [Lib.intOf]; omega
        | false =>
          have HN := Lib.hid (allN_no (f := p) hlt HPI.out)
          go_wp2_with fail
          refine HC.out.mono ?_
          rintro e w1 ⟨rfl, hb⟩
          have HB1 := Lib.hid (HB.out.trans (hb.mono hsz))
          clear hb
          go_wp2_with fail
          go_ret
          refine ⟨?_, HB1.out⟩
          rw [← HRES.out, HN.out]
          rfl
    · have q1 : decide ((i : Int) < 2) = false := decide_eq_false (by omega)
      have q1n : decide (i < 2) = false := decide_eq_false hlt
      obtain rfl : i = 2 := by omega
      go_wp2_with fail
      go_ret
      refine ⟨?_, HB.out⟩
      rw [← HRES.out, HA.out]
      rfl
end Go.Proofs.YtgmnojnalkhepaaGreatDoor

/-
  The document's whether a constraint is well-formed: 'con'.
-/
namespace Go.Proofs.YtgmnojnalkhepaaGreatDoor
open Go.RowKit
set_option linter.unusedVariables false
set_option linter.unusedSimpArgs false
set_option maxRecDepth 100000

set_option maxHeartbeats 4000000 in
theorem rcon_d (op lo hi : Int) (low high : Bool) (a : Option Addr) (n cap : Nat) (d : Nat) (w : World) (hd : 40 < d) (hd2 : d ≤ 1000) :
    Calls Tryz.prog 90 #[.agg #[.int .i64 op, .int .i64 lo, .int .i64 hi, .bool low, .bool high, .slice a n cap], .int .i64 (d : Nat)] w fun e w' => e = .returned (.bool false) ∧ Below w.heap.size w w' := by
  have q0 : decide ((40 : Int) < (d : Int)) = true := decide_eq_true (by omega)
  have q0n : decide (40 < d) = true := decide_eq_true (by omega)
  have HB0 := Lib.hid (fun o => (Below.refl w.heap.size w).alloc (Nat.le_refl _) o)
  clear hd hd2
  go_enter Tryz.func90, Tryz.ntmps90
  go_wp2_with fail
  go_ret
  exact ⟨rfl, HB0.out _⟩
set_option maxHeartbeats 4000000 in
theorem rcon_0 (lo hi : Int) (low high : Bool) (a : Option Addr) (n cap : Nat) (d : Nat) (w : World) (hd : d ≤ 40) :
    Calls Tryz.prog 90 #[.agg #[.int .i64 0, .int .i64 lo, .int .i64 hi, .bool low, .bool high, .slice a n cap], .int .i64 (d : Nat)] w fun e w' => e = .returned (.bool (cFlds 0 lo hi low high n)) ∧ Below w.heap.size w w' := by
  have q0 : decide ((40 : Int) < (d : Int)) = false := decide_eq_false (by omega)
  have q0n : decide (40 < d) = false := decide_eq_false (by omega)
  have HB0 := Lib.hid (fun o => (Below.refl w.heap.size w).alloc (Nat.le_refl _) o)
  by_cases hn : n = 0
  · subst hn
    by_cases hlo : lo = 0
    · subst hlo
      by_cases hhi : hi = 0
      · subst hhi
        cases low with
        | true =>
          rw [show cFlds 0 _ _ _ _ _ = false by rfl]
          clear hd
          go_enter Tryz.func90, Tryz.ntmps90
          go_wp2_with fail
          go_ret
          exact ⟨rfl, HB0.out _⟩
        | false =>
          cases high with
          | true =>
            rw [show cFlds 0 _ _ _ _ _ = false by rfl]
            clear hd
            go_enter Tryz.func90, Tryz.ntmps90
            go_wp2_with fail
            go_ret
            exact ⟨rfl, HB0.out _⟩
          | false =>
            rw [show cFlds 0 _ _ _ _ _ = true by rfl]
            clear hd
            go_enter Tryz.func90, Tryz.ntmps90
            go_wp2_with fail
            go_ret
            exact ⟨rfl, HB0.out _⟩
      · have p1 : (hi != 0) = true := by simpa [bne] using hhi
        rw [show cFlds 0 _ _ _ _ _ = false by simp [cFlds, hhi]]
        clear hd
        go_enter Tryz.func90, Tryz.ntmps90
        go_wp2_with fail
        go_ret
        exact ⟨rfl, HB0.out _⟩
    · have p1 : (lo != 0) = true := by simpa [bne] using hlo
      rw [show cFlds 0 _ _ _ _ _ = false by simp [cFlds, hlo]]
      clear hd
      go_enter Tryz.func90, Tryz.ntmps90
      go_wp2_with fail
      go_ret
      exact ⟨rfl, HB0.out _⟩
  · have p1 : decide ((0 : Int) < (n : Int)) = true := decide_eq_true (by omega)
    have p1n : decide (0 < n) = true := decide_eq_true (by omega)
    rw [show cFlds 0 lo hi low high n = false by simp [cFlds, hn]]
    clear hd hn
    go_enter Tryz.func90, Tryz.ntmps90
    go_wp2_with fail
    go_ret
    exact ⟨rfl, HB0.out _⟩
set_option maxHeartbeats 4000000 in
theorem rcon_1 (lo hi : Int) (low high : Bool) (a : Option Addr) (n cap : Nat) (d : Nat) (w : World) (hd : d ≤ 40) :
    Calls Tryz.prog 90 #[.agg #[.int .i64 1, .int .i64 lo, .int .i64 hi, .bool low, .bool high, .slice a n cap], .int .i64 (d : Nat)] w fun e w' => e = .returned (.bool (cFlds 1 lo hi low high n)) ∧ Below w.heap.size w w' := by
  have q0 : decide ((40 : Int) < (d : Int)) = false := decide_eq_false (by omega)
  have q0n : decide (40 < d) = false := decide_eq_false (by omega)
  have HB0 := Lib.hid (fun o => (Below.refl w.heap.size w).alloc (Nat.le_refl _) o)
  by_cases hn : n = 0
  rotate_left
  · have p1 : decide ((0 : Int) < (n : Int)) = true := decide_eq_true (by omega)
    have p1n : decide (0 < n) = true := decide_eq_true (by omega)
    rw [show cFlds 1 lo hi low high n = false by simp [cFlds, hn]]
    clear hd hn
    go_enter Tryz.func90, Tryz.ntmps90
    go_wp2_with fail
    go_ret
    exact ⟨rfl, HB0.out _⟩
  subst hn
  by_cases hlo : lo = -9223372036854775808
  · subst hlo
    rw [show cFlds 1 (-9223372036854775808) hi low high 0 = false by simp [cFlds]]
    clear hd
    go_enter Tryz.func90, Tryz.ntmps90
    go_wp2_with fail
    go_ret
    exact ⟨rfl, HB0.out _⟩
  have p3 : (lo != -9223372036854775808) = true := by simpa [bne] using hlo
  by_cases hhi : hi = -9223372036854775808
  · subst hhi
    rw [show cFlds 1 lo (-9223372036854775808) low high 0 = false by simp [cFlds]]
    clear hd hlo
    go_enter Tryz.func90, Tryz.ntmps90
    go_wp2_with fail
    go_ret
    exact ⟨rfl, HB0.out _⟩
  have p4 : (hi != -9223372036854775808) = true := by simpa [bne] using hhi
  cases low with
  | true =>
    by_cases l0 : lo = 0
    · subst l0
      cases high with
      | true =>
        by_cases h0 : hi = 0
        · subst h0
          rw [show cFlds 1 _ _ _ _ _ = true by rfl]
          clear hd
          go_enter Tryz.func90, Tryz.ntmps90
          go_wp2_with fail
          go_ret
          exact ⟨rfl, HB0.out _⟩
        · have p5 : (hi != 0) = true := by simpa [bne] using h0
          rw [show cFlds 1 0 hi true true 0 = false by simp [cFlds, h0]]
          clear hd hlo hhi h0
          go_enter Tryz.func90, Tryz.ntmps90
          go_wp2_with fail
          go_ret
          exact ⟨rfl, HB0.out _⟩
      | false =>
        rw [show cFlds 1 0 hi true false 0 = true by simp [cFlds, hhi]]
        clear hd hlo hhi
        go_enter Tryz.func90, Tryz.ntmps90
        go_wp2_with fail
        go_ret
        exact ⟨rfl, HB0.out _⟩
    · have p5 : (lo != 0) = true := by simpa [bne] using l0
      rw [show cFlds 1 lo hi true high 0 = false by simp [cFlds, l0]]
      clear hd hlo hhi l0
      go_enter Tryz.func90, Tryz.ntmps90
      go_wp2_with fail
      go_ret
      exact ⟨rfl, HB0.out _⟩
  | false =>
    cases high with
    | true =>
      by_cases h0 : hi = 0
      · subst h0
        rw [show cFlds 1 lo 0 false true 0 = true by simp [cFlds, hlo]]
        clear hd hlo hhi
        go_enter Tryz.func90, Tryz.ntmps90
        go_wp2_with fail
        go_ret
        exact ⟨rfl, HB0.out _⟩
      · have p5 : (hi != 0) = true := by simpa [bne] using h0
        rw [show cFlds 1 lo hi false true 0 = false by simp [cFlds, h0]]
        clear hd hlo hhi h0
        go_enter Tryz.func90, Tryz.ntmps90
        go_wp2_with fail
        go_ret
        exact ⟨rfl, HB0.out _⟩
    | false =>
      rw [show cFlds 1 lo hi false false 0 = true by simp [cFlds, hlo, hhi]]
      clear hd hlo hhi
      go_enter Tryz.func90, Tryz.ntmps90
      go_wp2_with fail
      go_ret
      exact ⟨rfl, HB0.out _⟩
set_option maxHeartbeats 4000000 in
theorem rcon_o (op lo hi : Int) (low high : Bool) (a : Option Addr) (n cap : Nat) (d : Nat) (w : World) (hd : d ≤ 40) (hop : op < 0 ∨ 4 < op) :
    Calls Tryz.prog 90 #[.agg #[.int .i64 op, .int .i64 lo, .int .i64 hi, .bool low, .bool high, .slice a n cap], .int .i64 (d : Nat)] w fun e w' => e = .returned (.bool false) ∧ Below w.heap.size w w' := by
  have q0 : decide ((40 : Int) < (d : Int)) = false := decide_eq_false (by omega)
  have q0n : decide (40 < d) = false := decide_eq_false (by omega)
  have HB0 := Lib.hid (fun o => (Below.refl w.heap.size w).alloc (Nat.le_refl _) o)
  have p0 : (op == 0) = false := by simp; omega
  have p1 : (op == 1) = false := by simp; omega
  by_cases on : op < 0
  · have p2 : decide (op < 0) = true := decide_eq_true on
    clear hd hop on
    go_enter Tryz.func90, Tryz.ntmps90
    go_wp2_with fail
    go_ret
    exact ⟨rfl, HB0.out _⟩
  · have p2 : decide (op < 0) = false := decide_eq_false on
    have p4 : decide (4 < op) = true := decide_eq_true (by omega)
    clear hd hop on
    go_enter Tryz.func90, Tryz.ntmps90
    go_wp2_with fail
    go_ret
    exact ⟨rfl, HB0.out _⟩
set_option maxHeartbeats 4000000 in
theorem rcon_m (op lo hi : Int) (low high : Bool) (a : Option Addr) (n cap : Nat) (d : Nat) (w : World) (hd : d ≤ 40) (h2 : 2 ≤ op) (h4 : op ≤ 4) (hbad : lo ≠ 0 ∨ hi ≠ 0 ∨ low = true ∨ high = true ∨ n < 2 ∨ (op = 4 ∧ n ≠ 2)) :
    Calls Tryz.prog 90 #[.agg #[.int .i64 op, .int .i64 lo, .int .i64 hi, .bool low, .bool high, .slice a n cap], .int .i64 (d : Nat)] w fun e w' => e = .returned (.bool false) ∧ Below w.heap.size w w' := by
  have q0 : decide ((40 : Int) < (d : Int)) = false := decide_eq_false (by omega)
  have q0n : decide (40 < d) = false := decide_eq_false (by omega)
  have HB0 := Lib.hid (fun o => (Below.refl w.heap.size w).alloc (Nat.le_refl _) o)
  have p0 : (op == 0) = false := by simp; omega
  have p1 : (op == 1) = false := by simp; omega
  have p2 : decide (op < 0) = false := decide_eq_false (by omega)
  have p4 : decide (4 < op) = false := decide_eq_false (by omega)
  by_cases a1 : lo = 0
  rotate_left
  · have p5 : (lo != 0) = true := by simpa [bne] using a1
    clear hd h2 h4 hbad a1
    go_enter Tryz.func90, Tryz.ntmps90
    go_wp2_with fail
    go_ret
    exact ⟨rfl, HB0.out _⟩
  subst a1
  by_cases a2 : hi = 0
  rotate_left
  · have p5 : (hi != 0) = true := by simpa [bne] using a2
    clear hd h2 h4 hbad a2
    go_enter Tryz.func90, Tryz.ntmps90
    go_wp2_with fail
    go_ret
    exact ⟨rfl, HB0.out _⟩
  subst a2
  cases low with
  | true =>
    clear hd h2 h4 hbad
    go_enter Tryz.func90, Tryz.ntmps90
    go_wp2_with fail
    go_ret
    exact ⟨rfl, HB0.out _⟩
  | false =>
    cases high with
    | true =>
      clear hd h2 h4 hbad
      go_enter Tryz.func90, Tryz.ntmps90
      go_wp2_with fail
      go_ret
      exact ⟨rfl, HB0.out _⟩
    | false =>
      by_cases a5 : n < 2
      · have p5 : decide ((n : Int) < 2) = true := decide_eq_true (by omega)
        have p5n : decide (n < 2) = true := decide_eq_true a5
        clear hd h2 h4 hbad a5
        go_enter Tryz.func90, Tryz.ntmps90
        go_wp2_with fail
        go_ret
        exact ⟨rfl, HB0.out _⟩
      · obtain ⟨rfl, hn2⟩ : op = 4 ∧ n ≠ 2 := by
          rcases hbad with h | h | h | h | h | h
          · exact absurd rfl h
          · exact absurd rfl h
          · cases h
          · cases h
          · exact absurd h a5
          · exact h
        have p5 : decide ((n : Int) < 2) = false := decide_eq_false (by omega)
        have p5n : decide (n < 2) = false := decide_eq_false a5
        have p6 : ((n : Int) != 2) = true := by simp [bne]; omega
        clear hd h2 h4 hbad a5 hn2
        go_enter Tryz.func90, Tryz.ntmps90
        go_wp2_with fail
        go_ret
        exact ⟨rfl, HB0.out _⟩
theorem rcon_ok : ∀ (c : CT) (B d : Nat) (w : World), CIn B w c → B ≤ w.heap.size → 1 ≤ d → d ≤ 1000 →
    Calls Tryz.prog 90 #[.agg c.cells.toArray, .int .i64 (d : Nat)] w fun e w' => e = .returned (.bool (c.ok (41 - d))) ∧ Below w.heap.size w w'
  | .nil, _, _, _, h, _, _, _ => h.elim
  | .mk op lo hi low high a n cap ch, B, d, w, hin, hB, hd1, hd2 => by
    have HREC := fun i (hi : i < n) (w' : World) (hb : Below w.heap.size w w') (h40 : d ≤ 40) => rcon_ok (ch i) w.heap.size (d + 1) w' ((hin.2.2 i hi).below hb hB) hb.size (by omega) (by omega)
    by_cases h40 : 40 < d
    · rw [show (CT.mk op lo hi low high a n cap ch).ok (41 - d) = false by rw [CT.ok, show 41 - d = 0 by omega]; rfl]
      exact rcon_d op lo hi low high a n cap d w h40 hd2
    have hok : (CT.mk op lo hi low high a n cap ch).ok (41 - d) = (cFlds op lo hi low high n && allN (fun i => decide ((ch i).op ≠ 0) && (ch i).ok (41 - (d + 1))) n) := by
      rw [CT.ok, decide_eq_true (show 41 - d ≠ 0 by omega), Bool.true_and, show 41 - d - 1 = 41 - (d + 1) by omega]
    have hsmall : ∀ b : Bool, cFlds op lo hi low high n = b → (b = true → n = 0) → (CT.mk op lo hi low high a n cap ch).ok (41 - d) = b := fun b h1 h2 => by
      rw [hok, h1]
      cases b with
      | false => rfl
      | true => rw [h2 rfl]; rfl
    by_cases o0 : op = 0
    · subst o0
      rw [hsmall _ rfl (fun h => by
        unfold cFlds at h
        rw [if_pos rfl] at h
        simp only [Bool.and_eq_true, decide_eq_true_eq] at h
        exact h.2.2.2.2)]
      exact rcon_0 lo hi low high a n cap d w (by omega)
    by_cases o1 : op = 1
    · subst o1
      rw [hsmall _ rfl (fun h => by
        unfold cFlds at h
        rw [if_neg (by omega), if_pos rfl] at h
        simp only [Bool.and_eq_true, decide_eq_true_eq] at h
        exact h.1)]
      exact rcon_1 lo hi low high a n cap d w (by omega)
    by_cases oo : op < 0 ∨ 4 < op
    · rw [hsmall false (by unfold cFlds; rw [if_neg o0, if_neg o1, if_neg (by omega), if_neg (by omega)]) (fun h => by cases h)]
      exact rcon_o op lo hi low high a n cap d w (by omega) oo
    by_cases hbad : lo ≠ 0 ∨ hi ≠ 0 ∨ low = true ∨ high = true ∨ n < 2 ∨ (op = 4 ∧ n ≠ 2)
    · rw [hsmall false ?_ (fun h => by cases h)]
      · exact rcon_m op lo hi low high a n cap d w (by omega) (by omega) (by omega) hbad
      · unfold cFlds
        rw [if_neg o0, if_neg o1]
        by_cases o4 : op = 4
        · rw [if_neg (by omega), if_pos o4]
          rcases hbad with h | h | h | h | h | h
          · simp [h]
          · simp [h]
          · simp [h]
          · simp [h]
          · simp [show n ≠ 2 by omega]
          · simp [h.2]
        · rw [if_pos (by omega)]
          rcases hbad with h | h | h | h | h | h
          · simp [h]
          · simp [h]
          · simp [h]
          · simp [h]
          · simp [show ¬ 2 ≤ n by omega]
          · exact absurd h.1 o4
    obtain ⟨rfl, rfl, rfl, rfl, hn2, h4⟩ : lo = 0 ∧ hi = 0 ∧ low = false ∧ high = false ∧ 2 ≤ n ∧ (op = 4 → n = 2) := by
      refine ⟨?_, ?_, ?_, ?_, ?_, ?_⟩
      · exact Classical.byContradiction fun h => hbad (.inl h)
      · exact Classical.byContradiction fun h => hbad (.inr (.inl h))
      · cases low with
        | false => rfl
        | true => exact absurd (.inr (.inr (.inl rfl))) hbad
      · cases high with
        | false => rfl
        | true => exact absurd (.inr (.inr (.inr (.inl rfl)))) hbad
      · exact Nat.le_of_not_lt fun h => hbad (.inr (.inr (.inr (.inr (.inl h)))))
      · exact fun h => Classical.byContradiction fun h' => hbad (.inr (.inr (.inr (.inr (.inr ⟨h, h'⟩)))))
    rw [hok]
    have hcase : op = 2 ∨ op = 3 ∨ op = 4 := by omega
    rcases hcase with rfl | rfl | rfl
    · rw [show cFlds 2 0 0 false false n = true by simp [cFlds, hn2], Bool.true_and]
      exact rcon_2 B w a n cap ch d (fun i => (ch i).ok (41 - (d + 1))) _ (by omega) hn2 hin.2.1 hin.2.2 hB (fun i => rfl) (fun i hi w' hb => HREC i hi w' hb (by omega))
    · rw [show cFlds 3 0 0 false false n = true by simp [cFlds, hn2], Bool.true_and]
      exact rcon_3 B w a n cap ch d (fun i => (ch i).ok (41 - (d + 1))) _ (by omega) hn2 hin.2.1 hin.2.2 hB (fun i => rfl) (fun i hi w' hb => HREC i hi w' hb (by omega))
    · obtain rfl : n = 2 := h4 rfl
      rw [show cFlds 4 0 0 false false 2 = true by simp [cFlds], Bool.true_and]
      exact rcon_4 B w a cap ch d (fun i => (ch i).ok (41 - (d + 1))) _ (by omega) hin.2.1 hin.2.2 hB (fun i => rfl) (fun i hi w' hb => HREC i hi w' hb (by omega))
set_option maxHeartbeats 4000000 in
theorem rCon_ok (c : CT) (B : Nat) (w : World) (hin : CIn B w c) (hB : B ≤ w.heap.size) :
    Calls Tryz.prog 66 #[.agg c.cells.toArray] w fun e w' => e = .returned (.bool (c.ok 40)) ∧ Below w.heap.size w w' := by
  have HI := Lib.hid (fun (w' : World) (hb : Below w.heap.size w w') => rcon_ok c w.heap.size 1 w' (hin.below hb hB) hb.size (by omega) (by omega))
  obtain ⟨op, lo, hi, low, high, a, n, cap, ch, rfl⟩ := hin.open
  simp only [CT.cells] at HI ⊢
  obtain ⟨res, hres⟩ : ∃ res, (CT.mk op lo hi low high a n cap ch).ok 40 = res := ⟨_, rfl⟩
  rw [show 41 - 1 = 40 from rfl, hres] at HI
  rw [hres]
  clear hin hB hres
  have HB0 := Lib.hid ((Below.refl w.heap.size w).alloc (Nat.le_refl _) (.cells #[.int .i64 op, .int .i64 lo, .int .i64 hi, .bool low, .bool high, .slice a n cap] 34))
  go_enter Tryz.func66, Tryz.ntmps66
  go_wp2_with fail
  refine (HI.out _ HB0.out).mono ?_
  rintro e w1 ⟨rfl, hb⟩
  have HB2 := Lib.hid (HB0.out.trans (hb.mono (by simp)))
  clear hb
  go_wp2_with fail
  go_ret
  exact ⟨rfl, HB2.out⟩
end Go.Proofs.YtgmnojnalkhepaaGreatDoor

/-
  The document's numbers as text: 'Digits'.
-/
namespace Go.Proofs.YtgmnojnalkhepaaGreatDoor
open Go.RowKit
set_option linter.unusedVariables false
set_option linter.unusedSimpArgs false
set_option maxRecDepth 100000

/-- a character out of a slice of one octet -/
theorem one_octet (w : World) (g : Nat) (x : Nat) (h : w.cell? ⟨g, 0, none⟩ = some (.int .u8 (x : Nat))) (hx : x < 256) : (convert 58 9 (.slice (some ⟨g, 0, none⟩) 1 1)).run Tryz.prog w = .ok (.string (bs [UInt8.ofNat x])) w := by
  have := run_convert_bytes_arg w 58 5 Tryz.underlying58 Tryz.underlying5 g 0 1 1 [(x : Int)] rfl (fun i hi => by
    obtain rfl : i = 0 := by omega
    exact h) 9 Tryz.underlying9
  rw [this]
  congr 2
theorem kept_cell {W w1 : World} {a : Addr} {v : Value} (hb : Below W.heap.size W w1) (h : W.cell? a = some v) : w1.cell? a = some v := (hb.cell (World.block_lt_of_cell? W _ h)).trans h
theorem decDigits_len {u : Nat} (h : u ≤ 9223372036854775807) : (Lib.decDigits u).length ≤ 30 := by
  have h1 := itoa_len (n := (u : Int)) (by unfold I64; omega)
  unfold Lib.itoa at h1
  rw [if_neg (by omega), Int.toNat_natCast] at h1
  omega
set_option maxHeartbeats 4000000 in
theorem digitsN_ok : ∀ (k u : Nat), u < k → u ≤ 9223372036854775807 → ∀ w : World, Calls Tryz.prog 74 #[.int .i64 (u : Nat)] w fun e w' => e = .returned (.string (bs (Lib.decDigits u))) ∧ Below w.heap.size w w'
  | 0, u, hk, _, _ => absurd hk (Nat.not_lt_zero u)
  | k + 1, u, hk, hu, w => by
    have p0 : decide ((u : Int) < 0) = false := decide_eq_false (by omega)
    by_cases h10 : u < 10
    · have p1 : decide ((u : Int) < 10) = true := decide_eq_true (by omega)
      have p1n : decide (u < 10) = true := decide_eq_true h10
      have HB := Lib.hid ((Below.refl w.heap.size w).alloc (Nat.le_refl _) (.cells #[.int .u8 ((48 + u : Nat) : Int)] 5))
      have q1 : IntKind.u8.wrap (u : Int) = (u : Int) := by rw [IntKind.wrap_u8]; omega
      have q2 : IntKind.u8.wrap (48 + (u : Int)) = ((48 + u : Nat) : Int) := by rw [IntKind.wrap_u8]; omega
      have q3 := one_octet (w.alloc (.cells #[.int .u8 ((48 + u : Nat) : Int)] 5)) w.heap.size (48 + u) (by simp) (by omega)
      rw [Lib.decDigits_one h10]
      obtain ⟨x, hx⟩ : ∃ x, 48 + u = x := ⟨_, rfl⟩
      rw [hx] at HB q2 q3 ⊢
      clear hk hu h10 hx
      go_enter Tryz.func74, Tryz.ntmps74
      go_wp2_with fail
      go_ret
      exact ⟨rfl, HB.out⟩
    · have p1 : decide ((u : Int) < 10) = false := decide_eq_false (by omega)
      have p1n : decide (u < 10) = false := decide_eq_false h10
      have HC := Lib.hid (digitsN_ok k (u / 10) (by omega) (by omega))
      have hmx : Tryz.prog.follows .mixedOrders = true := by kernel_rfl
      have q1 : IntKind.i64.wrap ((u : Int) / 10) = ((u / 10 : Nat) : Int) := (wrap_ok (x := (u : Int) / 10) (by unfold I64; omega)).trans (by omega)
      have q2 : (u : Int).tmod 10 = ((u % 10 : Nat) : Int) := by rw [Int.tmod_eq_emod_of_nonneg (by omega)]; omega
      have hd : Lib.decDigits u = Lib.decDigits (u / 10) ++ [UInt8.ofNat (48 + u % 10)] := by rw [Lib.decDigits, dif_neg h10]
      have hlen := decDigits_len (u := u / 10) (by omega)
      have hm10 : u % 10 < 10 := Nat.mod_lt _ (by omega)
      obtain ⟨v, hv⟩ : ∃ v, u / 10 = v := ⟨_, rfl⟩
      obtain ⟨r, hr⟩ : ∃ r, u % 10 = r := ⟨_, rfl⟩
      rw [hv] at q1 HC hd hlen
      rw [hr] at q2 hd hm10
      obtain ⟨D, hD⟩ : ∃ D, Lib.decDigits v = D := ⟨_, rfl⟩
      rw [hD] at HC hd hlen
      rw [hd]
      have q3 : IntKind.u8.wrap (r : Int) = (r : Int) := by rw [IntKind.wrap_u8]; omega
      have q4 : IntKind.u8.wrap (48 + (r : Int)) = ((48 + r : Nat) : Int) := by rw [IntKind.wrap_u8]; omega
      obtain ⟨x, hx⟩ : ∃ x, 48 + r = x := ⟨_, rfl⟩
      rw [hx] at q4 ⊢
      have hx2 : x < 256 := by omega
      have q5 := fun (w' : World) (g : Nat) (h : w'.cell? ⟨g, 0, none⟩ = some (.int .u8 (x : Nat))) => one_octet w' g x h hx2
      have z1 : ¬ (9223372036854775807 < D.length + 1) := by omega
      have HE := Lib.hid (bs_append D [UInt8.ofNat x])
      have HB0 := Lib.hid (Below.refl w.heap.size w)
      clear hk hu h10 hv hr hD hd hx hlen hm10 hx2
      go_enter Tryz.func74, Tryz.ntmps74
      go_wp2_with fail
      go_region_with (go_at_call 74; refine (HC.out _).mono ?_; rintro e w1 ⟨rfl, hb⟩; have HB1 := Lib.hid hb; (try have kc : w1.cell? ⟨w.heap.size, 0, none⟩ = some (.int .u8 (x : Nat)) := kept_cell hb ((Bx.new w.drew #[.int .u8 (x : Nat)] 5).cell 0 rfl)); clear hb)
      all_goals go_wp2_with fail
      all_goals go_ret
      all_goals refine ⟨by rw [← HE.out]; rfl, ?_⟩
      all_goals first
        | exact ((Below.drew (Below.refl w.heap.size w)).trans HB1.out).alloc HB1.out.size _
        | exact ((Below.drew (Below.refl w.heap.size w)).alloc (Nat.le_refl _) _).trans (HB1.out.mono (by simp))
set_option maxHeartbeats 4000000 in
theorem digits08_ok (n : Int) (hn : I64 n) (hm : n ≠ -9223372036854775808) (w : World) : Calls Tryz.prog 74 #[.int .i64 n] w fun e w' => e = .returned (.string (bs (Lib.itoa n))) ∧ Below w.heap.size w w' := by
  have hb := hn
  unfold I64 at hb
  by_cases h0 : n < 0
  · obtain ⟨u, hu⟩ : ∃ u : Nat, n.natAbs = u := ⟨_, rfl⟩
    have hu2 : -n = (u : Int) := by omega
    have HC := Lib.hid (digitsN_ok (u + 1) u (by omega) (by omega))
    have p0 : decide (n < 0) = true := decide_eq_true h0
    have q1 : IntKind.i64.wrap (-n) = (u : Int) := (wrap_ok (x := -n) (by unfold I64; omega)).trans hu2
    have hlen := decDigits_len (u := u) (by omega)
    have HI := Lib.hid (show Lib.itoa n = 45 :: Lib.decDigits u by unfold Lib.itoa; rw [if_pos h0, hu])
    obtain ⟨R, hR⟩ : ∃ R, Lib.itoa n = R := ⟨_, rfl⟩
    obtain ⟨D, hD⟩ : ∃ D, Lib.decDigits u = D := ⟨_, rfl⟩
    rw [hR, hD] at HI
    rw [hD] at HC hlen
    rw [hR]
    have z1 : ¬ (9223372036854775807 < 1 + D.length) := by omega
    have HE := Lib.hid (show (⟨#[45]⟩ ++ bs D : ByteArray) = bs R from by rw [HI.out]; exact bs_append [45] D)
    clear hb hn hm h0 hu hu2 hlen HI hR hD
    go_enter Tryz.func74, Tryz.ntmps74
    go_wp2_with fail
    refine (HC.out _).mono ?_
    rintro e w1 ⟨rfl, hb⟩
    have HB1 := Lib.hid hb
    clear hb
    go_wp2_with fail
    go_ret
    refine ⟨?_, HB1.out⟩
    rw [← HE.out]
    rfl
  · obtain ⟨u, rfl⟩ : ∃ u : Nat, n = (u : Int) := ⟨n.toNat, by omega⟩
    rw [show Lib.itoa (u : Int) = Lib.decDigits u by unfold Lib.itoa; rw [if_neg h0, Int.toNat_natCast]]
    exact digitsN_ok (u + 1) u (by omega) (by omega) w
end Go.Proofs.YtgmnojnalkhepaaGreatDoor

/-
  The document's text of a constraint: 'conText', 'ConText'.
-/
namespace Go.Proofs.YtgmnojnalkhepaaGreatDoor
open Go.RowKit
set_option linter.unusedVariables false
set_option linter.unusedSimpArgs false
set_option maxRecDepth 100000

def conF (op : Int) (ch : Nat → CT) (i : Nat) : List UInt8 := (if 0 < i then betT op else []) ++ (if (ch i).op = 1 then (ch i).txt else 40 :: ((ch i).txt ++ [41]))
def RelCt (w : World) (n : Nat) (F : Nat → List UInt8) (g : Nat) (cs : Array Value) (ov iv : Value) (wr : World) : Prop :=
  ∃ (i : Nat), i ≤ n ∧ iv = .int .i64 (i : Nat) ∧ ov = .string (bs (catL F i)) ∧ Bx wr g cs 34 ∧ Below w.heap.size w wr
theorem I64.lt {x : Int} (h : I64 x) : -9223372036854775808 ≤ x ∧ x ≤ 9223372036854775807 := h
set_option maxHeartbeats 4000000 in
theorem rtext_1 (lo hi : Int) (low high : Bool) (a : Option Addr) (n cap : Nat) (w : World) (h1 : I64 lo) (h2 : I64 hi) (h3 : lo ≠ -9223372036854775808) (h4 : hi ≠ -9223372036854775808) :
    Calls Tryz.prog 38 #[.agg #[.int .i64 1, .int .i64 lo, .int .i64 hi, .bool low, .bool high, .slice a n cap]] w fun e w' => e = .returned (.string (bs (spanT lo hi low high))) ∧ Below w.heap.size w w' := by
  have HL := Lib.hid (digits08_ok lo h1 h3)
  have HH := Lib.hid (digits08_ok hi h2 h4)
  have l1 := itoa_len h1
  have l2 := itoa_len h2
  have HX := Lib.hid (Bx.new w #[.int .i64 1, .int .i64 lo, .int .i64 hi, .bool low, .bool high, .slice a n cap] 34)
  have HB0 := Lib.hid ((Below.refl w.heap.size w).alloc (Nat.le_refl _) (.cells #[.int .i64 1, .int .i64 lo, .int .i64 hi, .bool low, .bool high, .slice a n cap] 34))
  obtain ⟨R, hR⟩ : ∃ R, spanT lo hi low high = R := ⟨_, rfl⟩
  have HR := Lib.hid hR
  rw [hR]
  obtain ⟨q, hq⟩ : ∃ q, (lo == hi) = q := ⟨_, rfl⟩
  have HQ := Lib.hid (show q = true ↔ lo = hi by rw [← hq]; simp)
  obtain ⟨A, hA⟩ : ∃ A, Lib.itoa lo = A := ⟨_, rfl⟩
  obtain ⟨C, hC⟩ : ∃ C, Lib.itoa hi = C := ⟨_, rfl⟩
  have HS := Lib.hid (show spanT lo hi low high = if low = false ∧ high = false ∧ q = true then A else (if low then minT else A) ++ (dotT ++ (if high then maxT else C)) by
    have h := HQ.out
    unfold spanT
    rw [hA, hC]
    simp only [h])
  rw [hA] at HL l1
  rw [hC] at HH l2
  clear h1 h2 h3 h4 hR hA hC
  go_enter Tryz.func38, Tryz.ntmps38
  go_wp2_with fail
  refine (HL.out _).mono ?_
  rintro e w1 ⟨rfl, hb⟩
  have HB1 := Lib.hid (HB0.out.trans (hb.mono HB0.out.size))
  have HX1 := Lib.hid (HX.out.below hb HX.out.lt)
  have c2 : w1.cell? ⟨w.heap.size, 2, none⟩ = some (.int .i64 hi) := HX1.out.cell 2 rfl
  clear hb HL HX HB0
  go_wp2_with fail
  refine (HH.out _).mono ?_
  rintro e w2 ⟨rfl, hb⟩
  have HB2 := Lib.hid (HB1.out.trans (hb.mono HB1.out.size))
  have hx2 := HX1.out.below hb HX1.out.lt
  have k1 : w2.cell? ⟨w.heap.size, 1, none⟩ = some (.int .i64 lo) := hx2.cell 1 rfl
  have k2 : w2.cell? ⟨w.heap.size, 2, none⟩ = some (.int .i64 hi) := hx2.cell 2 rfl
  have k3 : w2.cell? ⟨w.heap.size, 3, none⟩ = some (.bool low) := hx2.cell 3 rfl
  have k4 : w2.cell? ⟨w.heap.size, 4, none⟩ = some (.bool high) := hx2.cell 4 rfl
  clear hb HH HX1 HB1 hx2 c2
  cases low with
  | true =>
    cases high with
    | true =>
      have HE := Lib.hid (show R = [77, 73, 78] ++ ([46, 46] ++ [77, 65, 88]) from HR.out.symm.trans HS.out)
      have HF := Lib.hid (show (⟨#[77, 73, 78]⟩ ++ ⟨#[46, 46]⟩ ++ ⟨#[77, 65, 88]⟩ : ByteArray) = bs R from by rw [HE.out, ← List.append_assoc, ← bs_append, ← bs_append]; rfl)
      clear HR HS HQ l1 l2
      go_wp2_with fail
      go_ret
      refine ⟨?_, HB2.out⟩
      rw [← HF.out]
      rfl
    | false =>
      have HE := Lib.hid (show R = [77, 73, 78] ++ ([46, 46] ++ C) from HR.out.symm.trans HS.out)
      have HF := Lib.hid (show (⟨#[77, 73, 78]⟩ ++ ⟨#[46, 46]⟩ ++ bs C : ByteArray) = bs R from by rw [HE.out, ← List.append_assoc, ← bs_append, ← bs_append]; rfl)
      have z2 : ¬ (9223372036854775807 < 3 + 2 + C.length) := by omega
      have z3 : ¬ (9223372036854775807 < 5 + C.length) := by omega
      clear HR HS HQ l1 l2
      go_wp2_with fail
      go_ret
      refine ⟨?_, HB2.out⟩
      rw [← HF.out]
      rfl
  | false =>
    cases high with
    | true =>
      have HE := Lib.hid (show R = A ++ ([46, 46] ++ [77, 65, 88]) from HR.out.symm.trans HS.out)
      have HF := Lib.hid (show (bs A ++ ⟨#[46, 46]⟩ ++ ⟨#[77, 65, 88]⟩ : ByteArray) = bs R from by rw [HE.out, ← List.append_assoc, ← bs_append, ← bs_append]; rfl)
      have z1 : ¬ (9223372036854775807 < A.length + 2) := by omega
      have z2 : ¬ (9223372036854775807 < A.length + 2 + 3) := by omega
      clear HR HS HQ l1 l2
      go_wp2_with fail
      go_ret
      refine ⟨?_, HB2.out⟩
      rw [← HF.out]
      rfl
    | false =>
      cases q with
      | true =>
        obtain rfl := HQ.out.1 rfl
        have HE := Lib.hid (show R = A from HR.out.symm.trans HS.out)
        clear HR HS HQ l1 l2
        go_wp2_with fail
        go_ret
        refine ⟨?_, HB2.out⟩
        rw [HE.out]
        rfl
      | false =>
        have HE := Lib.hid (show R = A ++ ([46, 46] ++ C) from HR.out.symm.trans HS.out)
        have HF := Lib.hid (show (bs A ++ ⟨#[46, 46]⟩ ++ bs C : ByteArray) = bs R from by rw [HE.out, ← List.append_assoc, ← bs_append, ← bs_append]; rfl)
        have z1 : ¬ (9223372036854775807 < A.length + 2) := by omega
        have z2 : ¬ (9223372036854775807 < A.length + 2 + C.length) := by omega
        clear HR HS HQ l1 l2
        go_wp2_with fail
        go_ret
        refine ⟨?_, HB2.out⟩
        rw [← HF.out]
        rfl
set_option maxHeartbeats 4000000 in
theorem rtext_2 (B : Nat) (w : World) (a : Option Addr) (n cap : Nat) (ch : Nat → CT) (hrow : RowAt B w a n cap 6 (fun i => (ch i).cells)) (hch : ∀ i, i < n → CIn B w (ch i)) (hB : B ≤ w.heap.size) (hl : (catL (conF 2 ch) n).length ≤ 1000000000)
    (hrec : ∀ i, i < n → ∀ w', Below w.heap.size w w' → Calls Tryz.prog 38 #[(ch i).v] w' fun e w'' => e = .returned (.string (bs (ch i).txt)) ∧ Below w'.heap.size w' w'') :
    Calls Tryz.prog 38 #[.agg #[.int .i64 2, .int .i64 0, .int .i64 0, .bool false, .bool false, .slice a n cap]] w fun e w' => e = .returned (.string (bs (catL (conF 2 ch) n))) ∧ Below w.heap.size w w' := by
  have hn : n ≤ 9223372036854775807 := by have := hrow.1; have := hrow.2.1; omega
  have HROW := Lib.hid hrow
  have HCH := Lib.hid hch
  have HBB := Lib.hid hB
  have HREC := Lib.hid hrec
  have HL := Lib.hid hl
  have HB0 := Lib.hid (fun o => ((Below.refl w.heap.size w).alloc (Nat.le_refl _) (.cells #[.int .i64 2, .int .i64 0, .int .i64 0, .bool false, .bool false, .slice a n cap] 34)).alloc (by simp) o)
  have HX0 := Lib.hid (fun o => (Bx.new w #[.int .i64 2, .int .i64 0, .int .i64 0, .bool false, .bool false, .slice a n cap] 34).alloc o)
  clear hrow hch hB hrec hl
  go_enter Tryz.func38, Tryz.ntmps38
  go_wp2_with fail
  go_loopw [6, 7] (fun ov iv wr => RelCt w n (conF 2 ch) w.heap.size #[.int .i64 2, .int .i64 0, .int .i64 0, .bool false, .bool false, .slice a n cap] ov iv wr) (fun _ iv _ => n - (Lib.intOf iv).toNat)
  case atStart => exact ⟨0, Nat.zero_le _, rfl, rfl, HX0.out _, HB0.out _⟩
  case round =>
    obtain ⟨i, hi, rfl, rfl, hbx, hbel⟩ := hrel
    have HB := Lib.hid hbel
    have HX := Lib.hid hbx
    have c5 := hbx.cell 5 rfl
    have hsz := hbel.size
    have hlen := Nat.le_trans (catL_mono (f := conF 2 ch) hi) HL.out
    obtain ⟨O, hO⟩ : ∃ O, catL (conF 2 ch) i = O := ⟨_, rfl⟩
    rw [hO] at hlen
    have HO := Lib.hid hO
    rw [hO]
    clear hbel hbx hO
    by_cases hlt : i < n
    · have q1 : decide ((i : Int) < (n : Int)) = true := decide_eq_true (by omega)
      have q1n : decide (i < n) = true := decide_eq_true hlt
      have hlen2 := Nat.le_trans (catL_mono (f := conF 2 ch) (show i + 1 ≤ n from hlt)) HL.out
      obtain ⟨gx, ox, op', lo', hi', low', high', a', n', cap', ch', hchi, hix, hgx, hrd⟩ := cRow_read HROW.out hlt (HCH.out i hlt)
      obtain ⟨k0, k1, k2, k3, k4, k5⟩ := hrd wr (HB.out.block gx (by have := HBB.out; omega))
      have HRD := Lib.hid (fun (W : World) (h : W.heap[gx]? = w.heap[gx]?) => hrd W h)
      have q6 : IntKind.i64.wrap ((i : Int) + 1) = ((i + 1 : Nat) : Int) := wrap_succ hlt hn
      have hop : (ch i).op = op' := by rw [hchi]; rfl
      have HC := Lib.hid (HREC.out i hlt wr HB.out)
      obtain ⟨T, hT⟩ : ∃ T, (ch i).txt = T := ⟨_, rfl⟩
      rw [hT] at HC
      have hlt1 : O.length + T.length ≤ 1000000000 := by
        simp only [catL, conF, List.length_append] at hlen2
        rw [HO.out, hop, hT] at hlen2
        have hs : T.length ≤ (if op' = 1 then T else 40 :: (T ++ [41])).length := by
          split
          · exact Nat.le_refl _
          · simp; omega
        omega
      rw [hchi] at HC
      simp only [CT.v, CT.cells] at HC
      clear hrd hlen2
      by_cases h1 : op' = 1
      · subst h1
        have h1 : (1 : Int) = 1 := rfl
        by_cases hi0 : 0 < i
        · have q7 : decide ((0 : Int) < (i : Int)) = true := decide_eq_true (by omega)
          have q7n : decide (0 < i) = true := decide_eq_true hi0
          have HE := Lib.hid (show catL (conF 2 ch) (i + 1) = O ++ ([32, 124, 32] ++ (T)) by
            simp only [catL, conF]
            rw [HO.out, hop, hT]
            simp [hi0, h1, betT])
          have HF : Hid ((bs O ++ ⟨#[32, 124, 32]⟩ ++ bs T : ByteArray) = bs (catL (conF 2 ch) (i + 1))) := Lib.hid (by rw [HE.out, ← List.append_assoc, ← bs_append, ← bs_append]; rfl)
          have z3 : ¬ (9223372036854775807 < O.length + 3) := by omega
          have z4 : ¬ (9223372036854775807 < O.length + 3 + T.length) := by omega
          clear hchi hop hT h1 hi0 hlen HE
          go_wp2_with fail
          refine HC.out.mono ?_
          rintro e w1 ⟨rfl, hb⟩
          have hx1 := HX.out.below hb HX.out.lt
          have HB1 := Lib.hid (HB.out.trans (hb.mono hsz))
          obtain ⟨m0, m1, m2, m3, m4, m5⟩ := HRD.out w1 (HB1.out.block gx (by have := HBB.out; omega))
          have c5' := hx1.cell 5 rfl
          have HX1 := Lib.hid hx1
          clear hb hx1 m1 m2 m3 m4 m5
          go_wp2_with fail
          go_roundw
          case rel => exact ⟨i + 1, hlt, rfl, by rw [← HF.out], HX1.out, HB1.out⟩
          case measure => simp only [Lib.intOf]; omega
        · have q7 : decide ((0 : Int) < (i : Int)) = false := decide_eq_false (by omega)
          have q7n : decide (0 < i) = false := decide_eq_false hi0
          have HE := Lib.hid (show catL (conF 2 ch) (i + 1) = O ++ ([] ++ (T)) by
            simp only [catL, conF]
            rw [HO.out, hop, hT]
            simp [hi0, h1, betT])
          have HF : Hid ((bs O ++ bs T : ByteArray) = bs (catL (conF 2 ch) (i + 1))) := Lib.hid (by rw [HE.out, List.nil_append, ← bs_append])
          have z4 : ¬ (9223372036854775807 < O.length + T.length) := by omega
          clear hchi hop hT h1 hi0 hlen HE
          go_wp2_with fail
          refine HC.out.mono ?_
          rintro e w1 ⟨rfl, hb⟩
          have hx1 := HX.out.below hb HX.out.lt
          have HB1 := Lib.hid (HB.out.trans (hb.mono hsz))
          obtain ⟨m0, m1, m2, m3, m4, m5⟩ := HRD.out w1 (HB1.out.block gx (by have := HBB.out; omega))
          have c5' := hx1.cell 5 rfl
          have HX1 := Lib.hid hx1
          clear hb hx1 m1 m2 m3 m4 m5
          go_wp2_with fail
          go_roundw
          case rel => exact ⟨i + 1, hlt, rfl, by rw [← HF.out], HX1.out, HB1.out⟩
          case measure => simp only [Lib.intOf]; omega
      · have q8 : (op' != 1) = true := by simpa [bne] using h1
        by_cases hi0 : 0 < i
        · have q7 : decide ((0 : Int) < (i : Int)) = true := decide_eq_true (by omega)
          have q7n : decide (0 < i) = true := decide_eq_true hi0
          have HE := Lib.hid (show catL (conF 2 ch) (i + 1) = O ++ ([32, 124, 32] ++ (40 :: (T ++ [41]))) by
            simp only [catL, conF]
            rw [HO.out, hop, hT]
            simp [hi0, h1, betT])
          have HF : Hid ((bs O ++ ⟨#[32, 124, 32]⟩ ++ (⟨#[40]⟩ ++ bs T ++ ⟨#[41]⟩) : ByteArray) = bs (catL (conF 2 ch) (i + 1))) := Lib.hid (by rw [HE.out, show (40 :: (T ++ [41]) : List UInt8) = [40] ++ T ++ [41] by simp, ← List.append_assoc, ← bs_append, ← bs_append, ← bs_append, ← bs_append]; rfl)
          have z1 : ¬ (9223372036854775807 < 1 + T.length) := by omega
          have z2 : ¬ (9223372036854775807 < 1 + T.length + 1) := by omega
          have z3 : ¬ (9223372036854775807 < O.length + 3) := by omega
          have z4 : ¬ (9223372036854775807 < O.length + 3 + (1 + T.length + 1)) := by omega
          clear hchi hop hT h1 hi0 hlen HE
          go_wp2_with fail
          refine HC.out.mono ?_
          rintro e w1 ⟨rfl, hb⟩
          have hx1 := HX.out.below hb HX.out.lt
          have HB1 := Lib.hid (HB.out.trans (hb.mono hsz))
          obtain ⟨m0, m1, m2, m3, m4, m5⟩ := HRD.out w1 (HB1.out.block gx (by have := HBB.out; omega))
          have c5' := hx1.cell 5 rfl
          have HX1 := Lib.hid hx1
          clear hb hx1 m1 m2 m3 m4 m5
          go_wp2_with fail
          go_roundw
          case rel => exact ⟨i + 1, hlt, rfl, by rw [← HF.out], HX1.out, HB1.out⟩
          case measure => simp only [Lib.intOf]; omega
        · have q7 : decide ((0 : Int) < (i : Int)) = false := decide_eq_false (by omega)
          have q7n : decide (0 < i) = false := decide_eq_false hi0
          have HE := Lib.hid (show catL (conF 2 ch) (i + 1) = O ++ ([] ++ (40 :: (T ++ [41]))) by
            simp only [catL, conF]
            rw [HO.out, hop, hT]
            simp [hi0, h1, betT])
          have HF : Hid ((bs O ++ (⟨#[40]⟩ ++ bs T ++ ⟨#[41]⟩) : ByteArray) = bs (catL (conF 2 ch) (i + 1))) := Lib.hid (by rw [HE.out, List.nil_append, show (40 :: (T ++ [41]) : List UInt8) = [40] ++ T ++ [41] by simp, ← bs_append, ← bs_append, ← bs_append]; rfl)
          have z1 : ¬ (9223372036854775807 < 1 + T.length) := by omega
          have z2 : ¬ (9223372036854775807 < 1 + T.length + 1) := by omega
          have z4 : ¬ (9223372036854775807 < O.length + (1 + T.length + 1)) := by omega
          clear hchi hop hT h1 hi0 hlen HE
          go_wp2_with fail
          refine HC.out.mono ?_
          rintro e w1 ⟨rfl, hb⟩
          have hx1 := HX.out.below hb HX.out.lt
          have HB1 := Lib.hid (HB.out.trans (hb.mono hsz))
          obtain ⟨m0, m1, m2, m3, m4, m5⟩ := HRD.out w1 (HB1.out.block gx (by have := HBB.out; omega))
          have c5' := hx1.cell 5 rfl
          have HX1 := Lib.hid hx1
          clear hb hx1 m1 m2 m3 m4 m5
          go_wp2_with fail
          go_roundw
          case rel => exact ⟨i + 1, hlt, rfl, by rw [← HF.out], HX1.out, HB1.out⟩
          case measure => simp only [Lib.intOf]; omega
    · have q1 : decide ((i : Int) < (n : Int)) = false := decide_eq_false (by omega)
      have q1n : decide (i < n) = false := decide_eq_false hlt
      obtain rfl : i = n := by omega
      clear hlen
      go_wp2_with fail
      go_ret
      refine ⟨?_, HB.out⟩
      rw [← HO.out]
      rfl
set_option maxHeartbeats 4000000 in
theorem rtext_3 (B : Nat) (w : World) (a : Option Addr) (n cap : Nat) (ch : Nat → CT) (hrow : RowAt B w a n cap 6 (fun i => (ch i).cells)) (hch : ∀ i, i < n → CIn B w (ch i)) (hB : B ≤ w.heap.size) (hl : (catL (conF 3 ch) n).length ≤ 1000000000)
    (hrec : ∀ i, i < n → ∀ w', Below w.heap.size w w' → Calls Tryz.prog 38 #[(ch i).v] w' fun e w'' => e = .returned (.string (bs (ch i).txt)) ∧ Below w'.heap.size w' w'') :
    Calls Tryz.prog 38 #[.agg #[.int .i64 3, .int .i64 0, .int .i64 0, .bool false, .bool false, .slice a n cap]] w fun e w' => e = .returned (.string (bs (catL (conF 3 ch) n))) ∧ Below w.heap.size w w' := by
  have hn : n ≤ 9223372036854775807 := by have := hrow.1; have := hrow.2.1; omega
  have HROW := Lib.hid hrow
  have HCH := Lib.hid hch
  have HBB := Lib.hid hB
  have HREC := Lib.hid hrec
  have HL := Lib.hid hl
  have HB0 := Lib.hid (fun o => ((Below.refl w.heap.size w).alloc (Nat.le_refl _) (.cells #[.int .i64 3, .int .i64 0, .int .i64 0, .bool false, .bool false, .slice a n cap] 34)).alloc (by simp) o)
  have HX0 := Lib.hid (fun o => (Bx.new w #[.int .i64 3, .int .i64 0, .int .i64 0, .bool false, .bool false, .slice a n cap] 34).alloc o)
  clear hrow hch hB hrec hl
  go_enter Tryz.func38, Tryz.ntmps38
  go_wp2_with fail
  go_loopw [6, 7] (fun ov iv wr => RelCt w n (conF 3 ch) w.heap.size #[.int .i64 3, .int .i64 0, .int .i64 0, .bool false, .bool false, .slice a n cap] ov iv wr) (fun _ iv _ => n - (Lib.intOf iv).toNat)
  case atStart => exact ⟨0, Nat.zero_le _, rfl, rfl, HX0.out _, HB0.out _⟩
  case round =>
    obtain ⟨i, hi, rfl, rfl, hbx, hbel⟩ := hrel
    have HB := Lib.hid hbel
    have HX := Lib.hid hbx
    have c5 := hbx.cell 5 rfl
    have hsz := hbel.size
    have hlen := Nat.le_trans (catL_mono (f := conF 3 ch) hi) HL.out
    obtain ⟨O, hO⟩ : ∃ O, catL (conF 3 ch) i = O := ⟨_, rfl⟩
    rw [hO] at hlen
    have HO := Lib.hid hO
    rw [hO]
    clear hbel hbx hO
    by_cases hlt : i < n
    · have q1 : decide ((i : Int) < (n : Int)) = true := decide_eq_true (by omega)
      have q1n : decide (i < n) = true := decide_eq_true hlt
      have hlen2 := Nat.le_trans (catL_mono (f := conF 3 ch) (show i + 1 ≤ n from hlt)) HL.out
      obtain ⟨gx, ox, op', lo', hi', low', high', a', n', cap', ch', hchi, hix, hgx, hrd⟩ := cRow_read HROW.out hlt (HCH.out i hlt)
      obtain ⟨k0, k1, k2, k3, k4, k5⟩ := hrd wr (HB.out.block gx (by have := HBB.out; omega))
      have HRD := Lib.hid (fun (W : World) (h : W.heap[gx]? = w.heap[gx]?) => hrd W h)
      have q6 : IntKind.i64.wrap ((i : Int) + 1) = ((i + 1 : Nat) : Int) := wrap_succ hlt hn
      have hop : (ch i).op = op' := by rw [hchi]; rfl
      have HC := Lib.hid (HREC.out i hlt wr HB.out)
      obtain ⟨T, hT⟩ : ∃ T, (ch i).txt = T := ⟨_, rfl⟩
      rw [hT] at HC
      have hlt1 : O.length + T.length ≤ 1000000000 := by
        simp only [catL, conF, List.length_append] at hlen2
        rw [HO.out, hop, hT] at hlen2
        have hs : T.length ≤ (if op' = 1 then T else 40 :: (T ++ [41])).length := by
          split
          · exact Nat.le_refl _
          · simp; omega
        omega
      rw [hchi] at HC
      simp only [CT.v, CT.cells] at HC
      clear hrd hlen2
      by_cases h1 : op' = 1
      · subst h1
        have h1 : (1 : Int) = 1 := rfl
        by_cases hi0 : 0 < i
        · have q7 : decide ((0 : Int) < (i : Int)) = true := decide_eq_true (by omega)
          have q7n : decide (0 < i) = true := decide_eq_true hi0
          have HE := Lib.hid (show catL (conF 3 ch) (i + 1) = O ++ ([32, 94, 32] ++ (T)) by
            simp only [catL, conF]
            rw [HO.out, hop, hT]
            simp [hi0, h1, betT])
          have HF : Hid ((bs O ++ ⟨#[32, 94, 32]⟩ ++ bs T : ByteArray) = bs (catL (conF 3 ch) (i + 1))) := Lib.hid (by rw [HE.out, ← List.append_assoc, ← bs_append, ← bs_append]; rfl)
          have z3 : ¬ (9223372036854775807 < O.length + 3) := by omega
          have z4 : ¬ (9223372036854775807 < O.length + 3 + T.length) := by omega
          clear hchi hop hT h1 hi0 hlen HE
          go_wp2_with fail
          refine HC.out.mono ?_
          rintro e w1 ⟨rfl, hb⟩
          have hx1 := HX.out.below hb HX.out.lt
          have HB1 := Lib.hid (HB.out.trans (hb.mono hsz))
          obtain ⟨m0, m1, m2, m3, m4, m5⟩ := HRD.out w1 (HB1.out.block gx (by have := HBB.out; omega))
          have c5' := hx1.cell 5 rfl
          have HX1 := Lib.hid hx1
          clear hb hx1 m1 m2 m3 m4 m5
          go_wp2_with fail
          go_roundw
          case rel => exact ⟨i + 1, hlt, rfl, by rw [← HF.out], HX1.out, HB1.out⟩
          case measure => simp only [Lib.intOf]; omega
        · have q7 : decide ((0 : Int) < (i : Int)) = false := decide_eq_false (by omega)
          have q7n : decide (0 < i) = false := decide_eq_false hi0
          have HE := Lib.hid (show catL (conF 3 ch) (i + 1) = O ++ ([] ++ (T)) by
            simp only [catL, conF]
            rw [HO.out, hop, hT]
            simp [hi0, h1, betT])
          have HF : Hid ((bs O ++ bs T : ByteArray) = bs (catL (conF 3 ch) (i + 1))) := Lib.hid (by rw [HE.out, List.nil_append, ← bs_append])
          have z4 : ¬ (9223372036854775807 < O.length + T.length) := by omega
          clear hchi hop hT h1 hi0 hlen HE
          go_wp2_with fail
          refine HC.out.mono ?_
          rintro e w1 ⟨rfl, hb⟩
          have hx1 := HX.out.below hb HX.out.lt
          have HB1 := Lib.hid (HB.out.trans (hb.mono hsz))
          obtain ⟨m0, m1, m2, m3, m4, m5⟩ := HRD.out w1 (HB1.out.block gx (by have := HBB.out; omega))
          have c5' := hx1.cell 5 rfl
          have HX1 := Lib.hid hx1
          clear hb hx1 m1 m2 m3 m4 m5
          go_wp2_with fail
          go_roundw
          case rel => exact ⟨i + 1, hlt, rfl, by rw [← HF.out], HX1.out, HB1.out⟩
          case measure => simp only [Lib.intOf]; omega
      · have q8 : (op' != 1) = true := by simpa [bne] using h1
        by_cases hi0 : 0 < i
        · have q7 : decide ((0 : Int) < (i : Int)) = true := decide_eq_true (by omega)
          have q7n : decide (0 < i) = true := decide_eq_true hi0
          have HE := Lib.hid (show catL (conF 3 ch) (i + 1) = O ++ ([32, 94, 32] ++ (40 :: (T ++ [41]))) by
            simp only [catL, conF]
            rw [HO.out, hop, hT]
            simp [hi0, h1, betT])
          have HF : Hid ((bs O ++ ⟨#[32, 94, 32]⟩ ++ (⟨#[40]⟩ ++ bs T ++ ⟨#[41]⟩) : ByteArray) = bs (catL (conF 3 ch) (i + 1))) := Lib.hid (by rw [HE.out, show (40 :: (T ++ [41]) : List UInt8) = [40] ++ T ++ [41] by simp, ← List.append_assoc, ← bs_append, ← bs_append, ← bs_append, ← bs_append]; rfl)
          have z1 : ¬ (9223372036854775807 < 1 + T.length) := by omega
          have z2 : ¬ (9223372036854775807 < 1 + T.length + 1) := by omega
          have z3 : ¬ (9223372036854775807 < O.length + 3) := by omega
          have z4 : ¬ (9223372036854775807 < O.length + 3 + (1 + T.length + 1)) := by omega
          clear hchi hop hT h1 hi0 hlen HE
          go_wp2_with fail
          refine HC.out.mono ?_
          rintro e w1 ⟨rfl, hb⟩
          have hx1 := HX.out.below hb HX.out.lt
          have HB1 := Lib.hid (HB.out.trans (hb.mono hsz))
          obtain ⟨m0, m1, m2, m3, m4, m5⟩ := HRD.out w1 (HB1.out.block gx (by have := HBB.out; omega))
          have c5' := hx1.cell 5 rfl
          have HX1 := Lib.hid hx1
          clear hb hx1 m1 m2 m3 m4 m5
          go_wp2_with fail
          go_roundw
          case rel => exact ⟨i + 1, hlt, rfl, by rw [← HF.out], HX1.out, HB1.out⟩
          case measure => simp only [Lib.intOf]; omega
        · have q7 : decide ((0 : Int) < (i : Int)) = false := decide_eq_false (by omega)
          have q7n : decide (0 < i) = false := decide_eq_false hi0
          have HE := Lib.hid (show catL (conF 3 ch) (i + 1) = O ++ ([] ++ (40 :: (T ++ [41]))) by
            simp only [catL, conF]
            rw [HO.out, hop, hT]
            simp [hi0, h1, betT])
          have HF : Hid ((bs O ++ (⟨#[40]⟩ ++ bs T ++ ⟨#[41]⟩) : ByteArray) = bs (catL (conF 3 ch) (i + 1))) := Lib.hid (by rw [HE.out, List.nil_append, show (40 :: (T ++ [41]) : List UInt8) = [40] ++ T ++ [41] by simp, ← bs_append, ← bs_append, ← bs_append]; rfl)
          have z1 : ¬ (9223372036854775807 < 1 + T.length) := by omega
          have z2 : ¬ (9223372036854775807 < 1 + T.length + 1) := by omega
          have z4 : ¬ (9223372036854775807 < O.length + (1 + T.length + 1)) := by omega
          clear hchi hop hT h1 hi0 hlen HE
          go_wp2_with fail
          refine HC.out.mono ?_
          rintro e w1 ⟨rfl, hb⟩
          have hx1 := HX.out.below hb HX.out.lt
          have HB1 := Lib.hid (HB.out.trans (hb.mono hsz))
          obtain ⟨m0, m1, m2, m3, m4, m5⟩ := HRD.out w1 (HB1.out.block gx (by have := HBB.out; omega))
          have c5' := hx1.cell 5 rfl
          have HX1 := Lib.hid hx1
          clear hb hx1 m1 m2 m3 m4 m5
          go_wp2_with fail
          go_roundw
          case rel => exact ⟨i + 1, hlt, rfl, by rw [← HF.out], HX1.out, HB1.out⟩
          case measure => simp only [Lib.intOf]; omega
    · have q1 : decide ((i : Int) < (n : Int)) = false := decide_eq_false (by omega)
      have q1n : decide (i < n) = false := decide_eq_false hlt
      obtain rfl : i = n := by omega
      clear hlen
      go_wp2_with fail
      go_ret
      refine ⟨?_, HB.out⟩
      rw [← HO.out]
      rfl
set_option maxHeartbeats 4000000 in
theorem rtext_4 (B : Nat) (w : World) (a : Option Addr) (n cap : Nat) (ch : Nat → CT) (hrow : RowAt B w a n cap 6 (fun i => (ch i).cells)) (hch : ∀ i, i < n → CIn B w (ch i)) (hB : B ≤ w.heap.size) (hl : (catL (conF 4 ch) n).length ≤ 1000000000)
    (hrec : ∀ i, i < n → ∀ w', Below w.heap.size w w' → Calls Tryz.prog 38 #[(ch i).v] w' fun e w'' => e = .returned (.string (bs (ch i).txt)) ∧ Below w'.heap.size w' w'') :
    Calls Tryz.prog 38 #[.agg #[.int .i64 4, .int .i64 0, .int .i64 0, .bool false, .bool false, .slice a n cap]] w fun e w' => e = .returned (.string (bs (catL (conF 4 ch) n))) ∧ Below w.heap.size w w' := by
  have hn : n ≤ 9223372036854775807 := by have := hrow.1; have := hrow.2.1; omega
  have HROW := Lib.hid hrow
  have HCH := Lib.hid hch
  have HBB := Lib.hid hB
  have HREC := Lib.hid hrec
  have HL := Lib.hid hl
  have HB0 := Lib.hid (fun o => ((Below.refl w.heap.size w).alloc (Nat.le_refl _) (.cells #[.int .i64 4, .int .i64 0, .int .i64 0, .bool false, .bool false, .slice a n cap] 34)).alloc (by simp) o)
  have HX0 := Lib.hid (fun o => (Bx.new w #[.int .i64 4, .int .i64 0, .int .i64 0, .bool false, .bool false, .slice a n cap] 34).alloc o)
  clear hrow hch hB hrec hl
  go_enter Tryz.func38, Tryz.ntmps38
  go_wp2_with fail
  go_loopw [6, 7] (fun ov iv wr => RelCt w n (conF 4 ch) w.heap.size #[.int .i64 4, .int .i64 0, .int .i64 0, .bool false, .bool false, .slice a n cap] ov iv wr) (fun _ iv _ => n - (Lib.intOf iv).toNat)
  case atStart => exact ⟨0, Nat.zero_le _, rfl, rfl, HX0.out _, HB0.out _⟩
  case round =>
    obtain ⟨i, hi, rfl, rfl, hbx, hbel⟩ := hrel
    have HB := Lib.hid hbel
    have HX := Lib.hid hbx
    have c5 := hbx.cell 5 rfl
    have hsz := hbel.size
    have hlen := Nat.le_trans (catL_mono (f := conF 4 ch) hi) HL.out
    obtain ⟨O, hO⟩ : ∃ O, catL (conF 4 ch) i = O := ⟨_, rfl⟩
    rw [hO] at hlen
    have HO := Lib.hid hO
    rw [hO]
    clear hbel hbx hO
    by_cases hlt : i < n
    · have q1 : decide ((i : Int) < (n : Int)) = true := decide_eq_true (by omega)
      have q1n : decide (i < n) = true := decide_eq_true hlt
      have hlen2 := Nat.le_trans (catL_mono (f := conF 4 ch) (show i + 1 ≤ n from hlt)) HL.out
      obtain ⟨gx, ox, op', lo', hi', low', high', a', n', cap', ch', hchi, hix, hgx, hrd⟩ := cRow_read HROW.out hlt (HCH.out i hlt)
      obtain ⟨k0, k1, k2, k3, k4, k5⟩ := hrd wr (HB.out.block gx (by have := HBB.out; omega))
      have HRD := Lib.hid (fun (W : World) (h : W.heap[gx]? = w.heap[gx]?) => hrd W h)
      have q6 : IntKind.i64.wrap ((i : Int) + 1) = ((i + 1 : Nat) : Int) := wrap_succ hlt hn
      have hop : (ch i).op = op' := by rw [hchi]; rfl
      have HC := Lib.hid (HREC.out i hlt wr HB.out)
      obtain ⟨T, hT⟩ : ∃ T, (ch i).txt = T := ⟨_, rfl⟩
      rw [hT] at HC
      have hlt1 : O.length + T.length ≤ 1000000000 := by
        simp only [catL, conF, List.length_append] at hlen2
        rw [HO.out, hop, hT] at hlen2
        have hs : T.length ≤ (if op' = 1 then T else 40 :: (T ++ [41])).length := by
          split
          · exact Nat.le_refl _
          · simp; omega
        omega
      rw [hchi] at HC
      simp only [CT.v, CT.cells] at HC
      clear hrd hlen2
      by_cases h1 : op' = 1
      · subst h1
        have h1 : (1 : Int) = 1 := rfl
        by_cases hi0 : 0 < i
        · have q7 : decide ((0 : Int) < (i : Int)) = true := decide_eq_true (by omega)
          have q7n : decide (0 < i) = true := decide_eq_true hi0
          have HE := Lib.hid (show catL (conF 4 ch) (i + 1) = O ++ ([32, 69, 88, 67, 69, 80, 84, 32] ++ (T)) by
            simp only [catL, conF]
            rw [HO.out, hop, hT]
            simp [hi0, h1, betT])
          have HF : Hid ((bs O ++ ⟨#[32, 69, 88, 67, 69, 80, 84, 32]⟩ ++ bs T : ByteArray) = bs (catL (conF 4 ch) (i + 1))) := Lib.hid (by rw [HE.out, ← List.append_assoc, ← bs_append, ← bs_append]; rfl)
          have z3 : ¬ (9223372036854775807 < O.length + 8) := by omega
          have z4 : ¬ (9223372036854775807 < O.length + 8 + T.length) := by omega
          clear hchi hop hT h1 hi0 hlen HE
          go_wp2_with fail
          refine HC.out.mono ?_
          rintro e w1 ⟨rfl, hb⟩
          have hx1 := HX.out.below hb HX.out.lt
          have HB1 := Lib.hid (HB.out.trans (hb.mono hsz))
          obtain ⟨m0, m1, m2, m3, m4, m5⟩ := HRD.out w1 (HB1.out.block gx (by have := HBB.out; omega))
          have c5' := hx1.cell 5 rfl
          have HX1 := Lib.hid hx1
          clear hb hx1 m1 m2 m3 m4 m5
          go_wp2_with fail
          go_roundw
          case rel => exact ⟨i + 1, hlt, rfl, by rw [← HF.out], HX1.out, HB1.out⟩
          case measure => simp only [Lib.intOf]; omega
        · have q7 : decide ((0 : Int) < (i : Int)) = false := decide_eq_false (by omega)
          have q7n : decide (0 < i) = false := decide_eq_false hi0
          have HE := Lib.hid (show catL (conF 4 ch) (i + 1) = O ++ ([] ++ (T)) by
            simp only [catL, conF]
            rw [HO.out, hop, hT]
            simp [hi0, h1, betT])
          have HF : Hid ((bs O ++ bs T : ByteArray) = bs (catL (conF 4 ch) (i + 1))) := Lib.hid (by rw [HE.out, List.nil_append, ← bs_append])
          have z4 : ¬ (9223372036854775807 < O.length + T.length) := by omega
          clear hchi hop hT h1 hi0 hlen HE
          go_wp2_with fail
          refine HC.out.mono ?_
          rintro e w1 ⟨rfl, hb⟩
          have hx1 := HX.out.below hb HX.out.lt
          have HB1 := Lib.hid (HB.out.trans (hb.mono hsz))
          obtain ⟨m0, m1, m2, m3, m4, m5⟩ := HRD.out w1 (HB1.out.block gx (by have := HBB.out; omega))
          have c5' := hx1.cell 5 rfl
          have HX1 := Lib.hid hx1
          clear hb hx1 m1 m2 m3 m4 m5
          go_wp2_with fail
          go_roundw
          case rel => exact ⟨i + 1, hlt, rfl, by rw [← HF.out], HX1.out, HB1.out⟩
          case measure => simp only [Lib.intOf]; omega
      · have q8 : (op' != 1) = true := by simpa [bne] using h1
        by_cases hi0 : 0 < i
        · have q7 : decide ((0 : Int) < (i : Int)) = true := decide_eq_true (by omega)
          have q7n : decide (0 < i) = true := decide_eq_true hi0
          have HE := Lib.hid (show catL (conF 4 ch) (i + 1) = O ++ ([32, 69, 88, 67, 69, 80, 84, 32] ++ (40 :: (T ++ [41]))) by
            simp only [catL, conF]
            rw [HO.out, hop, hT]
            simp [hi0, h1, betT])
          have HF : Hid ((bs O ++ ⟨#[32, 69, 88, 67, 69, 80, 84, 32]⟩ ++ (⟨#[40]⟩ ++ bs T ++ ⟨#[41]⟩) : ByteArray) = bs (catL (conF 4 ch) (i + 1))) := Lib.hid (by rw [HE.out, show (40 :: (T ++ [41]) : List UInt8) = [40] ++ T ++ [41] by simp, ← List.append_assoc, ← bs_append, ← bs_append, ← bs_append, ← bs_append]; rfl)
          have z1 : ¬ (9223372036854775807 < 1 + T.length) := by omega
          have z2 : ¬ (9223372036854775807 < 1 + T.length + 1) := by omega
          have z3 : ¬ (9223372036854775807 < O.length + 8) := by omega
          have z4 : ¬ (9223372036854775807 < O.length + 8 + (1 + T.length + 1)) := by omega
          clear hchi hop hT h1 hi0 hlen HE
          go_wp2_with fail
          refine HC.out.mono ?_
          rintro e w1 ⟨rfl, hb⟩
          have hx1 := HX.out.below hb HX.out.lt
          have HB1 := Lib.hid (HB.out.trans (hb.mono hsz))
          obtain ⟨m0, m1, m2, m3, m4, m5⟩ := HRD.out w1 (HB1.out.block gx (by have := HBB.out; omega))
          have c5' := hx1.cell 5 rfl
          have HX1 := Lib.hid hx1
          clear hb hx1 m1 m2 m3 m4 m5
          go_wp2_with fail
          go_roundw
          case rel => exact ⟨i + 1, hlt, rfl, by rw [← HF.out], HX1.out, HB1.out⟩
          case measure => simp only [Lib.intOf]; omega
        · have q7 : decide ((0 : Int) < (i : Int)) = false := decide_eq_false (by omega)
          have q7n : decide (0 < i) = false := decide_eq_false hi0
          have HE := Lib.hid (show catL (conF 4 ch) (i + 1) = O ++ ([] ++ (40 :: (T ++ [41]))) by
            simp only [catL, conF]
            rw [HO.out, hop, hT]
            simp [hi0, h1, betT])
          have HF : Hid ((bs O ++ (⟨#[40]⟩ ++ bs T ++ ⟨#[41]⟩) : ByteArray) = bs (catL (conF 4 ch) (i + 1))) := Lib.hid (by rw [HE.out, List.nil_append, show (40 :: (T ++ [41]) : List UInt8) = [40] ++ T ++ [41] by simp, ← bs_append, ← bs_append, ← bs_append]; rfl)
          have z1 : ¬ (9223372036854775807 < 1 + T.length) := by omega
          have z2 : ¬ (9223372036854775807 < 1 + T.length + 1) := by omega
          have z4 : ¬ (9223372036854775807 < O.length + (1 + T.length + 1)) := by omega
          clear hchi hop hT h1 hi0 hlen HE
          go_wp2_with fail
          refine HC.out.mono ?_
          rintro e w1 ⟨rfl, hb⟩
          have hx1 := HX.out.below hb HX.out.lt
          have HB1 := Lib.hid (HB.out.trans (hb.mono hsz))
          obtain ⟨m0, m1, m2, m3, m4, m5⟩ := HRD.out w1 (HB1.out.block gx (by have := HBB.out; omega))
          have c5' := hx1.cell 5 rfl
          have HX1 := Lib.hid hx1
          clear hb hx1 m1 m2 m3 m4 m5
          go_wp2_with fail
          go_roundw
          case rel => exact ⟨i + 1, hlt, rfl, by rw [← HF.out], HX1.out, HB1.out⟩
          case measure => simp only [Lib.intOf]; omega
    · have q1 : decide ((i : Int) < (n : Int)) = false := decide_eq_false (by omega)
      have q1n : decide (i < n) = false := decide_eq_false hlt
      obtain rfl : i = n := by omega
      clear hlen
      go_wp2_with fail
      go_ret
      refine ⟨?_, HB.out⟩
      rw [← HO.out]
      rfl
end Go.Proofs.YtgmnojnalkhepaaGreatDoor

/-
  The document's text of a constraint: 'conText', 'ConText'; how long a text is.
-/
namespace Go.Proofs.YtgmnojnalkhepaaGreatDoor
open Go.RowKit
set_option linter.unusedVariables false
set_option linter.unusedSimpArgs false
set_option maxRecDepth 100000

/-- is a constraint such that it has a text? -/
def CT.wf : CT → Prop
  | .nil => False
  | .mk op lo hi low high _ n _ ch => (op = 1 ∧ lo ≠ -9223372036854775808 ∧ hi ≠ -9223372036854775808) ∨ ((op = 2 ∨ op = 3 ∨ op = 4) ∧ 2 ≤ n ∧ lo = 0 ∧ hi = 0 ∧ low = false ∧ high = false ∧ ∀ i, i < n → (ch i).wf)
theorem CT.ok_wf : ∀ (c : CT) (d : Nat), c.ok d = true → c.op ≠ 0 → c.wf
  | .nil, d, h, _ => by cases h
  | .mk op lo hi low high a n cap ch, d, h, h0 => by
    have h0 : op ≠ 0 := h0
    rw [CT.ok] at h
    simp only [Bool.and_eq_true, decide_eq_true_eq] at h
    obtain ⟨_, hf, ha⟩ := h
    have hall := allN_iff.1 ha
    unfold cFlds at hf
    rw [if_neg h0] at hf
    by_cases h1 : op = 1
    · rw [if_pos h1] at hf
      simp only [Bool.and_eq_true, decide_eq_true_eq] at hf
      exact .inl ⟨h1, hf.2.2.2.1, hf.2.2.2.2⟩
    rw [if_neg h1] at hf
    right
    have hch : ∀ i, i < n → (ch i).wf := fun i hi => by
      have h2 := hall i hi
      simp only [Bool.and_eq_true, decide_eq_true_eq] at h2
      exact CT.ok_wf (ch i) (d - 1) h2.2 h2.1
    by_cases h2 : op = 2 ∨ op = 3
    · rw [if_pos h2] at hf
      simp only [Bool.and_eq_true, decide_eq_true_eq, Bool.not_eq_true'] at hf
      exact ⟨by omega, hf.2.2.2.2, hf.1, hf.2.1, hf.2.2.1, hf.2.2.2.1, hch⟩
    rw [if_neg h2] at hf
    by_cases h4 : op = 4
    · rw [if_pos h4] at hf
      simp only [Bool.and_eq_true, decide_eq_true_eq, Bool.not_eq_true'] at hf
      exact ⟨by omega, by omega, hf.1, hf.2.1, hf.2.2.1, hf.2.2.2.1, hch⟩
    · rw [if_neg h4] at hf
      cases hf
theorem bet_len (op : Int) : (betT op).length ≤ 8 := by
  unfold betT
  split
  · decide
  · split <;> decide
theorem side_len (p : Prop) [Decidable p] (T : List UInt8) : T.length ≤ (if p then T else 40 :: (T ++ [41])).length ∧ (if p then T else 40 :: (T ++ [41])).length ≤ T.length + 2 := by
  split
  · omega
  · simp
    omega
theorem conF_len (op : Int) (ch : Nat → CT) (i : Nat) : (ch i).txt.length ≤ (conF op ch i).length ∧ (conF op ch i).length ≤ (ch i).txt.length + 10 := by
  have h1 := side_len ((ch i).op = 1) (ch i).txt
  have h2 := bet_len op
  unfold conF
  rw [List.length_append]
  split
  · omega
  · rw [List.length_nil]
    omega
theorem catL_one {f : Nat → List UInt8} {n i : Nat} (hi : i < n) : (f i).length ≤ (catL f n).length := by
  have := catL_mono (f := f) (show i + 1 ≤ n from hi)
  simp only [catL, List.length_append] at this
  omega
theorem rtext_ok : ∀ (c : CT) (B : Nat) (w : World), CIn B w c → B ≤ w.heap.size → c.wf → c.txt.length ≤ 1000000000 →
    Calls Tryz.prog 38 #[.agg c.cells.toArray] w fun e w' => e = .returned (.string (bs c.txt)) ∧ Below w.heap.size w w'
  | .nil, _, _, h, _, _, _ => h.elim
  | .mk op lo hi low high a n cap ch, B, w, hin, hB, hwf, hl => by
    have HREC := fun i (hi : i < n) (w' : World) (hb : Below w.heap.size w w') => rtext_ok (ch i) w.heap.size w' ((hin.2.2 i hi).below hb hB) hb.size
    rcases hwf with ⟨rfl, h1, h2⟩ | ⟨hop, hn, rfl, rfl, rfl, rfl, hch⟩
    · rw [show (CT.mk 1 lo hi low high a n cap ch).txt = spanT lo hi low high by rw [CT.txt, if_pos rfl]]
      exact rtext_1 lo hi low high a n cap w hin.1.2.1 hin.1.2.2 h1 h2
    · have htx : (CT.mk op 0 0 false false a n cap ch).txt = catL (conF op ch) n := by rw [CT.txt, if_neg (by omega)]; rfl
      rw [htx] at hl
      rw [htx]
      have hl2 : ∀ i, i < n → (ch i).txt.length ≤ 1000000000 := fun i hi => by
        have h1 := (conF_len op ch i).1
        have h2 := catL_one (f := conF op ch) hi
        omega
      rcases hop with rfl | rfl | rfl
      · exact rtext_2 B w a n cap ch hin.2.1 hin.2.2 hB hl (fun i hi w' hb => HREC i hi w' hb (hch i hi) (hl2 i hi))
      · exact rtext_3 B w a n cap ch hin.2.1 hin.2.2 hB hl (fun i hi w' hb => HREC i hi w' hb (hch i hi) (hl2 i hi))
      · exact rtext_4 B w a n cap ch hin.2.1 hin.2.2 hB hl (fun i hi w' hb => HREC i hi w' hb (hch i hi) (hl2 i hi))
theorem itoa_ne (n : Int) : Lib.itoa n ≠ [] := by
  have h : ∀ u, Lib.decDigits u ≠ [] := fun u h => by
    have := Lib.decDigits_length u
    rw [h] at this
    have h2 := Lib.nDigits_pos u
    simp at this
    omega
  unfold Lib.itoa
  split
  · simp
  · exact h _
theorem spanT_ne (lo hi : Int) (low high : Bool) : spanT lo hi low high ≠ [] := by
  unfold spanT
  split
  · exact itoa_ne lo
  · simp [dotT]
theorem spanT_len (lo hi : Int) (low high : Bool) (h1 : I64 lo) (h2 : I64 hi) : (spanT lo hi low high).length ≤ 50 := by
  have l1 := itoa_len h1
  have l2 := itoa_len h2
  unfold spanT
  split
  · omega
  · simp only [List.length_append, dotT, List.length_cons, List.length_nil]
    split <;> split <;> simp [minT, maxT] <;> omega
theorem CT.txt_ne : ∀ (c : CT), c.wf → c.txt ≠ []
  | .nil, h => h.elim
  | .mk op lo hi low high a n cap ch, h => by
    rcases h with ⟨rfl, _, _⟩ | ⟨hop, hn, rfl, rfl, rfl, rfl, hch⟩
    · rw [CT.txt, if_pos rfl]
      exact spanT_ne _ _ _ _
    · have htx : (CT.mk op 0 0 false false a n cap ch).txt = catL (conF op ch) n := by rw [CT.txt, if_neg (by omega)]; rfl
      rw [htx]
      intro he
      have h1 := catL_one (f := conF op ch) (show 0 < n by omega)
      rw [he] at h1
      have h2 := (conF_len op ch 0).1
      have h3 := CT.txt_ne (ch 0) (hch 0 (by omega))
      have h4 : (ch 0).txt.length ≠ 0 := by simpa using h3
      rw [List.length_nil] at h1
      omega
theorem fewN_pos {g : Nat → Int → Int} {n : Nat} {x : Int} (h : 0 ≤ fewN g n x) {k : Nat} (hk : k ≤ n) : 0 ≤ fewN g k x := by
  rcases Int.lt_or_le (fewN g k x) 0 with h1 | h1
  · rw [fewN_stop h1 n hk] at h
    omega
  · exact h1
theorem CT.txt_len {B : Nat} {W : World} : ∀ (c : CT), CIn B W c → ∀ x : Int, 0 ≤ c.few x → (c.txt.length : Int) ≤ 60 * (x - c.few x) - 10
  | .nil, h, _, _ => h.elim
  | .mk op lo hi low high a n cap ch, h, x, hf => by
    have hb := CT.few_bounds (.mk op lo hi low high a n cap ch) x
    by_cases h1 : op = 1
    · subst h1
      rw [CT.txt, if_pos rfl]
      have hl := spanT_len lo hi low high h.1.2.1 h.1.2.2
      have hn : (CT.mk 1 lo hi low high a n cap ch).few x ≤ x - 1 := by
        simp only [CT.few]
        exact (fewN_bounds (g := fun i y => (ch i).few y) (n := n) (fun i _ y hy => by have h2 := CT.few_bounds (ch i) y; show -1 ≤ (ch i).few y ∧ (ch i).few y ≤ y; omega) n (Nat.le_refl _) (x - 1)).2
      omega
    · have htx : (CT.mk op lo hi low high a n cap ch).txt = catL (conF op ch) n := by rw [CT.txt, if_neg h1]; rfl
      rw [htx]
      simp only [CT.few] at hf ⊢
      have key : ∀ k, k ≤ n → ((catL (conF op ch) k).length : Int) ≤ 60 * (x - 1 - fewN (fun i y => (ch i).few y) k (x - 1)) := by
        intro k
        induction k with
        | zero => intro _; simp [catL, fewN]
        | succ k ih =>
          intro hk
          have h2 := ih (by omega)
          have h3 := fewN_pos hf (show k ≤ n by omega)
          have h4 := fewN_pos hf hk
          have e : fewN (fun i y => (ch i).few y) (k + 1) (x - 1) = (ch k).few (fewN (fun i y => (ch i).few y) k (x - 1)) := by
            simp only [fewN]
            rw [if_pos h3]
          rw [e] at h4 ⊢
          have h5 := CT.txt_len (ch k) (h.2.2 k (by omega)) _ h4
          have h6 := (conF_len op ch k).2
          simp only [catL, List.length_append]
          omega
      have := key n (Nat.le_refl _)
      omega
end Go.Proofs.YtgmnojnalkhepaaGreatDoor
