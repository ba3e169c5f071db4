/-
  Whether a constraint lets a number in, as the document asks it: 'in', 'In'.
-/
import Derived.Test.YtfnpjdglfaaegaaBdM
namespace Go.Proofs.Ytfnpjdglfaaegaa
open Go.RowKit
set_option linter.unusedVariables false
set_option linter.unusedSimpArgs false
set_option maxRecDepth 100000

theorem CIn.open {B : Nat} {W : World} {c : CT} (h : CIn B W c) : ∃ op lo hi low high a n cap ch, c = .mk op lo hi low high a n cap ch := by
  cases c with
  | nil => exact h.elim
  | mk op lo hi low high a n cap ch => exact ⟨_, _, _, _, _, _, _, _, _, rfl⟩
def RelIn (w : World) (n g : Nat) (cs : Array Value) (p : Nat → Bool) (iv : Value) (wr : World) : Prop :=
  ∃ i : Nat, i ≤ n ∧ iv = .int .i64 (i : Nat) ∧ (∀ j, j < i → p j = true) ∧ Bx wr g cs 24 ∧ Below w.heap.size w wr
theorem relIn_next {p : Nat → Bool} {i : Nat} (h : ∀ j, j < i → p j = true) (hi : p i = true) : ∀ j, j < i + 1 → p j = true := fun j hj => by
  rcases Nat.lt_or_ge j i with h2 | h2
  · exact h j h2
  · obtain rfl : j = i := by omega
    exact hi
set_option maxHeartbeats 16000000 in
theorem rin_ok (B : Nat) : ∀ (c : CT) (x : Int) (d : Nat) (w : World), CIn B w c → B ≤ w.heap.size → 1 ≤ d → d ≤ 41 →
    Calls Try.prog 43 #[c.v, .int .i64 x, .int .i64 (d : Nat)] w fun e w' => e = .returned (.bool (adm c (41 - d) x)) ∧ Below w.heap.size w w'
  | .nil, x, d, w, h, _, _, _ => h.elim
  | .mk op lo hi0 low high a n cap ch, x, d, w, hin, hB, hd1, hd2 => by
    obtain ⟨hI, hrow, hch⟩ := hin
    have HROW := Lib.hid hrow
    have HCH := Lib.hid hch
    have hn : n ≤ 9223372036854775807 := by have := hrow.1; have := hrow.2.1; omega
    have HBB := Lib.hid hB
    have hb0 : Below w.heap.size w (w.alloc (.cells #[.int .i64 op, .int .i64 lo, .int .i64 hi0, .bool low, .bool high, .slice a n cap] 24)) := (Below.refl _ _).alloc (Nat.le_refl _) _
    have hbx := Bx.new w #[.int .i64 op, .int .i64 lo, .int .i64 hi0, .bool low, .bool high, .slice a n cap] 24
    have HB0 := Lib.hid hb0
    have HX0 := Lib.hid hbx
    clear hb0 hbx hI
    show Calls _ _ #[.agg #[.int .i64 op, .int .i64 lo, .int .i64 hi0, .bool low, .bool high, .slice a n cap], .int .i64 x, .int .i64 (d : Nat)] w _
    rcases Nat.lt_or_ge 40 d with hd | hd
    · obtain rfl : d = 41 := by omega
      rw [show 41 - 41 = 0 from rfl, adm_zero]
      clear hrow hch hB
      go_enter Try.func43, Try.ntmps43
      go_wp2_with fail
      go_ret
      exact ⟨rfl, HB0.out⟩
    · have qd : decide ((40 : Int) < (d : Int)) = false := decide_eq_false (by omega)
      have qdn : decide (40 < d) = false := decide_eq_false (by omega)
      obtain ⟨k, hk⟩ : ∃ k, 41 - d = k + 1 := ⟨40 - d, by omega⟩
      rw [hk]
      have HREC := Lib.hid (show ∀ i, i < n → ∀ w', Below w.heap.size w w' → Calls Try.prog 43 #[(ch i).v, .int .i64 x, .int .i64 ((d + 1 : Nat) : Int)] w' fun e w'' => e = .returned (.bool (adm (ch i) k x)) ∧ Below w'.heap.size w' w'' from fun i hi w' hb => by
        have h := rin_ok w.heap.size (ch i) x (d + 1) w' (((hch i hi).below (Below.refl _ _) hB).below hb (Nat.le_refl _)) hb.size (by omega) (by omega)
        rwa [show 41 - (d + 1) = k by omega] at h)
      have qs : IntKind.i64.wrap ((d : Int) + 1) = ((d + 1 : Nat) : Int) := wrap_succ (n := 100) (by omega) (by omega)
      clear hrow hch hB hd1 hd2 hd hk
      by_cases h0 : op = 0
      · subst h0
        rw [adm_all]
        go_enter Try.func43, Try.ntmps43
        go_wp2_with fail
        go_ret
        exact ⟨rfl, HB0.out⟩
      by_cases h1 : op = 1
      · subst h1
        rw [adm_span]
        clear h0
        obtain ⟨bl, hbl⟩ : ∃ bl, decide (lo ≤ x) = bl := ⟨_, rfl⟩
        obtain ⟨bh, hbh⟩ : ∃ bh, decide (x ≤ hi0) = bh := ⟨_, rfl⟩
        rw [hbl, hbh]
        cases low <;> cases high <;> cases bl <;> cases bh <;>
        · go_enter Try.func43, Try.ntmps43
          go_wp2_with fail
          go_ret
          exact ⟨rfl, HB0.out⟩
      by_cases h2 : op = 2
      · subst h2
        rw [adm_union]
        clear h0 h1
        obtain ⟨res, hres⟩ : ∃ res, anyN (fun i => adm (ch i) k x) n = res := ⟨_, rfl⟩
        rw [hres]
        have HRES := Lib.hid hres
        clear hres
        go_enter Try.func43, Try.ntmps43
        go_wp2_with fail
        generalize w.alloc (.cells #[.int .i64 2, .int .i64 lo, .int .i64 hi0, .bool low, .bool high, .slice a n cap] 24) = W at *
        obtain ⟨g, hg⟩ : ∃ g, w.heap.size = g := ⟨_, rfl⟩
        have HG := Lib.hid hg
        rw [hg] at HX0 ⊢
        clear hg
        go_loopw [7] (fun iv wr => RelIn w n g #[.int .i64 2, .int .i64 lo, .int .i64 hi0, .bool low, .bool high, .slice a n cap] (fun j => !adm (ch j) k x) iv wr) (fun iv _ => n - (Lib.intOf iv).toNat)
        case atStart => exact ⟨0, Nat.zero_le _, rfl, fun j hj => absurd hj (Nat.not_lt_zero _), HX0.out, HB0.out⟩
        case round =>
          obtain ⟨i, hi, rfl, hall, hbx, hbel⟩ := hrel
          have HB := Lib.hid hbel
          have HX := Lib.hid hbx
          have HA := Lib.hid hall
          have c5 := hbx.cell 5 rfl
          have hgw := HG.out
          have hsz := hbel.size
          clear hbel hbx hall
          by_cases hlt : i < n
          · have q1 : decide ((i : Int) < (n : Int)) = true := decide_eq_true (by omega)
            have q1n : decide (i < n) = true := decide_eq_true hlt
            obtain ⟨gx, ox, op', lo', hi', low', high', a', n', cap', ch', hchi, hix, hgx, hrd⟩ := cRow_read HROW.out hlt (HCH.out i hlt)
            obtain ⟨k0, k1, k2, k3, k4, k5⟩ := hrd wr (HB.out.block gx (by have := HBB.out; omega))
            have HC := Lib.hid (HREC.out i hlt wr HB.out)
            obtain ⟨b, hb⟩ : ∃ b, adm (ch i) k x = b := ⟨_, rfl⟩
            have HBI := Lib.hid hb
            rw [hb] at HC
            rw [hchi] at HC
            simp only [CT.v, CT.cells] at HC
            clear hb hchi hrd
            have q3 : IntKind.i64.wrap ((i : Int) + 1) = ((i + 1 : Nat) : Int) := wrap_succ hlt hn
            cases b with
            | true =>
              obtain rfl : res = true := HRES.out.symm.trans (anyN_yes hlt HBI.out)
              go_wp2_with fail
              refine HC.out.mono ?_
              rintro e w1 ⟨rfl, hb⟩
              have HB1 := Lib.hid (HB.out.trans (hb.mono hsz))
              clear hb
              go_wp2_with fail
              go_ret
              exact ⟨rfl, by first | exact HB1.out | (rw [← HG.out]; exact HB1.out)⟩
            | false =>
              have HN := Lib.hid (relIn_next HA.out (show (!adm (ch i) k x) = true from by rw [HBI.out]; rfl))
              go_wp2_with fail
              refine HC.out.mono ?_
              rintro e w1 ⟨rfl, hb⟩
              have HX1 := Lib.hid (HX.out.below hb HX.out.lt)
              have HB1 := Lib.hid (HB.out.trans (hb.mono hsz))
              clear hb
              go_wp2_with fail
              go_roundw
              case rel => exact ⟨i + 1, hlt, rfl, HN.out, HX1.out, HB1.out⟩
              case measure => simp only [Lib.intOf]; omega
          · have q1 : decide ((i : Int) < (n : Int)) = false := decide_eq_false (by omega)
            have q1n : decide (i < n) = false := decide_eq_false hlt
            obtain rfl : i = n := by omega
            obtain rfl : res = false := HRES.out.symm.trans (anyN_no (fun j hj => by simpa using HA.out j hj))
            go_wp2_with fail
            go_ret
            exact ⟨rfl, by first | exact HB.out | (rw [← HG.out]; exact HB.out)⟩
      by_cases h3 : op = 3
      · subst h3
        rw [adm_meet]
        clear h0 h1 h2
        obtain ⟨res, hres⟩ : ∃ res, allN (fun i => adm (ch i) k x) n = res := ⟨_, rfl⟩
        rw [hres]
        have HRES := Lib.hid hres
        clear hres
        go_enter Try.func43, Try.ntmps43
        go_wp2_with fail
        generalize w.alloc (.cells #[.int .i64 3, .int .i64 lo, .int .i64 hi0, .bool low, .bool high, .slice a n cap] 24) = W at *
        obtain ⟨g, hg⟩ : ∃ g, w.heap.size = g := ⟨_, rfl⟩
        have HG := Lib.hid hg
        rw [hg] at HX0 ⊢
        clear hg
        go_loopw [8] (fun iv wr => RelIn w n g #[.int .i64 3, .int .i64 lo, .int .i64 hi0, .bool low, .bool high, .slice a n cap] (fun j => adm (ch j) k x) iv wr) (fun iv _ => n - (Lib.intOf iv).toNat)
        case atStart => exact ⟨0, Nat.zero_le _, rfl, fun j hj => absurd hj (Nat.not_lt_zero _), HX0.out, HB0.out⟩
        case round =>
          obtain ⟨i, hi, rfl, hall, hbx, hbel⟩ := hrel
          have HB := Lib.hid hbel
          have HX := Lib.hid hbx
          have HA := Lib.hid hall
          have c5 := hbx.cell 5 rfl
          have hgw := HG.out
          have hsz := hbel.size
          clear hbel hbx hall
          by_cases hlt : i < n
          · have q1 : decide ((i : Int) < (n : Int)) = true := decide_eq_true (by omega)
            have q1n : decide (i < n) = true := decide_eq_true hlt
            obtain ⟨gx, ox, op', lo', hi', low', high', a', n', cap', ch', hchi, hix, hgx, hrd⟩ := cRow_read HROW.out hlt (HCH.out i hlt)
            obtain ⟨k0, k1, k2, k3, k4, k5⟩ := hrd wr (HB.out.block gx (by have := HBB.out; omega))
            have HC := Lib.hid (HREC.out i hlt wr HB.out)
            obtain ⟨b, hb⟩ : ∃ b, adm (ch i) k x = b := ⟨_, rfl⟩
            have HBI := Lib.hid hb
            rw [hb] at HC
            rw [hchi] at HC
            simp only [CT.v, CT.cells] at HC
            clear hb hchi hrd
            have q3 : IntKind.i64.wrap ((i : Int) + 1) = ((i + 1 : Nat) : Int) := wrap_succ hlt hn
            cases b with
            | true =>
              have HN := Lib.hid (relIn_next HA.out (show adm (ch i) k x = true from HBI.out))
              go_wp2_with fail
              refine HC.out.mono ?_
              rintro e w1 ⟨rfl, hb⟩
              have HX1 := Lib.hid (HX.out.below hb HX.out.lt)
              have HB1 := Lib.hid (HB.out.trans (hb.mono hsz))
              clear hb
              go_wp2_with fail
              go_roundw
              case rel => exact ⟨i + 1, hlt, rfl, HN.out, HX1.out, HB1.out⟩
              case measure => simp only [Lib.intOf]; omega
            | false =>
              obtain rfl : res = false := HRES.out.symm.trans (allN_no hlt HBI.out)
              go_wp2_with fail
              refine HC.out.mono ?_
              rintro e w1 ⟨rfl, hb⟩
              have HB1 := Lib.hid (HB.out.trans (hb.mono hsz))
              clear hb
              go_wp2_with fail
              go_ret
              exact ⟨rfl, by first | exact HB1.out | (rw [← HG.out]; exact HB1.out)⟩
          · have q1 : decide ((i : Int) < (n : Int)) = false := decide_eq_false (by omega)
            have q1n : decide (i < n) = false := decide_eq_false hlt
            obtain rfl : i = n := by omega
            obtain rfl : res = true := HRES.out.symm.trans (allN_yes HA.out)
            go_wp2_with fail
            go_ret
            exact ⟨rfl, by first | exact HB.out | (rw [← HG.out]; exact HB.out)⟩
      by_cases h4 : op = 4
      · subst h4
        rw [adm_except]
        clear h0 h1 h2 h3
        obtain ⟨res, hres⟩ : ∃ res, allN (fun i => adm (ch i) k x == decide (i = 0)) n = res := ⟨_, rfl⟩
        rw [hres]
        have HRES := Lib.hid hres
        clear hres
        go_enter Try.func43, Try.ntmps43
        go_wp2_with fail
        generalize w.alloc (.cells #[.int .i64 4, .int .i64 lo, .int .i64 hi0, .bool low, .bool high, .slice a n cap] 24) = W at *
        obtain ⟨g, hg⟩ : ∃ g, w.heap.size = g := ⟨_, rfl⟩
        have HG := Lib.hid hg
        rw [hg] at HX0 ⊢
        clear hg
        go_loopw [9] (fun iv wr => RelIn w n g #[.int .i64 4, .int .i64 lo, .int .i64 hi0, .bool low, .bool high, .slice a n cap] (fun j => adm (ch j) k x == decide (j = 0)) iv wr) (fun iv _ => n - (Lib.intOf iv).toNat)
        case atStart => exact ⟨0, Nat.zero_le _, rfl, fun j hj => absurd hj (Nat.not_lt_zero _), HX0.out, HB0.out⟩
        case round =>
          obtain ⟨i, hi, rfl, hall, hbx, hbel⟩ := hrel
          have HB := Lib.hid hbel
          have HX := Lib.hid hbx
          have HA := Lib.hid hall
          have c5 := hbx.cell 5 rfl
          have hgw := HG.out
          have hsz := hbel.size
          clear hbel hbx hall
          by_cases hlt : i < n
          · have q1 : decide ((i : Int) < (n : Int)) = true := decide_eq_true (by omega)
            have q1n : decide (i < n) = true := decide_eq_true hlt
            obtain ⟨gx, ox, op', lo', hi', low', high', a', n', cap', ch', hchi, hix, hgx, hrd⟩ := cRow_read HROW.out hlt (HCH.out i hlt)
            obtain ⟨k0, k1, k2, k3, k4, k5⟩ := hrd wr (HB.out.block gx (by have := HBB.out; omega))
            have HC := Lib.hid (HREC.out i hlt wr HB.out)
            obtain ⟨b, hb⟩ : ∃ b, adm (ch i) k x = b := ⟨_, rfl⟩
            have HBI := Lib.hid hb
            rw [hb] at HC
            rw [hchi] at HC
            simp only [CT.v, CT.cells] at HC
            clear hb hchi hrd
            have q3 : IntKind.i64.wrap ((i : Int) + 1) = ((i + 1 : Nat) : Int) := wrap_succ hlt hn
            obtain ⟨bz, hbz⟩ : ∃ bz, decide (i = 0) = bz := ⟨_, rfl⟩
            have HZ := Lib.hid hbz
            have q4 : ((i : Int) == 0) = bz := by rw [← hbz]; by_cases h : i = 0 <;> simp [h]
            have q5 : (i == 0) = bz := by rw [← hbz]; by_cases h : i = 0 <;> simp [h]
            clear hbz
            cases b <;> cases bz
            · have HN := Lib.hid (relIn_next HA.out (show (adm (ch i) k x == decide (i = 0)) = true from by rw [HBI.out, HZ.out]; rfl))
              go_wp2_with fail
              refine HC.out.mono ?_
              rintro e w1 ⟨rfl, hb⟩
              have HX1 := Lib.hid (HX.out.below hb HX.out.lt)
              have HB1 := Lib.hid (HB.out.trans (hb.mono hsz))
              clear hb
              go_wp2_with fail
              go_roundw
              case rel => exact ⟨i + 1, hlt, rfl, HN.out, HX1.out, HB1.out⟩
              case measure => simp only [Lib.intOf]; omega
            · obtain rfl : res = false := HRES.out.symm.trans (allN_no hlt (show (adm (ch i) k x == decide (i = 0)) = false from by rw [HBI.out, HZ.out]; rfl))
              go_wp2_with fail
              refine HC.out.mono ?_
              rintro e w1 ⟨rfl, hb⟩
              have HB1 := Lib.hid (HB.out.trans (hb.mono hsz))
              clear hb
              go_wp2_with fail
              go_ret
              exact ⟨rfl, by first | exact HB1.out | (rw [← HG.out]; exact HB1.out)⟩
            · obtain rfl : res = false := HRES.out.symm.trans (allN_no hlt (show (adm (ch i) k x == decide (i = 0)) = false from by rw [HBI.out, HZ.out]; rfl))
              go_wp2_with fail
              refine HC.out.mono ?_
              rintro e w1 ⟨rfl, hb⟩
              have HB1 := Lib.hid (HB.out.trans (hb.mono hsz))
              clear hb
              go_wp2_with fail
              go_ret
              exact ⟨rfl, by first | exact HB1.out | (rw [← HG.out]; exact HB1.out)⟩
            · have HN := Lib.hid (relIn_next HA.out (show (adm (ch i) k x == decide (i = 0)) = true from by rw [HBI.out, HZ.out]; rfl))
              go_wp2_with fail
              refine HC.out.mono ?_
              rintro e w1 ⟨rfl, hb⟩
              have HX1 := Lib.hid (HX.out.below hb HX.out.lt)
              have HB1 := Lib.hid (HB.out.trans (hb.mono hsz))
              clear hb
              go_wp2_with fail
              go_roundw
              case rel => exact ⟨i + 1, hlt, rfl, HN.out, HX1.out, HB1.out⟩
              case measure => simp only [Lib.intOf]; omega
          · have q1 : decide ((i : Int) < (n : Int)) = false := decide_eq_false (by omega)
            have q1n : decide (i < n) = false := decide_eq_false hlt
            obtain rfl : i = n := by omega
            obtain rfl : res = true := HRES.out.symm.trans (allN_yes HA.out)
            go_wp2_with fail
            go_ret
            exact ⟨rfl, by first | exact HB.out | (rw [← HG.out]; exact HB.out)⟩
      · rw [adm_other op lo hi0 low high a n cap ch k x h0 h1 h2 h3 h4]
        have z0 : (op == 0) = false := beq_false_of_ne h0
        have z1 : (op == 1) = false := beq_false_of_ne h1
        have z2 : (op == 2) = false := beq_false_of_ne h2
        have z3 : (op == 3) = false := beq_false_of_ne h3
        have z4 : (op == 4) = false := beq_false_of_ne h4
        clear h0 h1 h2 h3 h4
        go_enter Try.func43, Try.ntmps43
        go_wp2_with fail
        go_ret
        exact ⟨rfl, HB0.out⟩
set_option maxHeartbeats 4000000 in
theorem rIn_ok (c : CT) (B : Nat) (x : Int) (w : World) (hc : CIn B w c) (hB : B ≤ w.heap.size) :
    Calls Try.prog 24 #[c.v, .int .i64 x] w fun e w' => e = .returned (.bool (adm c 40 x)) ∧ Below w.heap.size w w' := by
  obtain ⟨op, lo, hi, low, high, a, n, cap, ch, rfl⟩ := hc.open
  have HB0 := Lib.hid ((Below.refl w.heap.size w).alloc (Nat.le_refl _) (.cells #[.int .i64 op, .int .i64 lo, .int .i64 hi, .bool low, .bool high, .slice a n cap] 24))
  have HC := Lib.hid (rin_ok B (CT.mk op lo hi low high a n cap ch) x 1 _ (hc.below (HB0.out.mono hB) (Nat.le_refl _)) (Nat.le_trans hB HB0.out.size) (by omega) (by omega))
  obtain ⟨b, hb⟩ : ∃ b, adm (CT.mk op lo hi low high a n cap ch) 40 x = b := ⟨_, rfl⟩
  rw [show 41 - 1 = 40 from rfl, hb] at HC
  rw [hb]
  simp only [CT.v, CT.cells] at HC ⊢
  clear hc hB hb
  go_enter Try.func24, Try.ntmps24
  go_wp2_with fail
  refine HC.out.mono ?_
  rintro e w1 ⟨rfl, hb1⟩
  have HB1 := Lib.hid (HB0.out.trans (hb1.mono HB0.out.size))
  clear hb1
  go_wp2_with fail
  go_ret
  exact ⟨rfl, HB1.out⟩
end Go.Proofs.Ytfnpjdglfaaegaa
