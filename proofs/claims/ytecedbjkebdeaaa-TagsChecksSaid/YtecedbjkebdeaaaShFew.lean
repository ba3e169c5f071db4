/-
  The document's counts: 'fewCon'.
-/
import Derived.Test.YtecedbjkebdeaaaShL
namespace Go.Proofs.Ytecedbjkebdeaaa
open Go.RowKit
set_option linter.unusedVariables false
set_option linter.unusedSimpArgs false
set_option maxRecDepth 100000

/-- what is left after k rounds -/
def fewN (g : Nat → Int → Int) : Nat → Int → Int
  | 0, x => x
  | k + 1, x => if 0 ≤ fewN g k x then g k (fewN g k x) else fewN g k x
def CT.few : CT → Int → Int
  | .nil, x => x
  | .mk _ _ _ _ _ _ n _ ch, x => fewN (fun i y => (ch i).few y) n (x - 1)
theorem fewN_bounds {g : Nat → Int → Int} {n : Nat} (hg : ∀ i, i < n → ∀ y, 0 ≤ y → -1 ≤ g i y ∧ g i y ≤ y) : ∀ k, k ≤ n → ∀ x, min x (-1) ≤ fewN g k x ∧ fewN g k x ≤ x
  | 0, _, x => by simp only [fewN]; omega
  | k + 1, hk, x => by
    have h := fewN_bounds hg k (by omega) x
    simp only [fewN]
    split
    · have := hg k (by omega) _ (by assumption)
      omega
    · exact h
theorem fewN_stop {g : Nat → Int → Int} {k : Nat} {x : Int} (h : fewN g k x < 0) : ∀ n, k ≤ n → fewN g n x = fewN g k x
  | 0, hn => by obtain rfl : k = 0 := by omega
                rfl
  | n + 1, hn => by
    rcases Nat.lt_or_ge k (n + 1) with h1 | h1
    · have := fewN_stop h n (by omega)
      simp only [fewN]
      rw [if_neg (by omega), this]
    · obtain rfl : k = n + 1 := by omega
      rfl
theorem CT.few_bounds : ∀ (c : CT) (x : Int), min (x - 1) (-1) ≤ c.few x ∧ c.few x ≤ x
  | .nil, x => by simp only [CT.few]; omega
  | .mk _ _ _ _ _ _ n _ ch, x => by
    have := fewN_bounds (g := fun i y => (ch i).few y) (n := n) (fun i _ y hy => by have h2 := CT.few_bounds (ch i) y; show -1 ≤ (ch i).few y ∧ (ch i).few y ≤ y; omega) n (Nat.le_refl _) (x - 1)
    simp only [CT.few]
    omega
def RelFC (w : World) (B : Nat) (n : Nat) (ch : Nat → CT) (x : Int) (g : Nat) (cs : Array Value) (xv iv : Value) (wr : World) : Prop :=
  ∃ (i : Nat), i ≤ n ∧ iv = .int .i64 (i : Nat) ∧ xv = .int .i64 (fewN (fun i y => (ch i).few y) i x) ∧ Bx wr g cs 30 ∧ Below w.heap.size w wr
set_option maxHeartbeats 4000000 in
theorem fewCon_ok (B : Nat) : ∀ (c : CT) (x : Int) (w : World), CIn B w c → B ≤ w.heap.size → -4611686018427387904 ≤ x → x ≤ 4611686018427387904 →
    Calls Try.prog 33 #[c.v, .int .i64 x] w fun e w' => e = .returned (.int .i64 (c.few x)) ∧ Below w.heap.size w w'
  | .nil, x, w, h, _, _, _ => h.elim
  | .mk op lo hi0 low high a n cap ch, x, w, hin, hB, hx1, hx2 => by
    obtain ⟨hI, hrow, hch⟩ := hin
    have HROW := Lib.hid hrow
    have HCH := Lib.hid hch
    have hn : n ≤ 9223372036854775807 := by have := hrow.1; have := hrow.2.1; omega
    have HI := Lib.hid hI
    have HBB := Lib.hid hB
    have hx3 : IntKind.i64.wrap (x - 1) = x - 1 := wrap_ok (by unfold I64; omega)
    obtain ⟨y, hy⟩ : ∃ y, x - 1 = y := ⟨_, rfl⟩
    have HY := Lib.hid hy
    have HBD := Lib.hid (fewN_bounds (g := fun i y => (ch i).few y) (n := n) (fun i _ y hy => by have h2 := CT.few_bounds (ch i) y; show -1 ≤ (ch i).few y ∧ (ch i).few y ≤ y; omega))
    clear hrow hch hI hB
    show Calls _ _ #[.agg #[.int .i64 op, .int .i64 lo, .int .i64 hi0, .bool low, .bool high, .slice a n cap], .int .i64 x] w _
    have hb0 : Below w.heap.size w (w.alloc (.cells #[.int .i64 op, .int .i64 lo, .int .i64 hi0, .bool low, .bool high, .slice a n cap] 30)) := (Below.refl _ _).alloc (Nat.le_refl _) _
    have hbx := Bx.new w #[.int .i64 op, .int .i64 lo, .int .i64 hi0, .bool low, .bool high, .slice a n cap] 30
    have HB0 := Lib.hid hb0
    have HX0 := Lib.hid hbx
    clear hb0 hbx
    go_enter Try.func33, Try.ntmps33
    go_wp2_with fail
    generalize w.alloc (.cells #[.int .i64 op, .int .i64 lo, .int .i64 hi0, .bool low, .bool high, .slice a n cap] 30) = W at *
    obtain ⟨g, hg⟩ : ∃ g, w.heap.size = g := ⟨_, rfl⟩
    have HG := Lib.hid hg
    rw [hg] at HX0 ⊢
    clear hg
    go_loopw [1, 5] (fun xv iv wr => RelFC w B n ch y g #[.int .i64 op, .int .i64 lo, .int .i64 hi0, .bool low, .bool high, .slice a n cap] xv iv wr) (fun _ iv _ => n - (Lib.intOf iv).toNat)
    case atStart => exact ⟨0, Nat.zero_le _, rfl, rfl, HX0.out, HB0.out⟩
    case round =>
      obtain ⟨i, hi, rfl, rfl, hbx, hbel⟩ := hrel
      have HB := Lib.hid hbel
      have HX := Lib.hid hbx
      have c5 := hbx.cell 5 rfl
      obtain ⟨z, hz⟩ : ∃ z, fewN (fun i y => (ch i).few y) i y = z := ⟨_, rfl⟩
      rw [hz]
      have HZ := Lib.hid hz
      have hzb := HBD.out i hi y
      rw [hz] at hzb
      have hgw := HG.out
      have hsz := hbel.size
      clear hbel hbx hz
      by_cases hlt : i < n
      · have q1 : decide ((i : Int) < (n : Int)) = true := decide_eq_true (by omega)
        have q1n : decide (i < n) = true := decide_eq_true hlt
        by_cases h0 : 0 ≤ z
        · have q2 : decide ((0 : Int) ≤ z) = true := decide_eq_true h0
          obtain ⟨gx, ox, op', lo', hi', low', high', a', n', cap', ch', hchi, hix, hgx, hrd⟩ := cRow_read HROW.out hlt (HCH.out i hlt)
          obtain ⟨k0, k1, k2, k3, k4, k5⟩ := hrd wr (HB.out.block gx (by have := HBB.out; omega))
          have HC := Lib.hid (fewCon_ok B (ch i) z wr ((HCH.out i hlt).below (HB.out.mono HBB.out) (Nat.le_refl _)) (by have := HBB.out; omega) (by omega) (by omega))
          obtain ⟨zn, hzn⟩ : ∃ zn, (ch i).few z = zn := ⟨_, rfl⟩
          rw [hzn] at HC
          rw [hchi] at HC
          simp only [CT.v, CT.cells] at HC
          have HN := Lib.hid (show fewN (fun i y => (ch i).few y) (i + 1) y = zn by simp only [fewN]; rw [HZ.out, if_pos h0, hzn])
          clear hzn hchi hrd
          have q3 : IntKind.i64.wrap ((i : Int) + 1) = ((i + 1 : Nat) : Int) := wrap_succ hlt hn
          go_wp2_with fail
          refine HC.out.mono ?_
          rintro e w1 ⟨rfl, hb⟩
          have HX1 := Lib.hid (HX.out.below hb HX.out.lt)
          have HB1 := Lib.hid (HB.out.trans (hb.mono hsz))
          clear hb
          go_wp2_with fail
          go_roundw
          case rel => exact ⟨i + 1, hlt, rfl, by rw [HN.out], HX1.out, HB1.out⟩
          case measure => simp only [Lib.intOf]; omega
        · have q2 : decide ((0 : Int) ≤ z) = false := decide_eq_false h0
          have HN := Lib.hid ((fewN_stop (g := fun i y => (ch i).few y) (k := i) (x := y) (by rw [HZ.out]; omega) n hi).trans HZ.out)
          go_wp2_with fail
          go_ret
          refine ⟨?_, by first | exact HB.out | (rw [← HG.out]; exact HB.out)⟩
          rw [show (CT.mk op lo hi0 low high a n cap ch).few x = z from (by show fewN _ n (x - 1) = z; rw [HY.out]; exact HN.out)]
          rfl
      · have q1 : decide ((i : Int) < (n : Int)) = false := decide_eq_false (by omega)
        have q1n : decide (i < n) = false := decide_eq_false hlt
        obtain rfl : i = n := by omega
        go_wp2_with fail
        go_ret
        refine ⟨?_, by first | exact HB.out | (rw [← HG.out]; exact HB.out)⟩
        rw [show (CT.mk op lo hi0 low high a i cap ch).few x = z from (by show fewN _ i (x - 1) = z; rw [HY.out]; exact HZ.out)]
        rfl
end Go.Proofs.Ytecedbjkebdeaaa
