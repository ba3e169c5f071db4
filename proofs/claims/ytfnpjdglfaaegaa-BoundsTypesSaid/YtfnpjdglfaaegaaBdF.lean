/-
  The document's count 'FewCon'.
-/
import Derived.Test.YtfnpjdglfaaegaaBdI
namespace Go.Proofs.Ytfnpjdglfaaegaa
open Go.RowKit
set_option linter.unusedVariables false
set_option linter.unusedSimpArgs false
set_option maxRecDepth 100000

set_option maxHeartbeats 4000000 in
theorem FewCon_ok (c : CT) (B : Nat) (x : Int) (w : World) (hc : CIn B w c) (hB : B ≤ w.heap.size) (hx1 : -1152921504606846976 ≤ x) (hx2 : x ≤ 1152921504606846976) :
    Calls Try.prog 9 #[.agg c.cells.toArray, .int .i64 x] w fun e w' => e = .returned (.bool (decide (0 ≤ c.few x))) ∧ Below w.heap.size w w' := by
  obtain ⟨op, lo, hi, low, high, a, n, cap, ch, rfl⟩ := hc.open
  have HB0 := Lib.hid ((Below.refl w.heap.size w).alloc (Nat.le_refl _) (.cells #[.int .i64 op, .int .i64 lo, .int .i64 hi, .bool low, .bool high, .slice a n cap] 24))
  have HC := Lib.hid (fewCon_ok B (CT.mk op lo hi low high a n cap ch) x _ (hc.below (HB0.out.mono hB) (Nat.le_refl _)) (Nat.le_trans hB HB0.out.size) (by omega) (by omega))
  obtain ⟨z, hz⟩ : ∃ z, (CT.mk op lo hi low high a n cap ch).few x = z := ⟨_, rfl⟩
  rw [hz] at HC ⊢
  obtain ⟨b, hb⟩ : ∃ b, decide (0 ≤ z) = b := ⟨_, rfl⟩
  rw [hb]
  simp only [CT.v, CT.cells] at HC
  simp only [CT.cells]
  clear hc hB hz hx1 hx2
  go_enter Try.func9, Try.ntmps9
  go_wp2_with fail
  refine HC.out.mono ?_
  rintro e w1 ⟨rfl, hb1⟩
  have HB1 := Lib.hid (HB0.out.trans (hb1.mono HB0.out.size))
  clear hb1
  go_wp2_with fail
  go_ret
  exact ⟨rfl, HB1.out⟩
end Go.Proofs.Ytfnpjdglfaaegaa
