/-
  Slices of ranges as they lie in memory.
-/
import Derived.Test.YtfnpjdglfaaegaaSpR
import Derived.Test.YtfnpjdglfaaegaaShL
import Derived.Test.YtfnpjdglfaaegaaProg
import Derived.Lib.Hide
import Derived.StillTailTactics
import Derived.Lib.QuietBelow
import Derived.Deep.QuietTactic
import Derived.Deep.Cut
import Derived.Deep.DeepCutAuto
import Derived.BigQuiet
import Derived.Deep.RegionHeld3
import Derived.Lib.Walk
import Derived.Lib.SliceRun
import Derived.RowKit
namespace Go.Proofs.Ytfnpjdglfaaegaa
open Go.RowKit
set_option linter.unusedVariables false
set_option linter.unusedSimpArgs false
set_option maxRecDepth 100000

def RSl (w : World) (v : Value) (l : List Rg) : Prop :=
  Bd l ∧ ((∃ g o cap, v = .slice (some ⟨g, o, none⟩) l.length cap ∧ l.length ≤ cap ∧ ∀ i, i < l.length → w.cell? ⟨g, o + i * 2, none⟩ = some (.int .i64 l[i]!.1) ∧ w.cell? ⟨g, o + i * 2 + 1, none⟩ = some (.int .i64 l[i]!.2)) ∨ (l = [] ∧ ∃ a cap, v = .slice a 0 cap))
theorem RSl.bd {w : World} {v : Value} {l : List Rg} (h : RSl w v l) : Bd l := h.1
theorem RSl.below {w w' : World} {v : Value} {l : List Rg} (h : RSl w v l) (hb : Below w.heap.size w w') : RSl w' v l := by
  refine ⟨h.1, ?_⟩
  rcases h.2 with ⟨g, o, cap, e, hc, hd⟩ | h
  · refine .inl ⟨g, o, cap, e, hc, fun i hi => ?_⟩
    have hg := World.block_lt_of_cell? w _ (hd i hi).1
    rw [← (hd i hi).1, ← (hd i hi).2]
    exact ⟨World.cell?_of_block (w := w) (hb.block g hg), World.cell?_of_block (w := w) (hb.block g hg)⟩
  · exact .inr h
theorem RSl.shape {w : World} {v : Value} {l : List Rg} (h : RSl w v l) : ∃ a cap, v = .slice a l.length cap := by
  rcases h.2 with ⟨g, o, cap, e, _⟩ | ⟨rfl, a, cap, e⟩
  · exact ⟨_, _, e⟩
  · exact ⟨_, _, e⟩
/-- a slice with an element: where it lies -/
theorem RSl.at {w : World} {v : Value} {l : List Rg} (h : RSl w v l) (hl : 0 < l.length) : ∃ g o cap, v = .slice (some ⟨g, o, none⟩) l.length cap ∧ l.length ≤ cap ∧ g < w.heap.size ∧ ∀ i, i < l.length → w.cell? ⟨g, o + i * 2, none⟩ = some (.int .i64 l[i]!.1) ∧ w.cell? ⟨g, o + i * 2 + 1, none⟩ = some (.int .i64 l[i]!.2) := by
  rcases h.2 with ⟨g, o, cap, e, hc, hd⟩ | ⟨rfl, _⟩
  · exact ⟨g, o, cap, e, hc, World.block_lt_of_cell? w _ (hd 0 hl).1, hd⟩
  · simp at hl
theorem Bd.get {l : List Rg} (h : Bd l) {i : Nat} (hi : i < l.length) : I64 l[i]!.1 ∧ I64 l[i]!.2 := by
  rw [getElem!_pos l i hi]
  exact h _ (List.getElem_mem hi)
set_option maxHeartbeats 1000000 in
theorem isEmpty_ok (x y : Int) (w : World) : Calls Try.prog 39 #[.agg #[.int .i64 x, .int .i64 y]] w fun e w' => e = .returned (.bool (decide (y < x))) ∧ Below w.heap.size w w' := by
  have HB := Lib.hid ((Below.refl w.heap.size w).alloc (Nat.le_refl _) (.cells #[.int .i64 x, .int .i64 y] 51))
  by_cases h : y < x
  · have q : decide (y < x) = true := decide_eq_true h
    rw [q]
    go_enter Try.func39, Try.ntmps39
    go_wp2_with fail
    go_ret
    exact ⟨rfl, HB.out⟩
  · have q : decide (y < x) = false := decide_eq_false h
    rw [q]
    go_enter Try.func39, Try.ntmps39
    go_wp2_with fail
    go_ret
    exact ⟨rfl, HB.out⟩
/-- two ranges that are boxed -/
theorem two_boxed (x1 x2 y1 y2 : Int) (w : World) : ∃ W, (w.alloc (.cells #[.int .i64 x1, .int .i64 x2] 51)).alloc (.cells #[.int .i64 y1, .int .i64 y2] 51) = W ∧
    W.cell? ⟨w.heap.size, 0, none⟩ = some (.int .i64 x1) ∧ W.cell? ⟨w.heap.size, 1, none⟩ = some (.int .i64 x2) ∧ W.cell? ⟨w.heap.size + 1, 0, none⟩ = some (.int .i64 y1) ∧ W.cell? ⟨w.heap.size + 1, 1, none⟩ = some (.int .i64 y2) ∧ Below w.heap.size w W := by
  have e : w.heap.size + 1 = (w.alloc (.cells #[.int .i64 x1, .int .i64 x2] 51)).heap.size := by simp
  refine ⟨_, rfl, Lib.cell?_alloc_some _ (by simp), Lib.cell?_alloc_some _ (by simp), ?_, ?_, ((Below.refl w.heap.size w).alloc (Nat.le_refl _) _).alloc (by simp) _⟩
  · rw [e]; simp only [World.cell?_alloc_new]; simp
  · rw [e]; simp
set_option maxHeartbeats 1000000 in
theorem isApart_ok (x1 x2 y1 y2 : Int) (w : World) (hx : I64 x2) (hy : I64 y1) : Calls Try.prog 40 #[.agg #[.int .i64 x1, .int .i64 x2], .agg #[.int .i64 y1, .int .i64 y2]] w fun e w' => e = .returned (.bool (decide (x2 + 1 < y1))) ∧ Below w.heap.size w w' := by
  obtain ⟨W, hW, c1, c2, c3, c4, hB⟩ := two_boxed x1 x2 y1 y2 w
  have HW := Lib.hid hW
  have HB := Lib.hid hB
  clear hW hB
  by_cases h1 : x2 < y1
  · have q1 : decide (x2 < y1) = true := decide_eq_true h1
    have q2 : IntKind.i64.wrap (x2 + 1) = x2 + 1 := wrap_ok (by unfold I64 at *; omega)
    by_cases h2 : x2 + 1 < y1
    · have q3 : decide (x2 + 1 < y1) = true := decide_eq_true h2
      rw [q3]
      go_enter Try.func40, Try.ntmps40
      go_upto_region 1 with fail
      change Code.wp _ _ _ _ ((w.alloc _).alloc _)
      rw [HW.out]
      go_wp2_with fail
      go_ret
      exact ⟨rfl, HB.out⟩
    have q3 : decide (x2 + 1 < y1) = false := decide_eq_false h2
    rw [q3]
    go_enter Try.func40, Try.ntmps40
    go_upto_region 1 with fail
    change Code.wp _ _ _ _ ((w.alloc _).alloc _)
    rw [HW.out]
    go_wp2_with fail
    go_ret
    exact ⟨rfl, HB.out⟩
  · have q1 : decide (x2 < y1) = false := decide_eq_false h1
    rw [show decide (x2 + 1 < y1) = false from decide_eq_false (by omega)]
    go_enter Try.func40, Try.ntmps40
    go_upto_region 1 with fail
    change Code.wp _ _ _ _ ((w.alloc _).alloc _)
    rw [HW.out]
    go_wp2_with fail
    go_ret
    exact ⟨rfl, HB.out⟩
end Go.Proofs.Ytfnpjdglfaaegaa
