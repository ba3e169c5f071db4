/-
  Package spans: Has; the comparison that sorts, and the sort.
-/
import Derived.Test.YtfnpjdglfaaegaaSpS
import Derived.Test.YtfnpjdglfaaegaaShelf
namespace Go.Proofs.Ytfnpjdglfaaegaa
open Go.RowKit Go.Shelf
set_option linter.unusedVariables false
set_option linter.unusedSimpArgs false
set_option maxRecDepth 100000

/-- a range's two cells -/
def encR (x : Rg) : List Value := [.int .i64 x.1, .int .i64 x.2]
def inB (n : Int) (x : Rg) : Bool := decide (x.1 ≤ n) && decide (n ≤ x.2)
theorem hasPred (n : Int) (B : Nat) (w : World) (hB : B < w.heap.size) (hcell : w.cell? ⟨B, 0, none⟩ = some (.int .i64 n)) :
    PredBelow Try.prog 42 #[.pointer (some ⟨B, 0, none⟩)] (fun x => .agg (encR x).toArray) (inB n) w := fun W x hb => by
  obtain ⟨x1, x2⟩ := x
  have hc : W.cell? ⟨B, 0, none⟩ = some (.int .i64 n) := (hb.cell (p := ⟨B, 0, none⟩) hB).trans hcell
  have hBW : B < W.heap.size := Nat.lt_of_lt_of_le hB hb.size
  have c0 : (W.alloc (.cells #[.int .i64 x1, .int .i64 x2] 51)).cell? ⟨B, 0, none⟩ = some (.int .i64 n) := Lib.cell?_alloc_some _ hc
  have c1 : (W.alloc (.cells #[.int .i64 x1, .int .i64 x2] 51)).cell? ⟨W.heap.size, 0, none⟩ = some (.int .i64 x1) := by simp
  have c2 : (W.alloc (.cells #[.int .i64 x1, .int .i64 x2] 51)).cell? ⟨W.heap.size, 1, none⟩ = some (.int .i64 x2) := by simp
  have HB := Lib.hid (hb.alloc hb.size (.cells #[.int .i64 x1, .int .i64 x2] 51))
  obtain ⟨W2, hW2⟩ : ∃ W2, W.alloc (.cells #[.int .i64 x1, .int .i64 x2] 51) = W2 := ⟨_, rfl⟩
  rw [hW2] at c0 c1 c2 HB
  have HW := Lib.hid hW2
  show Calls Try.prog 42 #[.agg #[.int .i64 x1, .int .i64 x2], .pointer (some ⟨B, 0, none⟩)] W fun e w' => e = .returned (.bool (decide (x1 ≤ n) && decide (n ≤ x2))) ∧ Below w.heap.size w w'
  clear hc hb hcell hW2
  by_cases h1 : x1 ≤ n
  · have q1 : decide (x1 ≤ n) = true := decide_eq_true h1
    by_cases h2 : n ≤ x2
    · have q2 : decide (n ≤ x2) = true := decide_eq_true h2
      rw [q1, q2]
      go_enter Try.func42, Try.ntmps42
      go_upto_region 1 with fail
      change Code.wp _ _ _ _ (W.alloc _)
      rw [HW.out]
      go_wp2_with fail
      go_ret
      exact ⟨rfl, HB.out⟩
    · have q2 : decide (n ≤ x2) = false := decide_eq_false h2
      rw [q1, q2]
      go_enter Try.func42, Try.ntmps42
      go_upto_region 1 with fail
      change Code.wp _ _ _ _ (W.alloc _)
      rw [HW.out]
      go_wp2_with fail
      go_ret
      exact ⟨rfl, HB.out⟩
  · have q1 : decide (x1 ≤ n) = false := decide_eq_false h1
    rw [q1, Bool.false_and]
    go_enter Try.func42, Try.ntmps42
    go_upto_region 1 with fail
    change Code.wp _ _ _ _ (W.alloc _)
    rw [HW.out]
    go_wp2_with fail
    go_ret
    exact ⟨rfl, HB.out⟩
theorem hasB_inB (l : List Rg) (n : Int) : l.any (inB n) = hasB l n := rfl
theorem RSl.cells {w : World} {g o : Nat} {l : List Rg} (hd : ∀ i, i < l.length → w.cell? ⟨g, o + i * 2, none⟩ = some (.int .i64 l[i]!.1) ∧ w.cell? ⟨g, o + i * 2 + 1, none⟩ = some (.int .i64 l[i]!.2)) :
    ∀ j, j < l.length → ∀ i v, (encR l[j]!)[i]? = some v → w.cell? ⟨g, o + j * 2 + i, none⟩ = some v := by
  intro j hj i v hi
  obtain ⟨h1, h2⟩ := hd j hj
  match i, hi with
  | 0, hi => obtain rfl : Value.int .i64 l[j]!.1 = v := Option.some.inj hi; exact h1
  | 1, hi => obtain rfl : Value.int .i64 l[j]!.2 = v := Option.some.inj hi; exact h2
  | i + 2, hi => simp [encR] at hi
set_option maxHeartbeats 2000000 in
theorem has_lib (w : World) (v : Value) (l : List Rg) (n : Int) (B : Nat) (h : RSl w v l) (hl : l.length ≤ 9223372036854775807) (hB : B < w.heap.size) (hcell : w.cell? ⟨B, 0, none⟩ = some (.int .i64 n)) :
    Calls Try.prog 41 #[v, .func (.func 42) #[] #[.pointer (some ⟨B, 0, none⟩)]] w fun e w' => e = .returned (.bool (hasB l n)) ∧ Below w.heap.size w w' := by
  have eg : ∀ args w, (callFunc 42 args).run Try.prog w = .ok (.enter 42 args) w := enters_of Try.func42 (by kernel_rfl) rfl
  rcases Nat.eq_zero_or_pos l.length with h0 | h0
  · obtain ⟨a, cap, rfl⟩ := h.shape
    obtain rfl : l = [] := List.length_eq_zero_iff.1 h0
    have e1 : hasB ([] : List Rg) n = false := rfl
    rw [e1]
    have c2 : ∀ W, W = w → Calls Try.prog 56 #[.slice a 0 cap, .func (.func 42) #[] #[.pointer (some ⟨B, 0, none⟩)]] W fun e w' => e = .returned (.int .i64 (-1)) ∧ w' = W := by
      rintro W rfl
      clear h hcell eg
      go_enter Try.func56, Try.ntmps56
      go_wp2_with fail
      go_loopw [8] (fun i wr => i = .int .i64 0 ∧ wr = W) (fun _ _ => 0)
      case atStart => exact ⟨rfl, rfl⟩
      case round =>
        obtain ⟨rfl, rfl⟩ := hrel
        go_wp2_with fail
        go_ret
        exact ⟨rfl, rfl⟩
    have HC := Lib.hid (c2 w rfl)
    clear h hcell eg c2
    show Calls _ _ #[.slice a 0 cap, _] w _
    go_enter Try.func41, Try.ntmps41
    go_wp2_with fail
    refine HC.out.mono ?_
    rintro e w' ⟨rfl, rfl⟩
    go_wp2_with fail
    go_ret
    exact ⟨rfl, Below.refl _ _⟩
  · obtain ⟨g, o, cap, rfl, hc, hg, hd⟩ := h.at h0
    have hcon := AnyQ.slices_ContainsFunc Try.hasRg 2 Try.isAgg51 Try.sizeOf51 encR (fun _ => rfl) (inB n) 42 #[.pointer (some ⟨B, 0, none⟩)] eg g o l.length cap l w (hasPred n B w hB hcell) (Nat.le_refl _) hl hg (RSl.cells hd)
    rw [List.take_length, hasB_inB] at hcon
    exact hcon
set_option maxHeartbeats 1000000 in
theorem Has_ok (w : World) (v : Value) (l : List Rg) (n : Int) (h : RSl w v l) (hl : l.length ≤ 9223372036854775807) :
    Calls Try.prog 23 #[v, .int .i64 n] w fun e w' => e = .returned (.bool (hasB l n)) ∧ Below w.heap.size w w' := by
  have hb := (Below.refl w.heap.size w).alloc (Nat.le_refl _) (.cells #[.int .i64 n] 3)
  have HC := Lib.hid (has_lib (w.alloc (.cells #[.int .i64 n] 3)) v l n w.heap.size (h.below hb) hl (by simp) (by simp))
  have HB := Lib.hid hb
  generalize hasB l n = b at *
  clear h hl hb
  go_enter Try.func23, Try.ntmps23
  go_wp2_with fail
  refine HC.out.mono ?_
  rintro e w' ⟨rfl, hb'⟩
  have HB2 := Lib.hid (HB.out.trans (hb'.mono HB.out.size))
  clear hb'
  go_wp2_with fail
  go_ret
  exact ⟨rfl, HB2.out⟩

/-! ### the sort -/
theorem compareLo (x y : Int × Int) : ltOf (fun x y : Int × Int => Lib.compareInt x.1 y.1) x y = decide (x.1 < y.1) := by
  unfold ltOf Lib.compareInt
  by_cases h1 : x.1 < y.1
  · simp [h1]
  · by_cases h2 : y.1 < x.1 <;> simp [h1, h2]
theorem swoLo : Sort.SWO (ltOf fun x y : Int × Int => Lib.compareInt x.1 y.1) where
  irrefl x := by rw [compareLo]; simp
  trans x y z h1 h2 := by rw [compareLo] at *; simp at *; omega
  ntrans x y z h1 h2 := by rw [compareLo] at *; simp at *; omega
set_option maxHeartbeats 1000000 in
theorem cmp_ok (x1 x2 y1 y2 : Int) (w : World) : Calls Try.prog 59 #[.agg #[.int .i64 x1, .int .i64 x2], .agg #[.int .i64 y1, .int .i64 y2]] w fun e w' => e = .returned (.int .i64 (Lib.compareInt x1 y1)) ∧ ∃ q os', w' = Sort.grow (w.drewN q) os' := by
  obtain ⟨W, hW, c1, c2, c3, c4, hB⟩ := two_boxed x1 x2 y1 y2 w
  have hcon := AnyG.cmp_Compare_int Try.cmpInt x1 y1 W
  change Calls Try.prog 60 _ _ _ at hcon
  have HW := Lib.hid hW
  have HC := Lib.hid hcon
  have HG := Lib.hid (show ∃ q os', W = Sort.grow (w.drewN q) os' from ⟨0, _, by rw [← hW, Sort.alloc_eq_grow, Sort.alloc_eq_grow, Sort.grow_grow]; rfl⟩)
  clear hcon hW hB
  generalize Lib.compareInt x1 y1 = r at HC ⊢
  go_enter Try.func59, Try.ntmps59
  go_upto_region 1 with fail
  change Code.wp _ _ _ _ ((w.alloc _).alloc _)
  rw [HW.out]
  go_wp2_with fail
  refine HC.out.mono ?_
  rintro e w' ⟨rfl, rfl⟩
  go_wp2_with fail
  go_ret
  exact ⟨rfl, HG.out⟩
end Go.Proofs.Ytfnpjdglfaaegaa
