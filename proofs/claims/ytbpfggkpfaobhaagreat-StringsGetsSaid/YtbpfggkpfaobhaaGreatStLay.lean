/-
  Package strings: what hangs on a string's type (valid, narrow, fixed, admits, aligns).
-/
import Derived.Test.YtbpfggkpfaobhaaGreatStM
import Derived.Test.YtbpfggkpfaobhaaGreatOpMem
namespace Go.Proofs.YtbpfggkpfaobhaaGreat
open Go.RowKit
set_option linter.unusedVariables false
set_option linter.unusedSimpArgs false
set_option maxRecDepth 100000

/-- block g is a layout -/
def LayAt (w : World) (g : Nat) (al : Bool) (lo hi k : Int) (tx : Bool) : Prop := w.heap[g]? = some (.cells #[.bool al, .int .i64 lo, .int .i64 hi, .int .i64 k, .bool tx] 64 (0, 0))
theorem LayAt.cells {w : World} {g : Nat} {al : Bool} {lo hi k : Int} {tx : Bool} (h : LayAt w g al lo hi k tx) :
    w.cell? ⟨g, 0, none⟩ = some (.bool al) ∧ w.cell? ⟨g, 1, none⟩ = some (.int .i64 lo) ∧ w.cell? ⟨g, 2, none⟩ = some (.int .i64 hi) ∧ w.cell? ⟨g, 3, none⟩ = some (.int .i64 k) ∧ w.cell? ⟨g, 4, none⟩ = some (.bool tx) :=
  ⟨cell_of_row w g 0 _ _ _ h, cell_of_row w g 1 _ _ _ h, cell_of_row w g 2 _ _ _ h, cell_of_row w g 3 _ _ _ h, cell_of_row w g 4 _ _ _ h⟩
theorem LayAt.lt {w : World} {g : Nat} {al : Bool} {lo hi k : Int} {tx : Bool} (h : LayAt w g al lo hi k tx) : g < w.heap.size := (Array.getElem?_eq_some_iff.1 h).1
theorem LayAt.below {w w' : World} {g : Nat} {al : Bool} {lo hi k : Int} {tx : Bool} (h : LayAt w g al lo hi k tx) (ho : Below w.heap.size w w') : LayAt w' g al lo hi k tx := (ho.block g h.lt).trans h
theorem LayAt.only {w w' : World} {g b : Nat} {al : Bool} {lo hi k : Int} {tx : Bool} (h : LayAt w g al lo hi k tx) (ho : Only b w w') (hb : g ≠ b) : LayAt w' g al lo hi k tx := (ho.block g h.lt hb).trans h
theorem LayAt.new (w : World) (al : Bool) (lo hi k : Int) (tx : Bool) : LayAt (w.alloc (.cells #[.bool al, .int .i64 lo, .int .i64 hi, .int .i64 k, .bool tx] 64)) w.heap.size al lo hi k tx := heap_alloc_new _ _
theorem svalid_ok (al : Bool) (lo hi k : Int) (tx : Bool) (w : World) (b : Bool) (hb : b = decide (¬ lBad lo hi)) :
    Calls Tryz.prog 29 #[.agg #[.bool al, .int .i64 lo, .int .i64 hi, .int .i64 k, .bool tx]] w fun e w' => e = .returned (.bool b) ∧ Below w.heap.size w w' := by
  unfold lBad at hb
  by_cases h1 : lo < 0
  · have q1 : decide ((0 : Int) ≤ lo) = false := decide_eq_false (by omega)
    have : b = false := by rw [hb]; exact decide_eq_false (by omega)
    subst this
    clear hb h1
    go_enter Tryz.func29, Tryz.ntmps29
    go_wp2_with fail
    go_ret
    exact ⟨rfl, (Below.refl _ _).alloc (Nat.le_refl _) _⟩
  have q1 : decide ((0 : Int) ≤ lo) = true := decide_eq_true (by omega)
  by_cases h2 : hi < 0
  · have q2 : decide (hi < (0 : Int)) = true := decide_eq_true (by omega)
    have : b = true := by rw [hb]; exact decide_eq_true (by omega)
    subst this
    clear hb h1 h2
    go_enter Tryz.func29, Tryz.ntmps29
    go_wp2_with fail
    go_ret
    exact ⟨rfl, (Below.refl _ _).alloc (Nat.le_refl _) _⟩
  have q2 : decide (hi < (0 : Int)) = false := decide_eq_false (by omega)
  have q3 : decide (lo ≤ hi) = b := by
    rw [hb, decide_eq_decide]
    omega
  clear hb h1 h2
  go_enter Tryz.func29, Tryz.ntmps29
  go_wp2_with fail
  go_ret
  exact ⟨rfl, (Below.refl _ _).alloc (Nat.le_refl _) _⟩
theorem snarrow_ok (al : Bool) (lo hi k : Int) (tx : Bool) (w : World) (b : Bool) (hb : b = lNar hi) :
    Calls Tryz.prog 67 #[.agg #[.bool al, .int .i64 lo, .int .i64 hi, .int .i64 k, .bool tx]] w fun e w' => e = .returned (.bool b) ∧ Below w.heap.size w w' := by
  unfold lNar at hb
  by_cases h1 : hi < 0
  · have q1 : decide ((0 : Int) ≤ hi) = false := decide_eq_false (by omega)
    have : b = false := by rw [hb]; exact decide_eq_false (by omega)
    subst this
    clear hb h1
    go_enter Tryz.func67, Tryz.ntmps67
    go_wp2_with fail
    go_ret
    exact ⟨rfl, (Below.refl _ _).alloc (Nat.le_refl _) _⟩
  have q1 : decide ((0 : Int) ≤ hi) = true := decide_eq_true (by omega)
  have q3 : decide (hi ≤ (65535 : Int)) = b := by
    rw [hb, decide_eq_decide]
    omega
  clear hb h1
  go_enter Tryz.func67, Tryz.ntmps67
  go_wp2_with fail
  go_ret
  exact ⟨rfl, (Below.refl _ _).alloc (Nat.le_refl _) _⟩
theorem sfixed_ok (al : Bool) (lo hi k : Int) (tx : Bool) (w : World) (h : ¬ lBad lo hi) (b : Bool) (hb : b = fixd lo hi) :
    Calls Tryz.prog 50 #[.agg #[.bool al, .int .i64 lo, .int .i64 hi, .int .i64 k, .bool tx]] w fun e w' => e = .returned (.bool b) ∧ Below w.heap.size w w' := by
  unfold lBad at h
  unfold fixd at hb
  have h0 := (Below.refl w.heap.size w).alloc (Nat.le_refl _) (.cells #[.bool al, .int .i64 lo, .int .i64 hi, .int .i64 k, .bool tx] 64)
  by_cases h1 : 0 ≤ hi ∧ hi ≤ 65535
  · have HN := Lib.hid (snarrow_ok al lo hi k tx (w.alloc (.cells #[.bool al, .int .i64 lo, .int .i64 hi, .int .i64 k, .bool tx] 64)) true (lNar_yes h1).symm)
    have q1 : decide (hi = lo) = b := by rw [hb, decide_eq_decide]; omega
    have q2 : (hi == lo) = b := by rw [← q1]; by_cases e : hi = lo <;> simp [e]
    have HC := Lib.hid (LayAt.new w al lo hi k tx)
    clear hb h h1
    go_enter Tryz.func50, Tryz.ntmps50
    go_wp2_with fail
    refine HN.out.mono ?_
    rintro e w1 ⟨rfl, hb1⟩
    obtain ⟨c0, c1, c2, c3, c4⟩ := (HC.out.below (hb1.mono (by simp))).cells
    have H1 := Lib.hid (h0.trans (hb1.mono (by simp)))
    clear hb1 h0 HC
    go_wp2_with fail
    go_ret
    exact ⟨rfl, H1.out⟩
  · have HN := Lib.hid (snarrow_ok al lo hi k tx (w.alloc (.cells #[.bool al, .int .i64 lo, .int .i64 hi, .int .i64 k, .bool tx] 64)) false (lNar_no h1).symm)
    have : b = false := by rw [hb]; exact decide_eq_false (by omega)
    subst this
    clear hb h h1
    go_enter Tryz.func50, Tryz.ntmps50
    go_wp2_with fail
    refine HN.out.mono ?_
    rintro e w1 ⟨rfl, hb1⟩
    have H1 := Lib.hid (h0.trans (hb1.mono (by simp)))
    clear hb1 h0
    go_wp2_with fail
    go_ret
    exact ⟨rfl, H1.out⟩
theorem sadmits_ok (al : Bool) (lo hi k : Int) (tx : Bool) (n : Int) (w : World) (b : Bool) (hb : b = decide (¬ (n < lo ∨ (0 ≤ hi ∧ hi < n)))) :
    Calls Tryz.prog 53 #[.agg #[.bool al, .int .i64 lo, .int .i64 hi, .int .i64 k, .bool tx], .int .i64 n] w fun e w' => e = .returned (.bool b) ∧ Below w.heap.size w w' := by
  by_cases h1 : n < lo
  · have q1 : decide (lo ≤ n) = false := decide_eq_false (by omega)
    have : b = false := by rw [hb]; exact decide_eq_false (by omega)
    subst this
    clear hb h1
    go_enter Tryz.func53, Tryz.ntmps53
    go_wp2_with fail
    go_ret
    exact ⟨rfl, (Below.refl _ _).alloc (Nat.le_refl _) _⟩
  have q1 : decide (lo ≤ n) = true := decide_eq_true (by omega)
  by_cases h2 : hi < 0
  · have q2 : decide (hi < (0 : Int)) = true := decide_eq_true (by omega)
    have : b = true := by rw [hb]; exact decide_eq_true (by omega)
    subst this
    clear hb h1 h2
    go_enter Tryz.func53, Tryz.ntmps53
    go_wp2_with fail
    go_ret
    exact ⟨rfl, (Below.refl _ _).alloc (Nat.le_refl _) _⟩
  have q2 : decide (hi < (0 : Int)) = false := decide_eq_false (by omega)
  have q3 : decide (n ≤ hi) = b := by
    rw [hb, decide_eq_decide]
    omega
  clear hb h1 h2
  go_enter Tryz.func53, Tryz.ntmps53
  go_wp2_with fail
  go_ret
  exact ⟨rfl, (Below.refl _ _).alloc (Nat.le_refl _) _⟩
theorem mul_small {a k : Int} (h0 : 0 ≤ a) (h : a ≤ 1048576) (hk : 0 ≤ k) (hk8 : k ≤ 8) : 0 ≤ a * k ∧ a * k ≤ 8388608 := ⟨Int.mul_nonneg h0 hk, by
  have := Int.mul_le_mul h hk8 hk (by omega)
  omega⟩
theorem saligns_ok (al : Bool) (lo hi : Int) (k : Nat) (tx : Bool) (n : Nat) (w : World) (h : ¬ lBad lo hi) (hk : k ≤ 8) (hn : n ≤ 1048576) :
    Calls Tryz.prog 68 #[.agg #[.bool al, .int .i64 lo, .int .i64 hi, .int .i64 (k : Nat), .bool tx], .int .i64 (n : Nat)] w fun e w' => e = .returned (.bool (algn al tx k n lo hi)) ∧ Below w.heap.size w w' := by
  have h0 := (Below.refl w.heap.size w).alloc (Nat.le_refl _) (.cells #[.bool al, .int .i64 lo, .int .i64 hi, .int .i64 (k : Nat), .bool tx] 64)
  have HC := Lib.hid (LayAt.new w al lo hi k tx)
  cases al with
  | false =>
    have e1 : algn false tx k n lo hi = false := by unfold algn; split <;> simp
    rw [e1]
    clear h hn
    go_enter Tryz.func68, Tryz.ntmps68
    go_wp2_with fail
    go_ret
    exact ⟨rfl, h0⟩
  | true =>
    by_cases hn0 : n = 0
    · subst hn0
      have e1 : algn true tx k 0 lo hi = false := by unfold algn; split <;> simp
      rw [e1]
      clear h hn
      go_enter Tryz.func68, Tryz.ntmps68
      go_wp2_with fail
      go_ret
      exact ⟨rfl, h0⟩
    have q0 : ((n : Int) == 0) = false := by simp; omega
    by_cases hf : lo = hi ∧ hi ≤ 65535
    · have e1 : algn true tx k n lo hi = decide (16 < n * k) := by unfold algn; rw [fixd_yes hf]; simp
      rw [e1]
      have HF := Lib.hid (sfixed_ok true lo hi k tx (w.alloc (.cells #[.bool true, .int .i64 lo, .int .i64 hi, .int .i64 (k : Nat), .bool tx] 64)) h true (fixd_yes hf).symm)
      have hm := mul_small (a := n) (k := k) (by omega) (by omega) (by omega) (by omega)
      have q1 : decide ((16 : Int) < (n : Int) * (k : Int)) = decide (16 < n * k) := by rw [decide_eq_decide]; omega
      generalize decide (16 < n * k) = b at *
      clear e1 hf h hn hn0
      go_enter Tryz.func68, Tryz.ntmps68
      go_wp2_with fail
      refine HF.out.mono ?_
      rintro e w1 ⟨rfl, hb1⟩
      obtain ⟨c0, c1, c2, c3, c4⟩ := (HC.out.below (hb1.mono (by simp))).cells
      have H1 := Lib.hid (h0.trans (hb1.mono (by simp)))
      clear hb1 h0 HC
      go_wp2_with fail
      go_ret
      exact ⟨rfl, H1.out⟩
    · have HF := Lib.hid (sfixed_ok true lo hi k tx (w.alloc (.cells #[.bool true, .int .i64 lo, .int .i64 hi, .int .i64 (k : Nat), .bool tx] 64)) h false (fixd_no hf).symm)
      have e0 : algn true tx k n lo hi = !near tx k hi := by unfold algn; rw [fixd_no hf]; simp; omega
      rw [e0]
      clear e0 hf
      cases tx with
      | false =>
        have e1 : near false k hi = false := rfl
        rw [e1]
        clear e1 h hn hn0
        go_enter Tryz.func68, Tryz.ntmps68
        go_wp2_with fail
        refine HF.out.mono ?_
        rintro e w1 ⟨rfl, hb1⟩
        obtain ⟨c0, c1, c2, c3, c4⟩ := (HC.out.below (hb1.mono (by simp))).cells
        have H1 := Lib.hid (h0.trans (hb1.mono (by simp)))
        clear hb1 h0 HC
        go_wp2_with fail
        go_ret
        exact ⟨rfl, H1.out⟩
      | true =>
        by_cases hh : 0 ≤ hi ∧ hi ≤ 65535
        · have HN := Lib.hid (fun w => snarrow_ok true lo hi k true w true (lNar_yes hh).symm)
          have hm := mul_small (a := hi) (k := k) (by omega) (by omega) (by omega) (by omega)
          obtain ⟨b, hb⟩ : ∃ b, b = !near true k hi := ⟨_, rfl⟩
          rw [← hb]
          have q1 : decide ((16 : Int) ≤ hi * (k : Int)) = b := by
            rw [hb]
            unfold near
            rw [Bool.true_and, ← decide_not, decide_eq_decide]
            omega
          clear hh h hn hn0 hb
          go_enter Tryz.func68, Tryz.ntmps68
          go_wp2_with fail
          refine HF.out.mono ?_
          rintro e w1 ⟨rfl, hb1⟩
          have HC1 := Lib.hid (HC.out.below (hb1.mono (by simp)))
          obtain ⟨c0, c1, c2, c3, c4⟩ := HC1.out.cells
          have H1 := Lib.hid (h0.trans (hb1.mono (by simp)))
          clear hb1 h0 HC
          go_wp2_with fail
          refine (HN.out w1).mono ?_
          rintro e w2 ⟨rfl, hb1⟩
          clear c0 c1 c2 c3 c4
          obtain ⟨c0, c1, c2, c3, c4⟩ := (HC1.out.below hb1).cells
          have H2 := Lib.hid (H1.out.trans (hb1.mono H1.out.size))
          clear hb1 H1 HC1
          go_wp2_with fail
          go_ret
          exact ⟨rfl, H2.out⟩
        · have HN := Lib.hid (fun w => snarrow_ok true lo hi k true w false (lNar_no hh).symm)
          have e1 : near true k hi = false := by unfold near; rw [Bool.true_and]; exact decide_eq_false (by omega)
          rw [e1]
          clear e1 hh h hn hn0
          go_enter Tryz.func68, Tryz.ntmps68
          go_wp2_with fail
          refine HF.out.mono ?_
          rintro e w1 ⟨rfl, hb1⟩
          have HC1 := Lib.hid (HC.out.below (hb1.mono (by simp)))
          obtain ⟨c0, c1, c2, c3, c4⟩ := HC1.out.cells
          have H1 := Lib.hid (h0.trans (hb1.mono (by simp)))
          clear hb1 h0 HC
          go_wp2_with fail
          refine (HN.out w1).mono ?_
          rintro e w2 ⟨rfl, hb1⟩
          have H2 := Lib.hid (H1.out.trans (hb1.mono H1.out.size))
          clear hb1 H1 HC1
          go_wp2_with fail
          go_ret
          exact ⟨rfl, H2.out⟩
end Go.Proofs.YtbpfggkpfaobhaaGreat
