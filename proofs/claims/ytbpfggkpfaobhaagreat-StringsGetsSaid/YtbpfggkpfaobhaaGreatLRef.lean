/-
  The document's answers for package length: writing.
-/
import Derived.Test.YtbpfggkpfaobhaaGreatLnM
import Derived.Test.YtbpfggkpfaobhaaGreatWRef
import Derived.OwnWalk
namespace Go.Proofs.YtbpfggkpfaobhaaGreat
open Go.RowKit
set_option linter.unusedVariables false
set_option linter.unusedSimpArgs false
set_option maxRecDepth 100000

theorem results_tmp4 {fn : Func} {t u v x : Tmp} (h : fn.results = #[.tmp t, .tmp u, .tmp v, .tmp x]) (tmps : Array Value) (P : Program) (w : World) :
    (results fn tmps).run P w = .ok (.tuple #[tmps.getD t undef, tmps.getD u undef, tmps.getD v undef, tmps.getD x undef]) w := by
  simp [results, h]
theorem bchars_app (B C : List Bool) : bchars B ++ bchars C = bchars (B ++ C) := by
  apply ByteArray.ext
  rw [ByteArray.data_append]
  unfold bchars
  rw [List.map_append]
  apply Array.ext'
  simp
theorem may_ok (lo hi : Int) (w : World) (b : Bool) (hb : b = decide (¬ lBad lo hi)) :
    Calls Tryz.prog 71 #[.int .i64 lo, .int .i64 hi] w fun e w' => e = .returned (.bool b) ∧ w = w' := by
  unfold lBad at hb
  by_cases h1 : lo < 0
  · have q1 : decide ((0 : Int) ≤ lo) = false := decide_eq_false (by omega)
    have : b = false := by rw [hb]; exact decide_eq_false (by omega)
    subst this
    clear hb h1
    go_enter Tryz.func71, Tryz.ntmps71
    go_wp2_with fail
    go_ret
    exact ⟨rfl, rfl⟩
  have q1 : decide ((0 : Int) ≤ lo) = true := decide_eq_true (by omega)
  by_cases h2 : hi < 0
  · have q2 : decide (hi < (0 : Int)) = true := decide_eq_true (by omega)
    have : b = true := by rw [hb]; exact decide_eq_true (by omega)
    subst this
    clear hb h1 h2
    go_enter Tryz.func71, Tryz.ntmps71
    go_wp2_with fail
    go_ret
    exact ⟨rfl, rfl⟩
  have q2 : decide (hi < (0 : Int)) = false := decide_eq_false (by omega)
  have q3 : decide (lo ≤ hi) = b := by
    rw [hb, decide_eq_decide]
    omega
  clear hb h1 h2
  go_enter Tryz.func71, Tryz.ntmps71
  go_wp2_with fail
  go_ret
  exact ⟨rfl, rfl⟩
theorem close_ok (hi : Int) (w : World) (b : Bool) (hb : b = lNar hi) :
    Calls Tryz.prog 72 #[.int .i64 hi] w fun e w' => e = .returned (.bool b) ∧ w = w' := by
  unfold lNar at hb
  by_cases h1 : hi < 0
  · have q1 : decide ((0 : Int) ≤ hi) = false := decide_eq_false (by omega)
    have : b = false := by rw [hb]; exact decide_eq_false (by omega)
    subst this
    clear hb h1
    go_enter Tryz.func72, Tryz.ntmps72
    go_wp2_with fail
    go_ret
    exact ⟨rfl, rfl⟩
  have q1 : decide ((0 : Int) ≤ hi) = true := decide_eq_true (by omega)
  have q3 : decide (hi ≤ (65535 : Int)) = b := by
    rw [hb, decide_eq_decide]
    omega
  clear hb h1
  go_enter Tryz.func72, Tryz.ntmps72
  go_wp2_with fail
  go_ret
  exact ⟨rfl, rfl⟩
end Go.Proofs.YtbpfggkpfaobhaaGreat
