/-
  A bundle of texts, one behind the other: ShL4.
-/
import Derived.Test.YtgmnojnalkhepaaGreatDoorJM
import Derived.BigQuiet
/-
  A whole variable read in a region that draws its order.
-/
namespace Go.Proofs.YtgmnojnalkhepaaGreatDoor
open Go.RowKit Go.BigFrame
set_option linter.unusedVariables false
set_option linter.unusedSimpArgs false
set_option maxRecDepth 100000

theorem quiet_load_mid {P : Program} {C : World → Prop} {a : Act} {o : Oper} {K : Act → Prop} (ty : TypeId) (x : Operand) (ho : o.op = .load ty x) (b off : Nat) (hx : a.eval x = .pointer (some ⟨b, off, none⟩)) (cs : List Value) (d : TypeDesc)
    (hc : ∀ w, C w → w.rangeAt b off cs) (hu : P.underlying ty = some d) (hd : d.isRow = true) (hi : (P.info? ty).map (·.size) = some cs.length) (hk : K (a.put o.dst (.agg cs.toArray))) : o.quiet P a C K :=
  ⟨_, fun w hw => by
    unfold Oper.quietAt execOp
    simp only [ho, hx, Instr.loadAt, Instr.sureAddr, Sem.run_bind, Sem.run_pure, Result.andThen_ok, run_loadVar_mid w b off ty cs d (hc w hw) hu hd hi]
    exact ⟨rfl, rfl⟩, hk⟩
theorem range_regrown {w : World} {b off : Nat} {cs : List Value} (h : w.rangeAt b off cs) : ∀ w', (∃ p : Regrown, w' = Go.Sort.grow (redrawn w p.d) p.os) → w'.rangeAt b off cs := by
  rintro w' ⟨p, rfl⟩ j v hv
  exact cell_regrown (h j v hv) p.d p.os
theorem put_mk {l : List Value} {ds : List Deferred} {n : Nat} {v : Value} : (Act.put { tmps := l.toArray, defers := ds } (some n) v) = { tmps := (l.set n v).toArray, defers := ds } := by
  simp [Act.put]
end Go.Proofs.YtgmnojnalkhepaaGreatDoor
