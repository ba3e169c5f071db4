/-
  Package shape: how deep a type is (no walk); the types that stand directly in a type, one behind the other; 'nested' and what it hands back.
-/
import Derived.Test.YtecedbjkebdeaaaShEv
import Derived.Test.YtecedbjkebdeaaaShR
import Derived.RangeFuncNested
import Derived.Shelf.RegionOpen
import Derived.WalkKit
import Derived.OwnWalkIn
import Derived.TacticsInMore
import Derived.LoopNIn
import Derived.LoopIn
namespace Go.Proofs.Ytecedbjkebdeaaa
open Go.RowKit Go.Shelf
set_option linter.unusedVariables false
set_option linter.unusedSimpArgs false
set_option maxRecDepth 100000

attribute [local go_sem] Oper.semAt_some

/-- the greatest of the first n -/
def mxN (f : Nat → Nat) : Nat → Nat
  | 0 => 0
  | n + 1 => max (mxN f n) (f n)
theorem mxN_le {f : Nat → Nat} : ∀ {n i : Nat}, i ≤ n → mxN f i ≤ mxN f n
  | 0, i, h => by obtain rfl : i = 0 := by omega
                  exact Nat.le_refl _
  | n + 1, i, h => by
    rcases Nat.lt_or_ge i (n + 1) with h1 | h1
    · have := mxN_le (f := f) (n := n) (i := i) (by omega)
      simp only [mxN]
      omega
    · obtain rfl : i = n + 1 := by omega
      exact Nat.le_refl _
/-- how deep types are nested in a type -/
def TT.dep : TT → Nat
  | .nil => 1
  | .mk _ _ _ _ _ _ _ pa pt ad at_ _ en _ et => 1 + mxN (fun k => if k < pa.n then (pt k).dep else if k < pa.n + ad.n then (at_ (k - pa.n)).dep else (et (k - (pa.n + ad.n))).dep) (pa.n + ad.n + en)
/-- the types that stand directly in a type -/
def TT.kid : TT → Nat → TT
  | .nil, _ => .nil
  | .mk _ _ _ _ _ _ _ pa pt ad at_ _ _ _ et, k => if k < pa.n then pt k else if k < pa.n + ad.n then at_ (k - pa.n) else et (k - (pa.n + ad.n))
def TT.kids : TT → Nat
  | .nil => 0
  | .mk _ _ _ _ _ _ _ pa _ ad _ _ en _ _ => pa.n + ad.n + en
theorem TT.dep_eq : ∀ t : TT, t.dep = 1 + mxN (fun k => (t.kid k).dep) t.kids
  | .nil => rfl
  | .mk kind name con ext fr nm mo pa pt ad at_ ea en ec et => by
    rw [TT.dep]
    congr 2
    funext k
    simp only [TT.kid]
    split
    · rfl
    · split <;> rfl
theorem TIn.kid {B : Nat} {W : World} : ∀ {t : TT}, TIn B W t → ∀ k, k < t.kids → TIn B W (t.kid k)
  | .nil, h, _, _ => h.elim
  | .mk kind name con ext fr nm mo pa pt ad at_ ea en ec et, ⟨_, ⟨_, hp⟩, ⟨_, ha⟩, ⟨_, he⟩⟩, k, hk => by
    simp only [TT.kids] at hk
    simp only [TT.kid]
    split
    · exact (hp k (by assumption)).2
    · split
      · exact (ha _ (by omega)).2
      · exact he _ (by omega)
/-- how deep the first k of them are, at most m -/
def TT.dpt (t : TT) (m k : Nat) : Nat := min (mxN (fun k => (t.kid k).dep) k) m
theorem TT.dpt_succ (t : TT) (m k : Nat) : t.dpt m (k + 1) = max (t.dpt m k) (min (t.kid k).dep m) := by
  simp only [TT.dpt, mxN]
  omega
theorem TT.dpt_all (t : TT) (m k : Nat) (hk : k ≤ t.kids) (h : t.dpt m k = m) : t.dpt m t.kids = m := by
  have := mxN_le (f := fun k => (t.kid k).dep) hk
  simp only [TT.dpt] at h ⊢
  omega
theorem TT.dpt_le (t : TT) (m k : Nat) : t.dpt m k ≤ m := by
  simp only [TT.dpt]
  omega
theorem Bx.bk {W : World} {g : Nat} {cs : Array Value} {t : TypeId} (h : Bx W g cs t) {l : Nat} {o : Obj} (hl : W.heap[l]? = some o) (hc : o.isCells = false) (o' : Obj) : Bx (W.putObj l o') g cs t := by
  have hne : l ≠ g := fun e => by
    subst e
    rw [show W.heap[l]? = _ from h] at hl
    cases hl
    simp [Obj.isCells] at hc
  exact (World.putObj_heap_other (Ne.symm hne)).trans h
theorem wpListIn_load_mid {F : Fence} {n : Nat} {ops : Array Oper} {rest : List Oper} {op : Oper} {a : Act} {w : World} {Q : Exit → Act → World → Prop} (hgd : op.guard = none) (ty : TypeId) (x : Operand) (ho : op.op = .load ty x)
    (b o : Nat) (hx : a.eval x = .pointer (some ⟨b, o, none⟩)) (cs : List Value) (d : TypeDesc) (hc : w.rangeAt b o cs)
    (hu : Try.prog.underlying ty = some d) (hd : d.isRow = true) (hi : (Try.prog.info? ty).map (·.size) = some cs.length)
    (h : wpListIn F n Try.prog ops Q rest (a.put op.dst (.agg cs.toArray)) w) : wpListIn F n Try.prog ops Q (op :: rest) a w := by
  refine wpListIn_plain hgd fun K hK => ?_
  unfold Oper.wpIn
  refine ⟨by simp [Oper.about, ho], ?_⟩
  rw [Oper.semAt_plain F _ _ (by rw [ho]; intro c hc'; cases hc')]
  unfold execOp
  simp only [ho, hx, Instr.loadAt, Instr.sureAddr, Sem.run_bind, Sem.run_pure, Result.andThen_ok, run_loadVar_mid w b o ty cs d hc hu hd hi]
  exact hK _ _ h
theorem wpListIn_store_new {F : Fence} {n : Nat} {ops : Array Oper} {rest : List Oper} {op : Oper} {a : Act} {w : World} {Q : Exit → Act → World → Prop} (hgd : op.guard = none) (ty : TypeId) (x y : Operand) (ho : op.op = .store ty x y) (k : Nat)
    (c : Array Value) (cs : List Value) (hl : cs.length = k) (hc : c.size = k) (hi : (Try.prog.info? ty).map (·.size) = some k) (h1 : ∀ v ∈ cs, v.oneCell' = true)
    (hx : a.eval x = .pointer (some ⟨w.heap.size, 0, none⟩)) (hy : a.eval y = .agg cs.toArray)
    (h : wpListIn F n Try.prog ops Q rest (a.put op.dst undef) (w.alloc (.cells cs.toArray ty))) : wpListIn F n Try.prog ops Q (op :: rest) a (w.alloc (.cells c ty)) := by
  refine wpListIn_plain hgd fun K hK => ?_
  unfold Oper.wpIn
  refine ⟨by simp [Oper.about, ho], ?_⟩
  rw [Oper.semAt_plain F _ _ (by rw [ho]; intro c hc'; cases hc')]
  unfold execOp
  simp only [ho, hx, hy, Instr.storeAt, Instr.sureAddr, Sem.run_bind, Sem.run_pure, Result.andThen_ok, run_storeVar_new (P := Try.prog) w ty c cs.toArray (by rw [hi]; simp [hl]) (by simp [hl, hc]) (all_oneCell_toArray h1)]
  exact hK _ _ h
/-- a part's type, out of the part's block -/
theorem Bx.rangeP {w : World} {g : Nat} {p : PD} {t : TT} {ty : TypeId} (h : Bx w g (pcells p t).toArray ty) : w.rangeAt g 1 t.cells := fun j v hv => by
  refine h.cell (1 + j) ?_
  have hj : j < t.cells.length := (List.getElem?_eq_some_iff.1 hv).1
  rw [List.getElem?_toArray]
  show ([Value.string p.name] ++ t.cells ++ [.bool p.opt, p.d.v])[1 + j]? = some v
  rw [List.getElem?_append_left (by simp; omega), List.getElem?_append_right (by simp)]
  simpa using hv
end Go.Proofs.Ytecedbjkebdeaaa
