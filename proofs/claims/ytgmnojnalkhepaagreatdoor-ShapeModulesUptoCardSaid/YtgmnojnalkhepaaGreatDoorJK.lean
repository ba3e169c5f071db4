/-
  A bundle of texts, one behind the other: ShR, ShE1, ShE2, ShE3, ShE4.
-/
import Derived.RangeFuncFrom
import Derived.RangeFuncBound
import Derived.RangeFuncCalls
import Derived.RangeFuncLeaves
import Derived.Test.YtgmnojnalkhepaaGreatDoorJB
import Derived.RangeFuncNested
import Derived.Shelf.RegionOpen
import Derived.WalkKit
import Derived.OwnWalkIn
import Derived.TacticsInMore
import Derived.LoopNIn
import Derived.LoopIn
import Derived.Test.YtgmnojnalkhepaaGreatDoorJG
import Derived.Test.YtgmnojnalkhepaaGreatDoorJI
import Derived.Test.YtgmnojnalkhepaaGreatDoorJE
/-
  A range over a function: one law, with a state of one's own at each call of yield; the loop variable may lie in a box that each round lays, and the body may leave by a break. No program is named.
-/
namespace Go.Proofs.YtgmnojnalkhepaaGreatDoor
open Go.RowKit
set_option linter.unusedVariables false
set_option linter.unusedSimpArgs false

/-- p abides the turn of a block from B on that is no cells -/
def Bk (B : Nat) (p : World → Prop) : Prop := ∀ (W : World) (l : Nat) (o o' : Obj), B ≤ l → W.heap[l]? = some o → o.isCells = false → p W → p (W.putObj l o')
/-- how the body of a round may be left: off its end, by a return, or by a break -/
def rfPost2 (N : World → Prop) (X : Code → World → Prop) (W : World) : Exit → Act → World → Prop
  | .normal, _, W' => KeepsOthers W W' ∧ N W'
  | .ret, _, W' => KeepsOthers W W' ∧ X .ret W'
  | .exit id, _, W' => KeepsOthers W W' ∧ X (.exit id) W'
  | .goto _, _, _ => False
  | .panic _, _, _ => False
  | .outgrown, _, _ => False

theorem rangeFunc_own2 {F : Fence} {n : Nat} {P : Program} {α : Type} {g : Operand} {ps : Array Tmp} {assign body : Code} {Q : Exit → Act → World → Prop} {a : Act} {w : World}
    (hro : F.round = none) (h1 : 1 ≤ n) {gf : Nat} {lb : Array Value} (hg : a.eval g = .func (.func gf) #[] lb) (hFg : F.fn gf) (eg : ∀ args w, (callFunc gf args).run P w = .ok (.enter gf args) w)
    {encs : α → Array Value} (hps : ∀ x, (encs x).size = ps.size)
    (I D : World → Prop) (E : Code → World → Prop) (M N : α → World → Prop) (M2 : α → Act → World → Prop) (X : Code → α → World → Prop)
    (hM : ∀ x, Bk w.heap.size (M x)) (hN : ∀ x, Bk w.heap.size (N x)) (hM2 : ∀ x a', Bk w.heap.size (M2 x a')) (hX : ∀ c x, Bk w.heap.size (X c x)) (hD : Bk w.heap.size D) (hE : ∀ c, Bk w.heap.size (E c))
    (h0 : ∀ o o', I ((w.alloc o).alloc o'))
    (hit : ∀ (l : Nat) (K : World → Prop) (Kx : Code → World → Prop) (W : World), (∀ A B, KeepsOthers A B → K A → K B) → (∀ c A B, KeepsOthers A B → Kx c A → Kx c B) →
      (∀ x W, M x W → K W → YieldAt F (n - 1 - 1) P l (encs x) W fun e W' => (e = .returned (.bool true) ∧ N x W' ∧ K W') ∨ (e = .returned (.bool false) ∧ ∃ c, X c x W' ∧ Kx c W')) →
      I W → K W → CallsIn F (n - 1) P gf (#[.func (.yield l) #[] #[]] ++ lb) W fun e W' => (∃ v, e = .returned v) ∧ ((D W' ∧ K W') ∨ (∃ c, E c W' ∧ Kx c W')))
    (hassign : ∀ (l : Nat) (x : α) (W : World) (K : Act → World → Prop), M x W → (∀ a' W', KeepsOthers W W' → M2 x a' W' → K a' W') →
      assign.wpIn (F.inRound l) (n - 1 - 1) P (Exit.then K (fun _ _ _ => False)) { tmps := (ps.zip (encs x)).foldl (fun t (p, v) => t.setIfInBounds p v) a.tmps, defers := [] } W)
    (hbody : ∀ (l : Nat) (x : α) (a' : Act) (W : World), M2 x a' W → body.wpIn (F.inRound l) (n - 1 - 1) P (rfPost2 (N x) (fun c => X c x) W) a' W)
    (hdone : ∀ (r : Nat) (W : World), w.heap.size ≤ r → D W → W.heap[r]? = some (.deferred (some [])) → Q .normal { a with defers := { target := .collected r, args := #[] } :: a.defers } W)
    (hstop : ∀ (r : Nat) (c : Code) (W : World), w.heap.size ≤ r → E c W → W.heap[r]? = some (.deferred (some [])) → c.wpIn F n P Q { a with defers := { target := .collected r, args := #[] } :: a.defers } W) :
    (Code.rangeFunc g ps assign body).wpIn F n P Q a w := by
  refine wpIn_rangeFunc ?_
  intro fn hfn
  rw [hro]
  obtain ⟨rec, hrec⟩ : ∃ rec : LoopState → Option Code → Loop, rec = fun st pe => { state := st, pending := pe, fn, tmps := a.tmps, params := ps, assign, body, defers := w.heap.size } := ⟨_, rfl⟩
  obtain ⟨W1, hW1⟩ : ∃ W1, (w.alloc (.deferred (some []))).alloc (.loop (rec .ready none)) = W1 := ⟨_, rfl⟩
  have hL1 : W1.heap[w.heap.size + 1]? = some (.loop (rec .ready none)) := by
    rw [← hW1]; have := World.alloc_heap_new (w.alloc (.deferred (some []))) (.loop (rec .ready none)); rwa [World.size_alloc] at this
  have hK1 : W1.heap[w.heap.size]? = some (.deferred (some [])) := by
    rw [← hW1]; exact (Below.heap_alloc _ _ _ (by simp)).trans (World.alloc_heap_new w _)
  have hI1 : I W1 := by rw [← hW1]; exact h0 _ _
  refine ⟨w.heap.size + 1, [{ target := .collected w.heap.size, args := #[] }], W1, { target := .fn (.func gf) lb, args := #[.func (.yield (w.heap.size + 1)) #[] #[]] }, W1, gf,
    #[.func (.yield (w.heap.size + 1)) #[] #[]] ++ lb, W1, ?_, ?_, ?_, ?_, fun _ => h1, ?_⟩
  · rw [← hW1, hrec]; exact run_enterLoop_outer _ _ _ _ _
  · simp only [resolve, hg]
    simp [go_sem]
  · intro f' hf'; simp [Target.leads] at hf'; subst hf'; exact hFg
  · simp [invoke, go_sem, eg]
  · refine (hit (w.heap.size + 1)
      (fun W => W.heap[w.heap.size + 1]? = some (.loop (rec .ready none)) ∧ W.heap[w.heap.size]? = some (.deferred (some [])))
      (fun c W => W.heap[w.heap.size + 1]? = some (.loop (rec .done (some c))) ∧ W.heap[w.heap.size]? = some (.deferred (some [])))
      W1 (fun A B hk ⟨h1, h2⟩ => ⟨hk.same _ _ h1 rfl, hk.same _ _ h2 rfl⟩) (fun c A B hk ⟨h1, h2⟩ => ⟨hk.same _ _ h1 rfl, hk.same _ _ h2 rfl⟩) ?_ hI1 ⟨hL1, hK1⟩).mono ?_
    · rintro x W hm ⟨hl, hk⟩
      have hy := run_yield (P := P) (args := encs x) hl (by rw [hrec]; exact hps x)
      rw [hrec] at hy
      refine ⟨fn, _, assign, body, hy, roundIn_of_wpIn hfn (hassign _ x W _ hm ?_)⟩
      clear hy
      intro a' Wa hka hm2
      replace hl := hka.same _ _ hl rfl
      replace hk := hka.same _ _ hk rfl
      have hlt : w.heap.size + 1 < Wa.heap.size := (Array.getElem?_eq_some_iff.1 hl).1
      clear hm hka W
      refine ⟨_, run_beginRound hl (by rw [hrec]), ?_⟩
      have hl2 : (Wa.putObj (w.heap.size + 1) (.loop { rec .ready none with state := .busy })).heap[w.heap.size + 1]? = some (.loop { rec .ready none with state := .busy }) := World.putObj_heap_same hlt
      have hk2 : (Wa.putObj (w.heap.size + 1) (.loop { rec .ready none with state := .busy })).heap[w.heap.size]? = some (.deferred (some [])) := (World.putObj_heap_other (by omega)).trans hk
      refine wpIn_mono (hbody _ x a' _ (hM2 x a' _ _ _ _ (by omega) hl rfl hm2)) ?_
      have fin : ∀ (jump : Option Code) (W3 : World), KeepsOthers (Wa.putObj (w.heap.size + 1) (.loop { rec .ready none with state := .busy })) W3 →
          (Instr.endRound (w.heap.size + 1) jump).run P W3 = .ok (.bool jump.isNone) (W3.putObj (w.heap.size + 1) (.loop (rec (if jump.isNone then .ready else .done) jump))) ∧
          W3.heap[w.heap.size + 1]? = some (.loop { rec .ready none with state := .busy }) ∧
          (W3.putObj (w.heap.size + 1) (.loop (rec (if jump.isNone then .ready else .done) jump))).heap[w.heap.size + 1]? = some (.loop (rec (if jump.isNone then .ready else .done) jump)) ∧
          (W3.putObj (w.heap.size + 1) (.loop (rec (if jump.isNone then .ready else .done) jump))).heap[w.heap.size]? = some (.deferred (some [])) := fun jump W3 hk3 => by
        have hl3 := hk3.same _ _ hl2 rfl
        have := run_endRound (P := P) jump hl3
        rw [hrec] at this ⊢
        exact ⟨this, by rw [hrec] at hl3; exact hl3, World.putObj_heap_same (Array.getElem?_eq_some_iff.1 hl3).1, (World.putObj_heap_other (by omega)).trans (hk3.same _ _ hk2 rfl)⟩
      rintro e a3 W3 hp
      cases e with
      | normal =>
        obtain ⟨hk3, hi3⟩ := hp
        obtain ⟨hr, hl3, hl4, hk4⟩ := fin none W3 hk3
        exact ⟨_, _, hr, .inl ⟨rfl, hN x _ _ _ _ (by omega) hl3 rfl hi3, hl4, hk4⟩⟩
      | ret =>
        obtain ⟨hk3, hi3⟩ := hp
        obtain ⟨hr, hl3, hl4, hk4⟩ := fin (some .ret) W3 hk3
        exact ⟨_, _, hr, .inr ⟨rfl, .ret, hX _ x _ _ _ _ (by omega) hl3 rfl hi3, hl4, hk4⟩⟩
      | exit id =>
        obtain ⟨hk3, hi3⟩ := hp
        obtain ⟨hr, hl3, hl4, hk4⟩ := fin (some (.exit id)) W3 hk3
        exact ⟨_, _, hr, .inr ⟨rfl, .exit id, hX _ x _ _ _ _ (by omega) hl3 rfl hi3, hl4, hk4⟩⟩
      | goto t => exact hp.elim
      | panic ch => exact hp.elim
      | outgrown => exact hp.elim
    · rintro e W2 ⟨⟨v, rfl⟩, (⟨hi, hl, hk⟩ | ⟨c, hi, hl, hk⟩)⟩
      · exact ⟨none, _, by have := run_endLoop (P := P) hl (by rw [hrec]; simp); rw [hrec] at this; exact this, hdone _ _ (Nat.le_refl _) (hD _ _ _ _ (by omega) hl rfl hi) ((World.putObj_heap_other (by omega)).trans hk)⟩
      · exact ⟨some c, _, by have := run_endLoop (P := P) hl (by rw [hrec]; simp); rw [hrec] at this; exact this, hstop _ c _ (Nat.le_refl _) (hE c _ _ _ _ (by omega) hl rfl hi) ((World.putObj_heap_other (by omega)).trans hk)⟩
end Go.Proofs.YtgmnojnalkhepaaGreatDoor

/-
  Package shape: how deep a type is (no walk); the types that stand directly in a type, one behind the other; 'nested' and what it hands back.
-/
namespace Go.Proofs.YtgmnojnalkhepaaGreatDoor
open Go.RowKit Go.Shelf
set_option linter.unusedVariables false
set_option linter.unusedSimpArgs false
set_option maxRecDepth 100000

attribute [local go_sem] Oper.semAt_some

/-- the greatest of the first n -/
def mxN (f : Nat → Nat) : Nat → Nat
  | 0 => 0
  | n + 1 => max (mxN f n) (f n)
theorem mxN_le {f : Nat → Nat} : ∀ {n i : Nat}, i ≤ n → mxN f i ≤ mxN f n
  | 0, i, h => by obtain rfl : i = 0 := by omega
                  exact Nat.le_refl _
  | n + 1, i, h => by
    rcases Nat.lt_or_ge i (n + 1) with h1 | h1
    · have := mxN_le (f := f) (n := n) (i := i) (by omega)
      simp only [mxN]
      omega
    · obtain rfl : i = n + 1 := by omega
      exact Nat.le_refl _
/-- how deep types are nested in a type -/
def TT.dep : TT → Nat
  | .nil => 1
  | .mk _ _ _ _ _ _ _ pa pt ad at_ _ en _ et => 1 + mxN (fun k => if k < pa.n then (pt k).dep else if k < pa.n + ad.n then (at_ (k - pa.n)).dep else (et (k - (pa.n + ad.n))).dep) (pa.n + ad.n + en)
/-- the types that stand directly in a type -/
def TT.kid : TT → Nat → TT
  | .nil, _ => .nil
  | .mk _ _ _ _ _ _ _ pa pt ad at_ _ _ _ et, k => if k < pa.n then pt k else if k < pa.n + ad.n then at_ (k - pa.n) else et (k - (pa.n + ad.n))
def TT.kids : TT → Nat
  | .nil => 0
  | .mk _ _ _ _ _ _ _ pa _ ad _ _ en _ _ => pa.n + ad.n + en
theorem TT.dep_eq : ∀ t : TT, t.dep = 1 + mxN (fun k => (t.kid k).dep) t.kids
  | .nil => rfl
  | .mk kind name con ext fr nm mo pa pt ad at_ ea en ec et => by
    rw [TT.dep]
    congr 2
    funext k
    simp only [TT.kid]
    split
    · rfl
    · split <;> rfl
theorem TIn.kid {B : Nat} {W : World} : ∀ {t : TT}, TIn B W t → ∀ k, k < t.kids → TIn B W (t.kid k)
  | .nil, h, _, _ => h.elim
  | .mk kind name con ext fr nm mo pa pt ad at_ ea en ec et, ⟨_, ⟨_, hp⟩, ⟨_, ha⟩, ⟨_, he⟩⟩, k, hk => by
    simp only [TT.kids] at hk
    simp only [TT.kid]
    split
    · exact (hp k (by assumption)).2
    · split
      · exact (ha _ (by omega)).2
      · exact he _ (by omega)
/-- how deep the first k of them are, at most m -/
def TT.dpt (t : TT) (m k : Nat) : Nat := min (mxN (fun k => (t.kid k).dep) k) m
theorem TT.dpt_succ (t : TT) (m k : Nat) : t.dpt m (k + 1) = max (t.dpt m k) (min (t.kid k).dep m) := by
  simp only [TT.dpt, mxN]
  omega
theorem TT.dpt_all (t : TT) (m k : Nat) (hk : k ≤ t.kids) (h : t.dpt m k = m) : t.dpt m t.kids = m := by
  have := mxN_le (f := fun k => (t.kid k).dep) hk
  simp only [TT.dpt] at h ⊢
  omega
theorem TT.dpt_le (t : TT) (m k : Nat) : t.dpt m k ≤ m := by
  simp only [TT.dpt]
  omega
theorem Bx.bk {W : World} {g : Nat} {cs : Array Value} {t : TypeId} (h : Bx W g cs t) {l : Nat} {o : Obj} (hl : W.heap[l]? = some o) (hc : o.isCells = false) (o' : Obj) : Bx (W.putObj l o') g cs t := by
  have hne : l ≠ g := fun e => by
    subst e
    rw [show W.heap[l]? = _ from h] at hl
    cases hl
    simp [Obj.isCells] at hc
  exact (World.putObj_heap_other (Ne.symm hne)).trans h
theorem nested_ok (cs : List Value) (w : World) (n : Nat) :
    CallsIn Fence.wide n Tryz.prog 59 #[.agg cs.toArray] w fun e w' => e = .returned (.func (.func 86) #[] #[.pointer (some ⟨w.heap.size, 0, none⟩)]) ∧ w' = w.alloc (.cells cs.toArray 39) := by
  refine callsIn_of_wp Tryz.func59 rfl trivial ?_ rfl
  simp only [Tryz.ntmps59, List.size_toArray, List.length_cons, List.length_nil, Nat.reduceAdd, Nat.reduceSub, Array.replicate_succ, Array.replicate_zero, List.push_toArray, List.append_toArray, List.nil_append, List.cons_append]
  gi_wp2
  go_ret
  exact ⟨rfl, rfl⟩
theorem wpListIn_load_mid {F : Fence} {n : Nat} {ops : Array Oper} {rest : List Oper} {op : Oper} {a : Act} {w : World} {Q : Exit → Act → World → Prop} (hgd : op.guard = none) (ty : TypeId) (x : Operand) (ho : op.op = .load ty x)
    (b o : Nat) (hx : a.eval x = .pointer (some ⟨b, o, none⟩)) (cs : List Value) (d : TypeDesc) (hc : w.rangeAt b o cs)
    (hu : Tryz.prog.underlying ty = some d) (hd : d.isRow = true) (hi : (Tryz.prog.info? ty).map (·.size) = some cs.length)
    (h : wpListIn F n Tryz.prog ops Q rest (a.put op.dst (.agg cs.toArray)) w) : wpListIn F n Tryz.prog ops Q (op :: rest) a w := by
  refine wpListIn_plain hgd fun K hK => ?_
  unfold Oper.wpIn
  refine ⟨by simp [Oper.about, ho], ?_⟩
  rw [Oper.semAt_plain F _ _ (by rw [ho]; intro c hc'; cases hc')]
  unfold execOp
  simp only [ho, hx, Instr.loadAt, Instr.sureAddr, Sem.run_bind, Sem.run_pure, Result.andThen_ok, run_loadVar_mid w b o ty cs d hc hu hd hi]
  exact hK _ _ h
theorem wpListIn_store_new {F : Fence} {n : Nat} {ops : Array Oper} {rest : List Oper} {op : Oper} {a : Act} {w : World} {Q : Exit → Act → World → Prop} (hgd : op.guard = none) (ty : TypeId) (x y : Operand) (ho : op.op = .store ty x y) (k : Nat)
    (c : Array Value) (cs : List Value) (hl : cs.length = k) (hc : c.size = k) (hi : (Tryz.prog.info? ty).map (·.size) = some k) (h1 : ∀ v ∈ cs, v.oneCell' = true)
    (hx : a.eval x = .pointer (some ⟨w.heap.size, 0, none⟩)) (hy : a.eval y = .agg cs.toArray)
    (h : wpListIn F n Tryz.prog ops Q rest (a.put op.dst undef) (w.alloc (.cells cs.toArray ty))) : wpListIn F n Tryz.prog ops Q (op :: rest) a (w.alloc (.cells c ty)) := by
  refine wpListIn_plain hgd fun K hK => ?_
  unfold Oper.wpIn
  refine ⟨by simp [Oper.about, ho], ?_⟩
  rw [Oper.semAt_plain F _ _ (by rw [ho]; intro c hc'; cases hc')]
  unfold execOp
  simp only [ho, hx, hy, Instr.storeAt, Instr.sureAddr, Sem.run_bind, Sem.run_pure, Result.andThen_ok, run_storeVar_new (P := Tryz.prog) w ty c cs.toArray (by rw [hi]; simp [hl]) (by simp [hl, hc]) (all_oneCell_toArray h1)]
  exact hK _ _ h
/-- a part's type, out of the part's block -/
theorem Bx.rangeP {w : World} {g : Nat} {p : PD} {t : TT} {ty : TypeId} (h : Bx w g (pcells p t).toArray ty) : w.rangeAt g 1 t.cells := fun j v hv => by
  refine h.cell (1 + j) ?_
  have hj : j < t.cells.length := (List.getElem?_eq_some_iff.1 hv).1
  rw [List.getElem?_toArray]
  show ([Value.string p.name] ++ t.cells ++ [.bool p.opt, p.d.v])[1 + j]? = some v
  rw [List.getElem?_append_left (by simp; omega), List.getElem?_append_right (by simp)]
  simpa using hv
end Go.Proofs.YtgmnojnalkhepaaGreatDoor

/-
  Package shape: what 'nested' hands back: it gives the types that stand directly in a type, one behind the other.
-/
namespace Go.Proofs.YtgmnojnalkhepaaGreatDoor
open Go.RowKit Go.Shelf
set_option linter.unusedVariables false
set_option linter.unusedSimpArgs false
set_option maxRecDepth 100000

attribute [local go_sem] Oper.semAt_some

def RelNo (o0 o1 o2 : Nat) (J : Nat → World → Prop) (K : World → Prop) (jv : Value) (W : World) : Prop := (jv = .int .i64 0 ∧ J o0 W ∧ K W) ∨ (jv = .int .i64 1 ∧ J o1 W ∧ K W) ∨ (jv = .int .i64 2 ∧ J o2 W ∧ K W)
def RelNi (o n : Nat) (J : Nat → World → Prop) (K : World → Prop) (iv : Value) (W : World) : Prop := ∃ i : Nat, i ≤ n ∧ iv = .int .i64 (i : Nat) ∧ J (o + i) W ∧ K W
theorem index_two (x y : Value) (w : World) : (Instr.index 112 (.agg #[x, y]) (.int .i64 0)).run Tryz.prog w = .ok x w ∧ (Instr.index 112 (.agg #[x, y]) (.int .i64 1)).run Tryz.prog w = .ok y w := ⟨by
    simp [Instr.index, go_sem, Tryz.underlying112, Tryz.sizeOf36], by
    simp [Instr.index, go_sem, Tryz.underlying112, Tryz.sizeOf36]⟩
set_option maxHeartbeats 8000000 in
theorem nested1_ok (l g : Nat) (B : Nat) (w : World) (t : TT) (hB : B ≤ w.heap.size) (ht : TIn B w t) (J : Nat → World → Prop) (K Z : World → Prop) (hK : ∀ A B, KeepsOthers A B → K A → K B)
    (hJb : ∀ k W, J k W → Below w.heap.size w W ∧ Bx W g t.cells.toArray 39) (hJ : ∀ k W o, J k W → J k (W.alloc o))
    (n : Nat) (hY : ∀ k W, k < t.kids → J k W → K W → YieldAt Fence.wide (n - 1) Tryz.prog l #[(t.kid k).v] W fun e W' => (e = .returned (.bool true) ∧ J (k + 1) W' ∧ K W') ∨ (e = .returned (.bool false) ∧ Z W'))
    (W : World) (h0 : J 0 W) (hKW : K W) :
    CallsIn Fence.wide n Tryz.prog 86 #[.func (.yield l) #[] #[], .pointer (some ⟨g, 0, none⟩)] W fun e W' =>
      (∃ v, e = .returned v) ∧ ((J t.kids W' ∧ K W') ∨ Z W') := by
  obtain ⟨kd, tn, op, lo, hi, lw, hg, ca, cn, cc, cch, ext, fr, sa, sn, sc, sf, ma, mn, mc, mf, pa, pn, pc, pf, ptf, aa, an, ac, af, atf, ea, en, ec, etf, rfl⟩ := ht.open
  have hkids : (TT.mk kd tn (.mk op lo hi lw hg ca cn cc cch) ext fr ⟨sa, sn, sc, sf⟩ ⟨ma, mn, mc, mf⟩ ⟨pa, pn, pc, pf⟩ ptf ⟨aa, an, ac, af⟩ atf ea en ec etf).kids = pn + an + en := rfl
  have YP : ∀ i W, i < pn → J (0 + i) W → K W → YieldAt Fence.wide (n - 1) Tryz.prog l #[.agg (ptf i).cells.toArray] W fun e W' => (e = .returned (.bool true) ∧ J (0 + (i + 1)) W' ∧ K W') ∨ (e = .returned (.bool false) ∧ Z W') := fun i W hi hj hk => by
    have h := hY i W (by omega) (by rw [Nat.zero_add] at hj; exact hj) hk
    simp only [TT.kid, if_pos hi] at h
    rw [Nat.zero_add]
    exact h
  have YA : ∀ i W, i < an → J (pn + i) W → K W → YieldAt Fence.wide (n - 1) Tryz.prog l #[.agg (atf i).cells.toArray] W fun e W' => (e = .returned (.bool true) ∧ J (pn + (i + 1)) W' ∧ K W') ∨ (e = .returned (.bool false) ∧ Z W') := fun i W hi hj hk => by
    have h := hY (pn + i) W (by omega) hj hk
    simp only [TT.kid, if_neg (show ¬ pn + i < pn by omega), if_pos (show pn + i < pn + an by omega), show pn + i - pn = i by omega] at h
    exact h
  have YE : ∀ i W, i < en → J (pn + an + i) W → K W → YieldAt Fence.wide (n - 1) Tryz.prog l #[.agg (etf i).cells.toArray] W fun e W' => (e = .returned (.bool true) ∧ J (pn + an + (i + 1)) W' ∧ K W') ∨ (e = .returned (.bool false) ∧ Z W') := fun i W hi hj hk => by
    have h := hY (pn + an + i) W (by omega) hj hk
    simp only [TT.kid, if_neg (show ¬ pn + an + i < pn by omega), if_neg (show ¬ pn + an + i < pn + an by omega), show pn + an + i - (pn + an) = i by omega] at h
    exact h
  rw [hkids]
  obtain ⟨⟨_, _, _, _, _, _⟩, ⟨hpr, hp⟩, ⟨har, ha⟩, ⟨her, he⟩⟩ := ht
  have hpn : pn ≤ 9223372036854775807 := by have h1 : pn ≤ pc := hpr.1; have h2 : pc ≤ 140737488355328 := hpr.2.1; omega
  have han : an ≤ 9223372036854775807 := by have h1 : an ≤ ac := har.1; have h2 : ac ≤ 140737488355328 := har.2.1; omega
  have hen : en ≤ 9223372036854775807 := by have h1 : en ≤ ec := her.1; have h2 : ec ≤ 140737488355328 := her.2.1; omega
  have HPR := Lib.hid hpr
  have HP := Lib.hid hp
  have HAR := Lib.hid har
  have HA := Lib.hid ha
  have HER := Lib.hid her
  have HE := Lib.hid he
  have HJB := Lib.hid hJb
  have HJ := Lib.hid hJ
  have HK := Lib.hid hK
  have HYP := Lib.hid YP
  have HYA := Lib.hid YA
  have HYE := Lib.hid YE
  have HBB := Lib.hid hB
  have HX0 := Lib.hid ((hJb 0 W h0).2)
  have c12 : W.cell? ⟨g, 12, none⟩ = some (.slice pa pn pc) := (hJb 0 W h0).2.cell 12 rfl
  have c13 : W.cell? ⟨g, 13, none⟩ = some (.slice aa an ac) := (hJb 0 W h0).2.cell 13 rfl
  have H0 := Lib.hid h0
  have HKW := Lib.hid hKW
  clear hpr hp har ha her he hJb hJ hK YP YA YE hB h0 hKW hkids hY
  have hx0 := fun w => (index_two (.slice pa pn pc) (.slice aa an ac) w).1
  have hx1 := fun w => (index_two (.slice pa pn pc) (.slice aa an ac) w).2
  refine callsIn_of_wp Tryz.func86 rfl trivial ?_ rfl
  simp only [Tryz.ntmps86, List.size_toArray, List.length_cons, List.length_nil, Nat.reduceAdd, Nat.reduceSub, Array.replicate_succ, Array.replicate_zero, List.push_toArray, List.append_toArray, List.nil_append, List.cons_append]
  gi_wp2_with fail
  gi_loopw [14] (fun jv wr => RelNo 0 pn (pn + an) J K jv wr) (fun jv _ => 2 - (Lib.intOf jv).toNat)
  case atStart => exact .inl ⟨rfl, H0.out, HKW.out⟩
  case round =>
    rcases hrel with ⟨rfl, hj, hk⟩ | ⟨rfl, hj, hk⟩ | ⟨rfl, hj, hk⟩
    · have HJ1 := Lib.hid hj
      have HK1 := Lib.hid hk
      clear hj hk
      obtain ⟨wo, rfl⟩ : ∃ wo : World, wo = wr := ⟨_, rfl⟩
      gi_wp2_with fail
      gi_loopw [19] (fun iv wr => RelNi 0 pn J K iv wr) (fun iv _ => pn - (Lib.intOf iv).toNat)
      case atStart => exact ⟨0, Nat.zero_le _, rfl, HJ1.out, HK1.out⟩
      case round =>
        obtain ⟨i, hi, rfl, hj, hk⟩ := hrel
        by_cases hlt : i < pn
        · have q1 : decide ((i : Int) < (pn : Int)) = true := decide_eq_true (by omega)
          have q1n : decide (i < pn) = true := decide_eq_true hlt
          obtain ⟨gx, ox, hix, hgx, hrd⟩ := pRow_read HPR.out hlt
          have hbw := (HJB.out _ _ hj).1
          have HR := Lib.hid (hrd wr (hbw.block gx (by have := HBB.out; omega)))
          have H1 := Lib.hid (one_pcells (p := pf i) (HP.out i hlt).2)
          have H2 := Lib.hid (one_tcells (HP.out i hlt).2)
          have HX := Lib.hid (Bx.new wr (pcells (pf i) (ptf i)).toArray 42)
          have q3 : IntKind.i64.wrap ((i : Int) + 1) = ((i + 1 : Nat) : Int) := wrap_succ hlt hpn
          obtain ⟨fn, tmps, assign, body, hy, hR⟩ := HYP.out i (wr.alloc (.cells (pcells (pf i) (ptf i)).toArray 42)) hlt (HJ.out _ _ _ hj) (HK.out _ _ (KeepsOthers.alloc _ _) hk)
          have HRR := Lib.hid hR
          clear hR hj hk hbw hrd
          gi_wp2_with (first | (refine wpListIn_store_new rfl 42 (.tmp 6) (.tmp 22) rfl 18 _ (pcells (pf i) (ptf i)) H1.out.1 (by kernel_rfl) info_P H1.out.2 rfl rfl ?_) | (refine wpListIn_load_mid rfl 42 (.tmp 21) rfl gx ox rfl (pcells (pf i) (ptf i)) _ HR.out Tryz.underlying42 rfl (by rw [info_P, H1.out.1]) ?_) | (refine wpListIn_load_mid rfl 39 (.tmp 24) rfl wr.heap.size 1 rfl (ptf i).cells _ HX.out.rangeP Tryz.underlying39 rfl (by rw [info_T, H2.out.1]) ?_))
          refine ⟨fun h => (by cases h), ?_⟩
          refine HRR.out.mono ?_
          rintro e w3 (⟨rfl, h1, h2⟩ | ⟨rfl, h1⟩)
          · have HJ3 := Lib.hid h1
            have HK3 := Lib.hid h2
            clear h1 h2 hy HRR HR HX
            gi_wp2_with fail
            go_roundw
            case rel => exact ⟨i + 1, hlt, rfl, HJ3.out, HK3.out⟩
            case measure => simp only [Lib.intOf]; omega
          · have HZ := Lib.hid h1
            clear h1 hy HRR HR HX
            gi_wp2_with fail
            refine bodyPost_ret (results_none rfl _ _ _) rfl ?_
            exact ⟨⟨_, rfl⟩, .inr HZ.out⟩
        · have q1 : decide ((i : Int) < (pn : Int)) = false := decide_eq_false (by omega)
          have q1n : decide (i < pn) = false := decide_eq_false hlt
          obtain rfl : i = pn := by omega
          have HJ3 := Lib.hid hj
          have HK3 := Lib.hid hk
          clear hj hk
          gi_wp2_with fail
          go_roundw
          case rel => exact .inr (.inl ⟨rfl, by have := HJ3.out; rw [Nat.zero_add] at this; exact this, HK3.out⟩)
          case measure => simp only [Lib.intOf]; decide
    · have HJ1 := Lib.hid hj
      have HK1 := Lib.hid hk
      clear hj hk
      obtain ⟨wo, rfl⟩ : ∃ wo : World, wo = wr := ⟨_, rfl⟩
      gi_wp2_with fail
      gi_loopw [19] (fun iv wr => RelNi pn an J K iv wr) (fun iv _ => an - (Lib.intOf iv).toNat)
      case atStart => exact ⟨0, Nat.zero_le _, rfl, HJ1.out, HK1.out⟩
      case round =>
        obtain ⟨i, hi, rfl, hj, hk⟩ := hrel
        by_cases hlt : i < an
        · have q1 : decide ((i : Int) < (an : Int)) = true := decide_eq_true (by omega)
          have q1n : decide (i < an) = true := decide_eq_true hlt
          obtain ⟨gx, ox, hix, hgx, hrd⟩ := pRow_read HAR.out hlt
          have hbw := (HJB.out _ _ hj).1
          have HR := Lib.hid (hrd wr (hbw.block gx (by have := HBB.out; omega)))
          have H1 := Lib.hid (one_pcells (p := af i) (HA.out i hlt).2)
          have H2 := Lib.hid (one_tcells (HA.out i hlt).2)
          have HX := Lib.hid (Bx.new wr (pcells (af i) (atf i)).toArray 42)
          have q3 : IntKind.i64.wrap ((i : Int) + 1) = ((i + 1 : Nat) : Int) := wrap_succ hlt han
          obtain ⟨fn, tmps, assign, body, hy, hR⟩ := HYA.out i (wr.alloc (.cells (pcells (af i) (atf i)).toArray 42)) hlt (HJ.out _ _ _ hj) (HK.out _ _ (KeepsOthers.alloc _ _) hk)
          have HRR := Lib.hid hR
          clear hR hj hk hbw hrd
          gi_wp2_with (first | (refine wpListIn_store_new rfl 42 (.tmp 6) (.tmp 22) rfl 18 _ (pcells (af i) (atf i)) H1.out.1 (by kernel_rfl) info_P H1.out.2 rfl rfl ?_) | (refine wpListIn_load_mid rfl 42 (.tmp 21) rfl gx ox rfl (pcells (af i) (atf i)) _ HR.out Tryz.underlying42 rfl (by rw [info_P, H1.out.1]) ?_) | (refine wpListIn_load_mid rfl 39 (.tmp 24) rfl wr.heap.size 1 rfl (atf i).cells _ HX.out.rangeP Tryz.underlying39 rfl (by rw [info_T, H2.out.1]) ?_))
          refine ⟨fun h => (by cases h), ?_⟩
          refine HRR.out.mono ?_
          rintro e w3 (⟨rfl, h1, h2⟩ | ⟨rfl, h1⟩)
          · have HJ3 := Lib.hid h1
            have HK3 := Lib.hid h2
            clear h1 h2 hy HRR HR HX
            gi_wp2_with fail
            go_roundw
            case rel => exact ⟨i + 1, hlt, rfl, HJ3.out, HK3.out⟩
            case measure => simp only [Lib.intOf]; omega
          · have HZ := Lib.hid h1
            clear h1 hy HRR HR HX
            gi_wp2_with fail
            refine bodyPost_ret (results_none rfl _ _ _) rfl ?_
            exact ⟨⟨_, rfl⟩, .inr HZ.out⟩
        · have q1 : decide ((i : Int) < (an : Int)) = false := decide_eq_false (by omega)
          have q1n : decide (i < an) = false := decide_eq_false hlt
          obtain rfl : i = an := by omega
          have HJ3 := Lib.hid hj
          have HK3 := Lib.hid hk
          clear hj hk
          gi_wp2_with fail
          go_roundw
          case rel => exact .inr (.inr ⟨rfl, HJ3.out, HK3.out⟩)
          case measure => simp only [Lib.intOf]; decide
    · have HJ1 := Lib.hid hj
      have HK1 := Lib.hid hk
      clear hj hk
      have c14 : wr.cell? ⟨g, 14, none⟩ = some (.slice ea en ec) := (HJB.out _ _ HJ1.out).2.cell 14 rfl
      obtain ⟨wo, rfl⟩ : ∃ wo : World, wo = wr := ⟨_, rfl⟩
      gi_wp2_with fail
      gi_loopw [33] (fun iv wr => RelNi (pn + an) en J K iv wr) (fun iv _ => en - (Lib.intOf iv).toNat)
      case atStart => exact ⟨0, Nat.zero_le _, rfl, HJ1.out, HK1.out⟩
      case round =>
        obtain ⟨i, hi, rfl, hj, hk⟩ := hrel
        by_cases hlt : i < en
        · have q1 : decide ((i : Int) < (en : Int)) = true := decide_eq_true (by omega)
          have q1n : decide (i < en) = true := decide_eq_true hlt
          obtain ⟨gx, ox, hix, hgx, hrd⟩ := tRow_read HER.out hlt
          have hbw := (HJB.out _ _ hj).1
          have HR := Lib.hid (hrd wr (hbw.block gx (by have := HBB.out; omega)))
          have H1 := Lib.hid (one_tcells (HE.out i hlt))
          have HX := Lib.hid (Bx.new wr (etf i).cells.toArray 39)
          have q3 : IntKind.i64.wrap ((i : Int) + 1) = ((i + 1 : Nat) : Int) := wrap_succ hlt hen
          obtain ⟨fn, tmps, assign, body, hy, hR⟩ := HYE.out i (wr.alloc (.cells (etf i).cells.toArray 39)) hlt (HJ.out _ _ _ hj) (HK.out _ _ (KeepsOthers.alloc _ _) hk)
          have HRR := Lib.hid hR
          clear hR hj hk hbw hrd
          gi_wp2_with (first | (refine wpListIn_store_new rfl 39 (.tmp 8) (.tmp 36) rfl 15 _ (etf i).cells H1.out.1 (by kernel_rfl) info_T H1.out.2 rfl rfl ?_) | (refine wpListIn_load_mid rfl 39 (.tmp 35) rfl gx ox rfl (etf i).cells _ HR.out Tryz.underlying39 rfl (by rw [info_T, H1.out.1]) ?_) | (refine wpListIn_load_mid rfl 39 (.tmp 8) rfl wr.heap.size 0 rfl (etf i).cells _ HX.out.range Tryz.underlying39 rfl (by rw [info_T, H1.out.1]) ?_))
          refine ⟨fun h => (by cases h), ?_⟩
          refine HRR.out.mono ?_
          rintro e w3 (⟨rfl, h1, h2⟩ | ⟨rfl, h1⟩)
          · have HJ3 := Lib.hid h1
            have HK3 := Lib.hid h2
            clear h1 h2 hy HRR HR HX
            gi_wp2_with fail
            go_roundw
            case rel => exact ⟨i + 1, hlt, rfl, HJ3.out, HK3.out⟩
            case measure => simp only [Lib.intOf]; omega
          · have HZ := Lib.hid h1
            clear h1 hy HRR HR HX
            gi_wp2_with fail
            refine bodyPost_ret (results_none rfl _ _ _) rfl ?_
            exact ⟨⟨_, rfl⟩, .inr HZ.out⟩
        · have q1 : decide ((i : Int) < (en : Int)) = false := decide_eq_false (by omega)
          have q1n : decide (i < en) = false := decide_eq_false hlt
          obtain rfl : i = en := by omega
          have HJ3 := Lib.hid hj
          have HK3 := Lib.hid hk
          clear hj hk
          gi_wp2_with fail
          go_end0
          exact ⟨⟨_, rfl⟩, .inl ⟨HJ3.out, HK3.out⟩⟩
end Go.Proofs.YtgmnojnalkhepaaGreatDoor

/-
  Package shape: 'depth', 'Depth', 'Type'.
-/
namespace Go.Proofs.YtgmnojnalkhepaaGreatDoor
open Go.RowKit Go.Shelf
set_option linter.unusedVariables false
set_option linter.unusedSimpArgs false
set_option maxRecDepth 100000

attribute [local go_sem] Oper.semAt_some

theorem keeps_below {W W' : World} (h : Below W.heap.size W W') : KeepsOthers W W' := ⟨h.size, fun k o hk _ => (h.block k (Array.getElem?_eq_some_iff.1 hk).1).trans hk⟩
theorem Bx.setOne {W : World} {g : Nat} {v : Value} {t : TypeId} (h : Bx W g #[v] t) (u : Value) : Bx (W.setCell ⟨g, 0, none⟩ u) g #[u] t := one_setCell h
theorem Bx.setOther {W : World} {g k : Nat} {cs : Array Value} {t : TypeId} (h : Bx W g cs t) (u : Value) (hk : g ≠ k) : Bx (W.setCell ⟨k, 0, none⟩ u) g cs t := (Below.heap_setCell W ⟨k, 0, none⟩ u g hk).trans h
/-- what stays while depth runs: its boxes -/
structure Dbox (w : World) (cs : List Value) (m d : Nat) (W : World) : Prop where
  below : Below w.heap.size w W
  most : Bx W (w.heap.size + 1) #[.int .i64 (m : Nat)] 3
  deep : Bx W (w.heap.size + 2) #[.int .i64 (d : Nat)] 3
  it : Bx W (w.heap.size + 3) cs.toArray 39
theorem Dbox.step {w : World} {cs : List Value} {m d : Nat} {W W' : World} (h : Dbox w cs m d W) (hb : Below W.heap.size W W') : Dbox w cs m d W' :=
  ⟨h.below.trans (hb.mono h.below.size), h.most.below hb h.most.lt, h.deep.below hb h.deep.lt, h.it.below hb h.it.lt⟩
theorem Dbox.bk {w : World} {cs : List Value} {m d : Nat} {W : World} (h : Dbox w cs m d W) {l : Nat} {o : Obj} (hl0 : w.heap.size ≤ l) (hl : W.heap[l]? = some o) (hc : o.isCells = false) (o' : Obj) : Dbox w cs m d (W.putObj l o') :=
  ⟨⟨h.below.os, h.below.tape, h.below.output, by simpa using h.below.size, fun k hk => (World.putObj_heap_other (by omega)).trans (h.below.block k hk)⟩, h.most.bk hl hc o', h.deep.bk hl hc o', h.it.bk hl hc o'⟩
theorem Dbox.set {w : World} {cs : List Value} {m d : Nat} {W : World} (h : Dbox w cs m d W) (d' : Nat) : Dbox w cs m d' (W.setCell ⟨w.heap.size + 2, 0, none⟩ (.int .i64 (d' : Nat))) :=
  ⟨⟨h.below.os, h.below.tape, h.below.output, by simpa using h.below.size, fun k hk => (Below.heap_setCell _ _ _ _ (by show k ≠ w.heap.size + 2; omega)).trans (h.below.block k hk)⟩,
    h.most.setOther _ (by omega), h.deep.setOne _, h.it.setOther _ (by omega)⟩
/-- a round's: its type in a box of the round's own -/
def DM (w : World) (t : TT) (m k : Nat) (W : World) : Prop := k < t.kids ∧ Dbox w t.cells m (t.dpt (m - 1) k) W
def DN (w : World) (t : TT) (m k : Nat) (W : World) : Prop := Dbox w t.cells m (t.dpt (m - 1) (k + 1)) W
def DM2 (w : World) (t : TT) (m k : Nat) (a' : Act) (W : World) : Prop := ∃ gi : Nat, DM w t m k W ∧ w.heap.size + 3 < gi ∧ Bx W gi (t.kid k).cells.toArray 39 ∧
  a' = { tmps := #[.agg t.cells.toArray, .int .i64 (m : Nat), .pointer (some ⟨w.heap.size, 0, none⟩), .pointer (some ⟨w.heap.size + 1, 0, none⟩), .int .i64 0, .pointer (some ⟨w.heap.size + 2, 0, none⟩), .pointer (some ⟨gi, 0, none⟩), .agg t.cells.toArray,
    .func (.func 86) #[] #[.pointer (some ⟨w.heap.size + 3, 0, none⟩)], .agg (t.kid k).cells.toArray, undef, undef, undef, undef, undef, undef, undef, undef, undef, undef, undef, undef], defers := [] }
def DX (w : World) (t : TT) (m : Nat) (c : Code) (k : Nat) (W : World) : Prop := c = .exit 0 ∧ Dbox w t.cells m (t.dpt (m - 1) t.kids) W
set_option maxHeartbeats 8000000 in
theorem depth_in (t : TT) (B m : Nat) (w : World) (ht : TIn B w t) (hB : B ≤ w.heap.size) (hm1 : 1 ≤ m) (hm2 : m ≤ 1000)
    (hrec : ∀ k, k < t.kids → ∀ w', Below w.heap.size w w' → 2 ≤ m → Calls Tryz.prog 28 #[.agg (t.kid k).cells.toArray, .int .i64 ((m - 1 : Nat) : Int)] w' fun e w'' => e = .returned (.int .i64 (min (t.kid k).dep (m - 1) : Nat)) ∧ Below w'.heap.size w' w'')
    (n : Nat) (hn : 3 ≤ n) :
    CallsIn Fence.wide n Tryz.prog 28 #[.agg t.cells.toArray, .int .i64 (m : Nat)] w fun e w' => e = .returned (.int .i64 (min t.dep m : Nat)) ∧ Below w.heap.size w w' := by
  obtain ⟨res, hres⟩ : ∃ res, min t.dep m = res := ⟨_, rfl⟩
  rw [hres]
  have HRS := Lib.hid hres
  have HONE := Lib.hid (one_tcells ht)
  have HX := Lib.hid (fun o o' => ((Bx.new w t.cells.toArray 39).alloc o).alloc o')
  have HT := Lib.hid ht
  have HREC := Lib.hid hrec
  have HBB := Lib.hid hB
  have HKID := Lib.hid (fun k hk => one_tcells (ht.kid k hk))
  clear ht hrec hB hres
  refine callsIn_of_wp_marks Tryz.func28 rfl trivial ?_ rfl
  simp only [Tryz.ntmps28, List.size_toArray, List.length_cons, List.length_nil, Nat.reduceAdd, Nat.reduceSub, Array.replicate_succ, Array.replicate_zero, List.push_toArray, List.append_toArray, List.nil_append, List.cons_append]
  gi_wp2_with (refine wpListIn_load_mid rfl 39 (.tmp 2) rfl w.heap.size 0 rfl t.cells _ (HX.out _ _).range Tryz.underlying39 rfl (by rw [info_T, HONE.out.1]) ?_)
  refine ⟨trivial, fun h => (by cases h), ?_⟩
  refine (nested_ok _ _ _).mono ?_
  rintro e' w2 ⟨rfl, rfl⟩
  gi_wp2_with fail
  obtain ⟨W0, hW0⟩ : ∃ W0, (((w.alloc (.cells t.cells.toArray 39)).alloc (.cells #[.int .i64 (m : Nat)] 3)).alloc (.cells #[.int .i64 0] 3)).alloc (.cells t.cells.toArray 39) = W0 := ⟨_, rfl⟩
  have hsz : W0.heap.size = w.heap.size + 4 := by rw [← hW0]; simp
  have hD0 : Dbox w t.cells m (t.dpt (m - 1) 0) W0 := by
    have e : t.dpt (m - 1) 0 = 0 := by simp [TT.dpt, mxN]
    rw [e]
    have c1 := Bx.new (w.alloc (.cells t.cells.toArray 39)) #[.int .i64 (m : Nat)] 3
    have c2 := Bx.new ((w.alloc (.cells t.cells.toArray 39)).alloc (.cells #[.int .i64 (m : Nat)] 3)) #[.int .i64 ((0 : Nat) : Int)] 3
    have c3 := Bx.new (((w.alloc (.cells t.cells.toArray 39)).alloc (.cells #[.int .i64 (m : Nat)] 3)).alloc (.cells #[.int .i64 ((0 : Nat) : Int)] 3)) t.cells.toArray 39
    simp only [World.size_alloc] at c1 c2 c3
    rw [← hW0]
    exact ⟨((((Below.refl _ w).alloc (Nat.le_refl _) _).alloc (by simp) _).alloc (by simp; omega) _).alloc (by simp; omega) _, (c1.alloc _).alloc _, c2.alloc _, c3⟩
  have HW0 := Lib.hid hW0
  simp only [hW0, Nat.add_assoc, Nat.reduceAdd]
  clear hW0
  have HD0 := Lib.hid hD0
  have HSZ := Lib.hid hsz
  clear hD0 hsz HX
  refine rangeFunc_own2 (α := Nat) rfl (by omega) (gf := 86) (lb := #[.pointer (some ⟨w.heap.size + 3, 0, none⟩)]) rfl trivial (enters_of Tryz.func86 (by kernel_rfl) rfl)
    (encs := fun k => #[.agg (t.kid k).cells.toArray]) (fun _ => rfl)
    (fun W => Dbox w t.cells m (t.dpt (m - 1) 0) W) (fun W => Dbox w t.cells m (t.dpt (m - 1) t.kids) W) (fun c W => c = .exit 0 ∧ Dbox w t.cells m (t.dpt (m - 1) t.kids) W)
    (DM w t m) (DN w t m) (DM2 w t m) (DX w t m)
    (fun x W r o o' hr hl hc h => ⟨h.1, h.2.bk (by have := HSZ.out; omega) hl hc o'⟩)
    (fun x W r o o' hr hl hc h => h.bk (by have := HSZ.out; omega) hl hc o')
    (fun x a' W r o o' hr hl hc ⟨gi, h1, h2, h3, h4⟩ => ⟨gi, ⟨h1.1, h1.2.bk (by have := HSZ.out; omega) hl hc o'⟩, h2, h3.bk hl hc o', h4⟩)
    (fun c x W r o o' hr hl hc h => ⟨h.1, h.2.bk (by have := HSZ.out; omega) hl hc o'⟩)
    (fun W r o o' hr hl hc h => h.bk (by have := HSZ.out; omega) hl hc o')
    (fun c W r o o' hr hl hc h => ⟨h.1, h.2.bk (by have := HSZ.out; omega) hl hc o'⟩)
    (fun o o' => HD0.out.step (((Below.refl _ _).alloc (Nat.le_refl _) _).alloc (by simp) _))
    (fun r K Kx W hK hKx hY hI hk => (nested1_ok r (w.heap.size + 3) B w t HBB.out HT.out (fun k W => Dbox w t.cells m (t.dpt (m - 1) k) W) K (fun W => ∃ c, (c = .exit 0 ∧ Dbox w t.cells m (t.dpt (m - 1) t.kids) W) ∧ Kx c W) hK
      (fun k W h => ⟨h.below, h.it⟩) (fun k W o h => h.step ((Below.refl _ _).alloc (Nat.le_refl _) _)) (n - 1)
      (fun k W hk' hm hk2 => (hY k W ⟨hk', hm⟩ hk2).mono (fun e w' h => by
        rcases h with ⟨h1, h2, h3⟩ | ⟨h1, c, h2, h3⟩
        · exact .inl ⟨h1, h2, h3⟩
        · exact .inr ⟨h1, c, h2, h3⟩)) W hI hk).mono (fun e w' h => h))
    ?assign ?body ?done ?stop
  case assign =>
    rintro r k W K ⟨hk, hd⟩ hK
    have H1 := Lib.hid (HKID.out k hk)
    have HD := Lib.hid hd
    have HKK := Lib.hid hK
    have HXN := Lib.hid (Bx.new W (t.kid k).cells.toArray 39)
    clear hd hK
    gi_wp2_with (refine wpListIn_store_new rfl 39 (.tmp 6) (.tmp 9) rfl 15 _ (t.kid k).cells H1.out.1 (by kernel_rfl) info_T H1.out.2 rfl rfl ?_)
    exact HKK.out _ _ (KeepsOthers.alloc _ _) ⟨W.heap.size, ⟨hk, HD.out.step ((Below.refl _ _).alloc (Nat.le_refl _) _)⟩, HD.out.it.lt, HXN.out, rfl⟩
  case body =>
    rintro r k a' W ⟨gi, ⟨hk, hd⟩, hgi, hbx, rfl⟩
    obtain ⟨m1, hm1'⟩ : ∃ m1, m - 1 = m1 := ⟨_, rfl⟩
    have q1 : IntKind.i64.wrap ((m : Int) - 1) = (m1 : Int) := (wrap_ok (x := (m : Int) - 1) (by unfold I64; omega)).trans (by omega)
    have hREC := HREC.out k hk
    simp only [hm1'] at hREC
    unfold DN DX
    rw [hm1'] at hd ⊢
    have HS := Lib.hid (t.dpt_succ m1 k)
    have HA := Lib.hid (t.dpt_all m1 k (by omega))
    have hle := t.dpt_le m1 k
    obtain ⟨d, hdd⟩ : ∃ d, t.dpt m1 k = d := ⟨_, rfl⟩
    rw [hdd] at hd hle HA HS
    have c1 := hd.most.cell 0 rfl
    have c2 := hd.deep.cell 0 rfl
    have HD := Lib.hid hd
    have HM := Lib.hid hm1'
    clear hd hm1' hdd
    by_cases he : d = m1
    · have q2 : ((d : Int) == (m1 : Int)) = true := by rw [he]; simp
      have HE := Lib.hid (HA.out he)
      have HEQ := Lib.hid he
      clear hREC HA HS he
      gi_wp2_with fail
      refine ⟨KeepsOthers.refl _, rfl, ?_⟩
      have h := HD.out
      rw [HE.out, ← HEQ.out]
      exact h
    · have q2 : ((d : Int) == (m1 : Int)) = false := beq_eq_false_iff_ne.2 (by omega)
      obtain ⟨z, hz⟩ : ∃ z, min (t.kid k).dep m1 = z := ⟨_, rfl⟩
      rw [hz] at hREC HS
      have HC := Lib.hid (fun w' hb => hREC w' hb (by have := HM.out; omega))
      have HZ := Lib.hid hz
      clear hREC HA he hz
      have hmx : Tryz.prog.follows .mixedOrders = true := by kernel_rfl
      have hd1 : 1 ≤ n - 1 - 1 := by omega
      obtain ⟨kd', tn', op', lo', hi', lw', hg', ca', cn', cc', cch', ext', fr', sa', sn', sc', sf', ma', mn', mc', mf', pa', pn', pc', pf', ptf', aa', an', ac', af', atf', ea', en', ec', etf', hkd⟩ := (HT.out.kid k hk).open
      have HKD := Lib.hid hkd
      rw [hkd] at HC hbx
      have HX := Lib.hid hbx
      simp only [TT.cells, CT.cells, SL.v, PL.v, List.cons_append, List.nil_append] at HC
      have k0 : W.cell? ⟨gi, 0, none⟩ = some (.int .i64 kd') := hbx.cell 0 rfl
      have k1 : W.cell? ⟨gi, 1, none⟩ = some (.string tn') := hbx.cell 1 rfl
      have k2 : W.cell? ⟨gi, 2, none⟩ = some (.int .i64 op') := hbx.cell 2 rfl
      have k3 : W.cell? ⟨gi, 3, none⟩ = some (.int .i64 lo') := hbx.cell 3 rfl
      have k4 : W.cell? ⟨gi, 4, none⟩ = some (.int .i64 hi') := hbx.cell 4 rfl
      have k5 : W.cell? ⟨gi, 5, none⟩ = some (.bool lw') := hbx.cell 5 rfl
      have k6 : W.cell? ⟨gi, 6, none⟩ = some (.bool hg') := hbx.cell 6 rfl
      have k7 : W.cell? ⟨gi, 7, none⟩ = some (.slice ca' cn' cc') := hbx.cell 7 rfl
      have k8 : W.cell? ⟨gi, 8, none⟩ = some (.bool ext') := hbx.cell 8 rfl
      have k9 : W.cell? ⟨gi, 9, none⟩ = some (.string fr') := hbx.cell 9 rfl
      have k10 : W.cell? ⟨gi, 10, none⟩ = some (.slice sa' sn' sc') := hbx.cell 10 rfl
      have k11 : W.cell? ⟨gi, 11, none⟩ = some (.slice ma' mn' mc') := hbx.cell 11 rfl
      have k12 : W.cell? ⟨gi, 12, none⟩ = some (.slice pa' pn' pc') := hbx.cell 12 rfl
      have k13 : W.cell? ⟨gi, 13, none⟩ = some (.slice aa' an' ac') := hbx.cell 13 rfl
      have k14 : W.cell? ⟨gi, 14, none⟩ = some (.slice ea' en' ec') := hbx.cell 14 rfl
      have HC0 := Lib.hid (HC.out W.drew (Below.drew HD.out.below))
      have HDR := Lib.hid (HD.out.step (Below.drew (Below.refl _ _)))
      clear hkd hbx HC
      gi_wp2_with fail
      gi_region_with_o (refine ⟨trivial, ?_⟩; refine (CallsIn.inRound r (callsIn_wide.2 HC0.out)).mono ?_; rintro e w1 ⟨rfl, hb⟩; have HD1 := Lib.hid (HDR.out.step hb); have c3 := HD1.out.deep.cell 0 rfl; have f3 : w1.frozen? ⟨w.heap.size + 2, 0, none⟩ = false := frozen_of_row w1 (w.heap.size + 2) 0 _ _ HD1.out.deep; have HB1 := Lib.hid hb; clear hb)
      all_goals gi_wp2_with fail
      all_goals refine ⟨(keeps_below ((Below.drew (Below.refl _ _)).trans HB1.out)).trans (KeepsOthers.setCell _ _ _), ?_⟩
      all_goals rw [HS.out, show max (d : Int) (z : Int) = ((max d z : Nat) : Int) by omega]
      all_goals exact HD1.out.set (max d z)
  case done =>
    rintro r W hr hD hK'
    have hle := t.dpt_le (m - 1) t.kids
    have HRES := Lib.hid (show min t.dep m = t.dpt (m - 1) t.kids + 1 by rw [t.dep_eq]; simp only [TT.dpt]; omega)
    obtain ⟨d, hdd⟩ : ∃ d, t.dpt (m - 1) t.kids = d := ⟨_, rfl⟩
    rw [hdd] at hD hle HRES
    obtain rfl : res = d + 1 := HRS.out.symm.trans HRES.out
    have c2 := hD.deep.cell 0 rfl
    have q1 : IntKind.i64.wrap (1 + (d : Int)) = ((d + 1 : Nat) : Int) := (wrap_ok (x := 1 + (d : Int)) (by unfold I64; omega)).trans (by omega)
    have HB := Lib.hid (hD.bk (by have := HSZ.out; omega) hK' rfl (.deferred none)).below
    clear hdd hD HRES
    gi_wp2_with fail
    refine ⟨by simp, .inl ⟨_, _, rfl, run_takeDeferred hK', ?_⟩⟩
    exact ⟨_, results_tmp rfl _ _ _, rfl, HB.out⟩
  case stop =>
    rintro r c W hr ⟨rfl, hD⟩ hK'
    have hle := t.dpt_le (m - 1) t.kids
    have HRES := Lib.hid (show min t.dep m = t.dpt (m - 1) t.kids + 1 by rw [t.dep_eq]; simp only [TT.dpt]; omega)
    obtain ⟨d, hdd⟩ : ∃ d, t.dpt (m - 1) t.kids = d := ⟨_, rfl⟩
    rw [hdd] at hD hle HRES
    obtain rfl : res = d + 1 := HRS.out.symm.trans HRES.out
    have c2 := hD.deep.cell 0 rfl
    have q1 : IntKind.i64.wrap (1 + (d : Int)) = ((d + 1 : Nat) : Int) := (wrap_ok (x := 1 + (d : Int)) (by unfold I64; omega)).trans (by omega)
    have HB := Lib.hid (hD.bk (by have := HSZ.out; omega) hK' rfl (.deferred none)).below
    clear hdd hD HRES
    gi_wp2_with fail
    refine ⟨by simp, .inl ⟨_, _, rfl, run_takeDeferred hK', ?_⟩⟩
    exact ⟨_, results_tmp rfl _ _ _, rfl, HB.out⟩
theorem depth_ok : ∀ (t : TT) (B m : Nat) (w : World), TIn B w t → B ≤ w.heap.size → 1 ≤ m → m ≤ 1000 →
    Calls Tryz.prog 28 #[.agg t.cells.toArray, .int .i64 (m : Nat)] w fun e w' => e = .returned (.int .i64 (min t.dep m : Nat)) ∧ Below w.heap.size w w'
  | .nil, B, m, w, h, _, _, _ => h.elim
  | .mk kind name con ext fr nm mo pa pt ad at_ ea en ec et, B, m, w, h, hB, h1, h2 => by
    have RP := fun i (hi : i < pa.n) (w' : World) (hb : Below w.heap.size w w') (h3 : 2 ≤ m) => depth_ok (pt i) w.heap.size (m - 1) w' ((h.2.1.2 i hi).2.below hb hB) hb.size (by omega) (by omega)
    have RA := fun i (hi : i < ad.n) (w' : World) (hb : Below w.heap.size w w') (h3 : 2 ≤ m) => depth_ok (at_ i) w.heap.size (m - 1) w' ((h.2.2.1.2 i hi).2.below hb hB) hb.size (by omega) (by omega)
    have RE := fun i (hi : i < en) (w' : World) (hb : Below w.heap.size w w') (h3 : 2 ≤ m) => depth_ok (et i) w.heap.size (m - 1) w' ((h.2.2.2.2 i hi).below hb hB) hb.size (by omega) (by omega)
    refine (callsIn_wide (n := 3)).1 (depth_in _ B m w h hB h1 h2 (fun k hk w' hb h3 => ?_) 3 (by omega))
    simp only [TT.kids] at hk
    simp only [TT.kid]
    split
    · exact RP k (by assumption) w' hb h3
    · split
      · exact RA _ (by omega) w' hb h3
      · exact RE _ (by omega) w' hb h3
set_option maxHeartbeats 4000000 in
theorem Depth_ok (t : TT) (B : Nat) (w : World) (ht : TIn B w t) (hB : B ≤ w.heap.size) :
    Calls Tryz.prog 14 #[.agg t.cells.toArray] w fun e w' => e = .returned (.int .i64 (min t.dep 41 : Nat)) ∧ Below w.heap.size w w' := by
  have HONE := Lib.hid (one_tcells ht)
  have HX := Lib.hid (Bx.new w t.cells.toArray 39)
  have HB0 := Lib.hid ((Below.refl w.heap.size w).alloc (Nat.le_refl _) (.cells t.cells.toArray 39))
  have HC := Lib.hid (depth_ok t B 41 _ (ht.below HB0.out hB |>.below (Below.refl _ _) (Nat.le_refl _) |> fun h => (ht.below (HB0.out.mono hB) (Nat.le_refl _))) (Nat.le_trans hB HB0.out.size) (by omega) (by omega))
  obtain ⟨z, hz⟩ : ∃ z, min t.dep 41 = z := ⟨_, rfl⟩
  rw [hz] at HC ⊢
  clear ht hB hz
  go_enter Tryz.func14, Tryz.ntmps14
  go_wp2_with (refine wpList_load_mid rfl 39 (.tmp 1) rfl w.heap.size 0 rfl t.cells _ HX.out.range Tryz.underlying39 rfl (by rw [info_T, HONE.out.1]) ?_)
  refine HC.out.mono ?_
  rintro e w1 ⟨rfl, hb⟩
  have HB1 := Lib.hid (HB0.out.trans (hb.mono HB0.out.size))
  clear hb
  go_wp2_with fail
  go_ret
  exact ⟨rfl, HB1.out⟩
end Go.Proofs.YtgmnojnalkhepaaGreatDoor

/-
  Package shape: 'Type', 'TypeText'.
-/
namespace Go.Proofs.YtgmnojnalkhepaaGreatDoor
open Go.RowKit
set_option linter.unusedVariables false
set_option linter.unusedSimpArgs false
set_option maxRecDepth 100000

/-- is a type well-formed? -/
def TT.okT (t : TT) : Bool := decide (t.dep ≤ 40) && t.ok
set_option maxHeartbeats 4000000 in
theorem Type_ok (t : TT) (B : Nat) (w : World) (hgs : Gs w) (ht : TIn B w t) (hB : B ≤ w.heap.size) :
    Calls Tryz.prog 13 #[.agg t.cells.toArray] w fun e w' => e = .returned (.bool t.okT) ∧ Below w.heap.size w w' := by
  have HONE := Lib.hid (one_tcells ht)
  have HX := Lib.hid (Bx.new w t.cells.toArray 39)
  have HB0 := Lib.hid ((Below.refl w.heap.size w).alloc (Nat.le_refl _) (.cells t.cells.toArray 39))
  have HC := Lib.hid (Depth_ok t B _ (ht.below (HB0.out.mono hB) (Nat.le_refl _)) (Nat.le_trans hB HB0.out.size))
  have HT := Lib.hid (fun (w' : World) (hb : Below w.heap.size w w') => isType_ok t B w' (hgs.below hb) (ht.below (hb.mono hB) (Nat.le_refl _)) (Nat.le_trans hB hb.size))
  have HO := Lib.hid (show t.okT = (decide (min t.dep 41 ≤ 40) && t.ok) by unfold TT.okT; congr 1; exact decide_eq_decide.2 (by omega))
  have HOPEN := Lib.hid ht.open
  obtain ⟨z, hz⟩ : ∃ z, min t.dep 41 = z := ⟨_, rfl⟩
  obtain ⟨k, hk⟩ : ∃ k, t.ok = k := ⟨_, rfl⟩
  obtain ⟨r, hr⟩ : ∃ r, t.okT = r := ⟨_, rfl⟩
  rw [hz] at HC HO
  rw [hk] at HT HO
  rw [hr] at HO ⊢
  unfold TT.v at HT
  clear ht hB hz hk hr hgs
  by_cases h40 : z ≤ 40
  · have q1 : decide ((z : Int) ≤ 40) = true := decide_eq_true (by omega)
    have q1n : decide (z ≤ 40) = true := decide_eq_true h40
    have HRK := Lib.hid (show k = r by rw [HO.out, q1n, Bool.true_and])
    clear HO h40
    go_enter Tryz.func13, Tryz.ntmps13
    go_wp2_with (refine wpList_load_mid rfl 39 (.tmp 1) rfl w.heap.size 0 rfl t.cells _ HX.out.range Tryz.underlying39 rfl (by rw [info_T, HONE.out.1]) ?_)
    refine HC.out.mono ?_
    rintro e w1 ⟨rfl, hb⟩
    have HB1 := Lib.hid (HB0.out.trans (hb.mono HB0.out.size))
    have HX1 := Lib.hid (HX.out.below hb HX.out.lt)
    have HT1 := Lib.hid (HT.out w1 HB1.out)
    obtain ⟨kd', tn', op', lo', hi', lw', hg', ca', cn', cc', cch', ext', fr', sa', sn', sc', sf', ma', mn', mc', mf', pa', pn', pc', pf', ptf', aa', an', ac', af', atf', ea', en', ec', etf', hkd⟩ := HOPEN.out
    rw [hkd] at HX1 HT1
    simp only [TT.cells, CT.cells, SL.v, PL.v, List.cons_append, List.nil_append] at HT1
    have k0 : w1.cell? ⟨w.heap.size, 0, none⟩ = some (.int .i64 kd') := HX1.out.cell 0 rfl
    have k1 : w1.cell? ⟨w.heap.size, 1, none⟩ = some (.string tn') := HX1.out.cell 1 rfl
    have k2 : w1.cell? ⟨w.heap.size, 2, none⟩ = some (.int .i64 op') := HX1.out.cell 2 rfl
    have k3 : w1.cell? ⟨w.heap.size, 3, none⟩ = some (.int .i64 lo') := HX1.out.cell 3 rfl
    have k4 : w1.cell? ⟨w.heap.size, 4, none⟩ = some (.int .i64 hi') := HX1.out.cell 4 rfl
    have k5 : w1.cell? ⟨w.heap.size, 5, none⟩ = some (.bool lw') := HX1.out.cell 5 rfl
    have k6 : w1.cell? ⟨w.heap.size, 6, none⟩ = some (.bool hg') := HX1.out.cell 6 rfl
    have k7 : w1.cell? ⟨w.heap.size, 7, none⟩ = some (.slice ca' cn' cc') := HX1.out.cell 7 rfl
    have k8 : w1.cell? ⟨w.heap.size, 8, none⟩ = some (.bool ext') := HX1.out.cell 8 rfl
    have k9 : w1.cell? ⟨w.heap.size, 9, none⟩ = some (.string fr') := HX1.out.cell 9 rfl
    have k10 : w1.cell? ⟨w.heap.size, 10, none⟩ = some (.slice sa' sn' sc') := HX1.out.cell 10 rfl
    have k11 : w1.cell? ⟨w.heap.size, 11, none⟩ = some (.slice ma' mn' mc') := HX1.out.cell 11 rfl
    have k12 : w1.cell? ⟨w.heap.size, 12, none⟩ = some (.slice pa' pn' pc') := HX1.out.cell 12 rfl
    have k13 : w1.cell? ⟨w.heap.size, 13, none⟩ = some (.slice aa' an' ac') := HX1.out.cell 13 rfl
    have k14 : w1.cell? ⟨w.heap.size, 14, none⟩ = some (.slice ea' en' ec') := HX1.out.cell 14 rfl
    clear hb HC HT HX HX1 HOPEN hkd
    go_wp2_with fail
    refine HT1.out.mono ?_
    rintro e w2 ⟨rfl, hb⟩
    have HB2 := Lib.hid (HB1.out.trans (hb.mono HB1.out.size))
    clear hb
    go_wp2_with fail
    go_ret
    refine ⟨?_, HB2.out⟩
    rw [HRK.out]
    rfl
  · have q1 : decide ((z : Int) ≤ 40) = false := decide_eq_false (by omega)
    have q1n : decide (z ≤ 40) = false := decide_eq_false h40
    obtain rfl : r = false := by rw [HO.out, q1n, Bool.false_and]
    clear HO h40 HT
    go_enter Tryz.func13, Tryz.ntmps13
    go_wp2_with (refine wpList_load_mid rfl 39 (.tmp 1) rfl w.heap.size 0 rfl t.cells _ HX.out.range Tryz.underlying39 rfl (by rw [info_T, HONE.out.1]) ?_)
    refine HC.out.mono ?_
    rintro e w1 ⟨rfl, hb⟩
    have HB1 := Lib.hid (HB0.out.trans (hb.mono HB0.out.size))
    clear hb
    go_wp2_with fail
    go_ret
    exact ⟨rfl, HB1.out⟩
/-- the text of a type, or nothing -/
def TT.text (t : TT) : List UInt8 := if t.okT = true then t.txt else []
set_option maxHeartbeats 4000000 in
theorem typeText_ok (t : TT) (w : World) (hgs : Gs w) (ht : TIn w.heap.size w t) (hq : t.okT = true → TQ t ∧ t.txt.length + 200 ≤ 140737488355328 ∧ t.txt ≠ []) :
    Calls Tryz.prog 12 #[.agg t.cells.toArray] w fun e w' => e = .returned (.string (bs t.text)) ∧ Below w.heap.size w w' := by
  have HONE := Lib.hid (one_tcells ht)
  have HX := Lib.hid (Bx.new w t.cells.toArray 39)
  have HB0 := Lib.hid ((Below.refl w.heap.size w).alloc (Nat.le_refl _) (.cells t.cells.toArray 39))
  have HC := Lib.hid (Type_ok t w.heap.size _ (hgs.below HB0.out) (ht.below HB0.out (Nat.le_refl _)) HB0.out.size)
  have HT := Lib.hid (fun (h : t.okT = true) => typ_ok w hgs t ht (hq h).1)
  obtain ⟨X, hX⟩ : ∃ X, t.txt = X := ⟨_, rfl⟩
  have HTX := Lib.hid (show t.text = if t.okT = true then X else [] by unfold TT.text; rw [hX])
  obtain ⟨R, hR⟩ : ∃ R, t.text = R := ⟨_, rfl⟩
  obtain ⟨k, hk⟩ : ∃ k, t.okT = k := ⟨_, rfl⟩
  rw [hR] at HTX ⊢
  rw [hX] at hq HT
  rw [hk] at HC HT HTX hq
  unfold TT.v at HT
  have HQ := Lib.hid hq
  clear ht hgs hX hR hk hq
  cases k with
  | false =>
    obtain rfl : R = [] := by rw [HTX.out]; rfl
    clear HTX HT HQ
    go_enter Tryz.func12, Tryz.ntmps12
    go_wp2_with (refine wpList_load_mid rfl 39 (.tmp 1) rfl w.heap.size 0 rfl t.cells _ HX.out.range Tryz.underlying39 rfl (by rw [info_T, HONE.out.1]) ?_)
    refine HC.out.mono ?_
    rintro e w1 ⟨rfl, hb⟩
    have HB1 := Lib.hid (HB0.out.trans (hb.mono HB0.out.size))
    clear hb
    go_wp2_with fail
    go_ret
    exact ⟨rfl, HB1.out⟩
  | true =>
    obtain rfl : R = X := by rw [HTX.out]; rfl
    have HL := Lib.hid (HQ.out rfl).2.1
    have HNE := Lib.hid (HQ.out rfl).2.2
    have HW := Lib.hid (HT.out rfl)
    clear HTX HT HQ
    go_enter Tryz.func12, Tryz.ntmps12
    go_wp2_with (refine wpList_load_mid rfl 39 (.tmp 1) rfl w.heap.size 0 rfl t.cells _ HX.out.range Tryz.underlying39 rfl (by rw [info_T, HONE.out.1]) ?_)
    refine HC.out.mono ?_
    rintro e w1 ⟨rfl, hb⟩
    have HB1 := Lib.hid (HB0.out.trans (hb.mono HB0.out.size))
    have HX1 := Lib.hid (fun o => (HX.out.below hb HX.out.lt).alloc o)
    have HWN := Lib.hid (Wr.new w w1 HB1.out.size)
    have HB2 := Lib.hid (HB1.out.alloc HB1.out.size (.cells #[.pointer none, .slice none 0 0] 62))
    clear hb HX HC
    go_wp2_with (refine wpList_load_mid rfl 39 (.tmp 1) rfl w.heap.size 0 rfl t.cells _ (HX1.out _).range Tryz.underlying39 rfl (by rw [info_T, HONE.out.1]) ?_)
    refine (HW.out w1.heap.size [] _ HB2.out HWN.out (by have := HL.out; simp; omega)).mono ?_
    rintro e w2 ha
    have HWR := Lib.hid ha.wr
    have HB3 := Lib.hid (HB2.out.trans ha.2.2.1)
    obtain ⟨rfl, _⟩ := ha
    go_wp2_with fail
    refine (wrString_ok w.heap.size w1.heap.size R w2 (by have := HWR.out; rw [List.nil_append] at this; exact this) HNE.out).mono ?_
    rintro e w3 ⟨rfl, hb⟩
    have HB5 := Lib.hid (HB3.out.trans hb)
    clear hb
    go_wp2_with fail
    go_ret
    exact ⟨rfl, HB5.out⟩
end Go.Proofs.YtgmnojnalkhepaaGreatDoor
