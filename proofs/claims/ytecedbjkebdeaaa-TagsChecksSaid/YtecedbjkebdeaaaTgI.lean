/-
  A region that draws its order: a head in whatever order, what it reads being held all the while; then a tail whose order is forced (the stores). After Derived/OrdersHeld.lean, where what is held must be held behind the stores, too. No program is named.
-/
import Derived.OrdersHeld
import Derived.StillTail
namespace Go.Proofs.Ytecedbjkebdeaaa
open Go
set_option linter.unusedVariables false
set_option linter.unusedSimpArgs false
set_option maxRecDepth 100000

section
variable {P : Program} {ops : Array Oper} {Q : Exit → Act → World → Prop} {md : Region.Mode} {S : World → Prop}
/-- each operation of the head but those of E has one behind it, in the head or first in the tail, that waits for it -/
def sinkE (md : Region.Mode) (ops : Array Oper) (E : Nat → Bool) (n : Nat) : Bool :=
  (List.range n).all fun i => E i || (List.range (n + 1)).any fun j => decide (i < j) && Region.waitsFor md ops j i
theorem tail_waitsE {n : Nat} {E : Nat → Bool} {listed : Array Bool} (hs : sinkE md ops E n = true) (hc : Region.chainB md ops n = true) (hn : n < ops.size) (inv : HeadInv md ops n listed) (hE : ∀ j, E j = true → listed.getD j false = true) :
    ∀ (d i : Nat), n - i = d → i < n → listed.getD i true = false → ∀ t, n ≤ t → t ∉ Region.ready md ops listed := by
  intro d
  induction d using Nat.strongRecOn with
  | _ d ih =>
    intro i hd hi hun t ht hr
    obtain ⟨_, ot, hot, hall⟩ := mem_ready.1 hr
    have htlt : t < ops.size := (Array.getElem?_eq_some_iff.1 hot).1
    by_cases htn : t = n
    · subst htn
      have h1 := List.all_eq_true.1 hs i (List.mem_range.2 hi)
      have hEi : E i = false := Bool.eq_false_iff.2 fun h => by
        have := hE i h
        rw [getD_both hun] at this
        cases this
      rw [hEi, Bool.false_or] at h1
      obtain ⟨j, hj, hj2⟩ := List.any_eq_true.1 h1
      simp only [Bool.and_eq_true, decide_eq_true_eq] at hj2
      obtain ⟨oj, hoj, e, he, hb, hon⟩ := Region.waitsFor_spec hj2.2
      have hjle : j ≤ t := by have := List.mem_range.1 hj; omega
      by_cases hjt : j = t
      · subst hjt
        have : oj = ot := Option.some.inj (hoj.symm.trans hot)
        subst this
        have h2 := hall e he hb
        rw [hon, getD_both hun] at h2
        cases h2
      · cases hl : listed.getD j false with
        | true =>
          have h2 := inv.closed j oj hoj hl e he hb
          rw [hon, getD_both hun] at h2
          cases h2
        | false =>
          have hjs : j < listed.size := by rw [inv.size]; omega
          exact ih (t - j) (by omega) j rfl (by omega) (getD_in hjs hl) t (Nat.le_refl _) hr
    · have h1 := List.all_eq_true.1 hc t (List.mem_range.2 htlt)
      simp only [Bool.or_eq_true, decide_eq_true_eq] at h1
      rcases h1 with h1 | h1
      · omega
      · obtain ⟨o', ho', e, he, hb, hon⟩ := Region.waitsFor_spec h1
        have : o' = ot := Option.some.inj (ho'.symm.trans hot)
        subst this
        have h2 := hall e he hb
        rw [hon, getD_both (inv.tail (t - 1) (by omega) (by omega))] at h2
        cases h2
def wpAnyT (P : Program) (md : Region.Mode) (ops : Array Oper) (Q : Exit → Act → World → Prop) (S : World → Prop) (n : Nat) (L : Array Bool → Act → World → Prop) : Nat → Array Bool → Act → World → Prop
  | 0, listed, a, w => L listed a w
  | f + 1, listed, a, w => Region.ready md ops listed ≠ [] ∧ ∀ i ∈ Region.ready md ops listed, i < n ∧ wpOp P ops Q i (fun a' w' => S w' ∧ wpAnyT P md ops Q S n L f (listed.setIfInBounds i true) a' w') a w
theorem wpAny_of_T {n g : Nat} {L : Array Bool → Act → World → Prop} (hL : ∀ listed a w, L listed a w → wpAny P md ops Q g listed a w) :
    ∀ (f : Nat) (listed : Array Bool) (a : Act) (w : World), wpAnyT P md ops Q S n L f listed a w → wpAny P md ops Q (f + g) listed a w
  | 0, listed, a, w, h => by rw [Nat.zero_add]; exact hL _ _ _ h
  | f + 1, listed, a, w, h => by
    rw [show f + 1 + g = (f + g) + 1 by omega]
    exact ⟨fun h0 => absurd h0 h.1, fun i hi => wpOp_mono (fun a' w' h' => wpAny_of_T hL f _ a' w' h'.2) (h.2 i hi).2⟩
theorem wpAnyT_first {E : Nat → Bool} {n i : Nat} {oi : Oper} {v : Value} {L : Array Bool → Act → World → Prop} (hi : ops[i]? = some oi) (hsel : ∀ (j : Nat) (o : Oper) cs b, ops[j]? = some o → o.op ≠ .select cs b)
    (hs : sinkE md ops E n = true) (hc : Region.chainB md ops n = true) (hn : n < ops.size) (hin : i < n)
    (hQ : ∀ c a w, Q (.panic c) (a.put oi.dst v) w → Q (.panic c) a w)
    (hdone : ∀ listed a w, L listed a w → ∀ j ∈ Region.ready md ops listed, n ≤ j) :
    ∀ (f : Nat) (listed : Array Bool) (a : Act) (w : World), HeadInv md ops n listed → (∀ j, E j = true → listed.getD j false = true) →
      (∀ j oj, ops[j]? = some oj → j ≠ i → listed.getD j true = false → (∀ e ∈ oj.after, Region.binds md e = true → e.on ≠ i) → oi.apart ops oj = true) →
      i ∈ Region.ready md ops listed → YieldsIf P ops S oi v a → S w →
      wpAnyT P md ops Q S n L f (listed.setIfInBounds i true) (a.put oi.dst v) w → wpAnyT P md ops Q S n L (f + 1) listed a w := by
  intro f
  induction f with
  | zero =>
    intro listed a w inv hE _ hr hy hS H
    have hun := (mem_ready.1 hr).1
    refine ⟨fun h => (by rw [h] at hr; cases hr), fun j hj => ?_⟩
    have hjn : j < n := by
      rcases Nat.lt_or_ge j n with h | h
      · exact h
      · exact absurd hj (tail_waitsE hs hc hn inv hE _ i rfl hin hun j h)
    refine ⟨hjn, ?_⟩
    by_cases hji : j = i
    · subst hji; exact hy.wpOp hi hS ⟨hS, H⟩
    · have := hdone _ _ _ H j (ready_mono hj hji)
      omega
  | succ f ih =>
    intro listed a w inv hE hfree hr hy hS H
    have hun := (mem_ready.1 hr).1
    refine ⟨fun h => (by rw [h] at hr; cases hr), fun j hj => ?_⟩
    have hjn : j < n := by
      rcases Nat.lt_or_ge j n with h | h
      · exact h
      · exact absurd hj (tail_waitsE hs hc hn inv hE _ i rfl hin hun j h)
    refine ⟨hjn, ?_⟩
    by_cases hji : j = i
    · subst hji; exact hy.wpOp hi hS ⟨hS, H⟩
    · have h1 := (H.2 j (ready_mono hj hji)).2
      obtain ⟨hjun, oj, hoj, hall⟩ := mem_ready.1 hj
      have hnot : ∀ e ∈ oj.after, Region.binds md e = true → e.on ≠ i := fun e he hb heq => by
        have h1 := hall e he hb
        rw [heq, getD_both hun] at h1
        cases h1
      have h2 := wpOp_putIf hoj (hfree j oj hoj hji hjun hnot) (fun cs b => hsel i oi cs b hi) (fun cs b => hsel j oj cs b hoj) hQ hy h1
      have hfree' : ∀ k ok, ops[k]? = some ok → k ≠ i → (listed.setIfInBounds j true).getD k true = false →
          (∀ e ∈ ok.after, Region.binds md e = true → e.on ≠ i) → oi.apart ops ok = true := fun k ok hk hki hun hno => by
        refine hfree k ok hk hki ?_ hno
        by_cases hjk : j = k
        · subst hjk; exact hjun
        · rw [getD_set_ne true hjk] at hun; exact hun
      refine wpOp_mono (fun a' w' h3 => ⟨h3.2.1, ih (listed.setIfInBounds j true) a' w' (inv.set hj hjn) (fun k hk => getD_set_true (hE k hk)) hfree' (ready_mono hr (Ne.symm hji)) h3.1 h3.2.1 ?_⟩) h2
      rw [Array.setIfInBounds_comm _ _ hji]
      exact h3.2.2
/-- what a head must show of itself, as Bools -/
structure TailOk (md : Region.Mode) (ops : Array Oper) (E : Nat → Bool) (n : Nat) : Prop where
  el : ∀ j, E j = true → j < ops.size
  sel : Region.noSelect ops = true
  lt : n < ops.size
  s : sinkE md ops E n = true
  c : Region.chainB md ops n = true
def headInvB (md : Region.Mode) (ops : Array Oper) (E : Nat → Bool) (n : Nat) (listed : Array Bool) : Bool :=
  ((List.range ops.size).all fun j => !E j || listed.getD j false) && decide (listed.size = ops.size) && ((List.range ops.size).all fun j => match ops[j]? with
    | some oj => !listed.getD j false || oj.after.all (fun e => !Region.binds md e || listed.getD e.on false)
    | none => true) && ((List.range ops.size).all fun t => decide (t < n) || !listed.getD t true)
theorem headInvB_spec {E : Nat → Bool} {n : Nat} {listed : Array Bool} (h : headInvB md ops E n listed = true) : HeadInv md ops n listed := by
  simp only [headInvB, Bool.and_eq_true, decide_eq_true_eq, List.all_eq_true, List.mem_range] at h
  obtain ⟨⟨⟨_, h1⟩, h2⟩, h3⟩ := h
  refine ⟨h1, fun j oj hj hl e he hb => ?_, fun t ht htl => ?_⟩
  · have h4 := h2 j (Array.getElem?_eq_some_iff.1 hj).1
    rw [hj] at h4
    simp only [hl, Bool.not_true, Bool.false_or] at h4
    have h5 := Array.all_eq_true_iff_forall_mem.1 h4 e he
    simpa [hb] using h5
  · have h4 := h3 t htl
    simp only [Bool.or_eq_true, decide_eq_true_eq, Bool.not_eq_true'] at h4
    rcases h4 with h4 | h4
    · omega
    · exact h4
theorem headInvB_E {E : Nat → Bool} (hE : ∀ j, E j = true → j < ops.size) {n : Nat} {listed : Array Bool} (h : headInvB md ops E n listed = true) : ∀ j, E j = true → listed.getD j false = true := by
  simp only [headInvB, Bool.and_eq_true, List.all_eq_true, List.mem_range] at h
  intro j hj
  have := h.1.1.1 j (hE j hj)
  rw [hj] at this
  simpa using this
theorem wpAnyT_take {E : Nat → Bool} {n i f g : Nat} {oi : Oper} {v : Value} {listed : Array Bool} {a : Act} {w : World} {Lq : Act → World → Prop} (hT : TailOk md ops E n) (hi : ops[i]? = some oi) (hin : decide (i < n) = true) (hh : headInvB md ops E n listed = true)
    (hf : Region.free md ops listed i = true) (hr : (Region.ready md ops listed).contains i = true) (hQ : ∀ c a w, Q (.panic c) (a.put oi.dst v) w → Q (.panic c) a w) (hy : YieldsIf P ops S oi v a) (hS : S w)
    (h : wpAnyT P md ops Q S n (fun listed' a' w' => Region.seqB md ops g n listed' = true ∧ Lq a' w') f (listed.setIfInBounds i true) (a.put oi.dst v) w) : wpAnyT P md ops Q S n (fun listed' a' w' => Region.seqB md ops g n listed' = true ∧ Lq a' w') (f + 1) listed a w :=
  wpAnyT_first hi (Region.noSelect_spec hT.sel) hT.s hT.c hT.lt (of_decide_eq_true hin) hQ (fun listed' a' w' (hL : Region.seqB md ops g n listed' = true ∧ Lq a' w') => seqB_ready hL.1) f listed a w (headInvB_spec hh) (headInvB_E hT.el hh) (Region.free_spec hi hf) (by simpa using hr) hy hS h
theorem wpAnyT_all {n f : Nat} {rs : List Nat} {listed : Array Bool} {a : Act} {w : World} {L : Array Bool → Act → World → Prop} (hr : Region.ready md ops listed = rs) (hne : rs ≠ []) (hlt : rs.all (fun i => decide (i < n)) = true)
    (h : ∀ i ∈ rs, wpOp P ops Q i (fun a' w' => S w' ∧ wpAnyT P md ops Q S n L f (listed.setIfInBounds i true) a' w') a w) : wpAnyT P md ops Q S n L (f + 1) listed a w :=
  ⟨fun h0 => hne (hr ▸ h0), fun i hi => ⟨by rw [hr] at hi; exact of_decide_eq_true (List.all_eq_true.1 hlt i hi), h i (hr ▸ hi)⟩⟩
theorem wpOp_value {i : Nat} {o : Oper} {v : Value} {a : Act} {w w' : World} {K : Act → World → Prop} (hi : ops[i]? = some o) (hg : o.guard = none) (hrun : (execOp a.eval o).run P w = .ok (.value v) w') (h : K (a.put o.dst v) w') : wpOp P ops Q i K a w := by
  unfold wpOp
  simp only [hi]
  rw [if_pos (by simp [Region.wanted, hg])]
  refine .inl ?_
  unfold Oper.wp
  rw [hrun]
  exact h
theorem wpOp_law {i : Nat} {o : Oper} {a : Act} {w : World} {K : Act → World → Prop} (hi : ops[i]? = some o) (h : if Region.wanted o (yielded ops a.tmps) = true then Oper.wp P o a w K Q else K (a.put o.dst undef) w) : wpOp P ops Q i K a w := by
  unfold wpOp
  simp only [hi]
  split
  · rename_i hw; rw [if_pos hw] at h; exact .inl h
  · rename_i hw; rw [if_neg hw] at h; exact h
/-- from the middle of a region on: what has come up before is listed -/
theorem wpAny_head {E : Nat → Bool} {a : Act} {w : World} {l : List Oper} {listed : Array Bool} (n f : Nat) (hT : TailOk .any l.toArray E n)
    (h : wpAnyT P .any l.toArray Q S n (fun listed' a' w' => Region.seqB .any l.toArray (l.toArray.size - n) n listed' = true ∧ wpList P l.toArray Q (l.drop n) a' w') f listed a w) : wpAny P .any l.toArray Q (f + (l.toArray.size - n)) listed a w := by
  have hn : n < l.length := by simpa using hT.lt
  have hdl : (l.drop n).length = l.toArray.size - n := by simp
  exact wpAny_of_T (g := l.toArray.size - n) (fun listed a' w' hL => by
    have := wpAny_of_seq (md := .any) (Q' := Q) (l.drop n) n listed a' w' (fun j => by simp [List.getElem?_drop]) (by rw [hdl]; exact hL.1) hL.2
    rwa [hdl] at this) _ _ _ _ h
/-- the same, what is listed and the slot written out -/
theorem wpAnyT_go {E : Nat → Bool} {n f g : Nat} {oi : Oper} {listed : Array Bool} {a : Act} {w : World} {Lq : Act → World → Prop} (i : Nat) (v : Value) (d : Option Tmp) (listed' : Array Bool) (hT : TailOk md ops E n) (hi : ops[i]? = some oi) (hd : oi.dst = d) (hl : listed.setIfInBounds i true = listed') (hin : decide (i < n) = true) (hh : headInvB md ops E n listed = true)
    (hf : Region.free md ops listed i = true) (hr : (Region.ready md ops listed).contains i = true) (hQ : ∀ c a w, Q (.panic c) (a.put d v) w → Q (.panic c) a w) (hy : YieldsIf P ops S oi v a) (hS : S w)
    (h : wpAnyT P md ops Q S n (fun listed' a' w' => Region.seqB md ops g n listed' = true ∧ Lq a' w') f listed' (a.put d v) w) : wpAnyT P md ops Q S n (fun listed' a' w' => Region.seqB md ops g n listed' = true ∧ Lq a' w') (f + 1) listed a w := by
  subst hd
  subst hl
  exact wpAnyT_take hT hi hin hh hf hr hQ hy hS h
theorem wpAny_go {fuel : Nat} {oi : Oper} {listed : Array Bool} {a : Act} {w : World} (i : Nat) (v : Value) (d : Option Tmp) (listed' : Array Bool) (hi : ops[i]? = some oi) (hd : oi.dst = d) (hl : listed.setIfInBounds i true = listed')
    (hs : Region.noSelect ops = true) (hf : Region.free md ops listed i = true) (hr : (Region.ready md ops listed).contains i = true)
    (hQ : ∀ c a w, Q (.panic c) (a.put d v) w → Q (.panic c) a w) (hy : Yields P ops oi v a)
    (h : wpAny P md ops Q fuel listed' (a.put d v) w) : wpAny P md ops Q (fuel + 1) listed a w := by
  subst hd
  subst hl
  exact wpAny_take hi hs hf hr hQ hy h
theorem wpOp_go {o : Oper} {a : Act} {w w' : World} {K : Act → World → Prop} (i : Nat) (v : Value) (d : Option Tmp) (hi : ops[i]? = some o) (hd : o.dst = d) (hg : o.guard = none) (hrun : (execOp a.eval o).run P w = .ok (.value v) w') (h : K (a.put d v) w') : wpOp P ops Q i K a w := by
  subst hd
  exact wpOp_value hi hg hrun h
theorem wpOp_bs {o : Oper} {a : Act} {w w' : World} {K : Act → World → Prop} (i : Nat) (t : TypeId) (x : Operand) (u v : Value) (d : Option Tmp) (hi : ops[i]? = some o) (hd : o.dst = d) (hg : o.guard = none) (ho : o.op = .buildSlice t 1 #[(0, x)]) (hx : a.eval x = u) (hrun : (Instr.buildSlice t 1 #[(0, u)]).run P w = .ok v w') (h : K (a.put d v) w') : wpOp P ops Q i K a w := by
  subst hd
  refine wpOp_value hi hg ?_ h
  simp only [execOp, ho, List.map_toArray, List.map_cons, List.map_nil, hx, Sem.run_bind, hrun]
  rfl
/-- one that may come up alone, or each of two -/
theorem wpAnyT_one {n f : Nat} {listed : Array Bool} {a : Act} {w : World} {L : Array Bool → Act → World → Prop} (i : Nat) (listed' : Array Bool) (hr : Region.ready md ops listed = [i]) (hl : listed.setIfInBounds i true = listed') (hlt : decide (i < n) = true)
    (h : wpOp P ops Q i (fun a' w' => S w' ∧ wpAnyT P md ops Q S n L f listed' a' w') a w) : wpAnyT P md ops Q S n L (f + 1) listed a w := by
  subst hl
  exact ⟨by rw [hr]; simp, fun j hj => by rw [hr, List.mem_singleton] at hj; subst hj; exact ⟨of_decide_eq_true hlt, h⟩⟩
theorem wpAnyT_two {n f : Nat} {listed : Array Bool} {a : Act} {w : World} {L : Array Bool → Act → World → Prop} (i j : Nat) (li lj : Array Bool) (hr : Region.ready md ops listed = [i, j]) (hli : listed.setIfInBounds i true = li) (hlj : listed.setIfInBounds j true = lj) (hlt : (decide (i < n) && decide (j < n)) = true)
    (h1 : wpOp P ops Q i (fun a' w' => S w' ∧ wpAnyT P md ops Q S n L f li a' w') a w) (h2 : wpOp P ops Q j (fun a' w' => S w' ∧ wpAnyT P md ops Q S n L f lj a' w') a w) : wpAnyT P md ops Q S n L (f + 1) listed a w := by
  subst hli
  subst hlj
  simp only [Bool.and_eq_true, decide_eq_true_eq] at hlt
  exact ⟨by rw [hr]; simp, fun k hk => by
    rw [hr] at hk
    simp only [List.mem_cons, List.not_mem_nil, or_false] at hk
    rcases hk with rfl | rfl
    · exact ⟨hlt.1, h1⟩
    · exact ⟨hlt.2, h2⟩⟩
end
end Go.Proofs.Ytecedbjkebdeaaa
