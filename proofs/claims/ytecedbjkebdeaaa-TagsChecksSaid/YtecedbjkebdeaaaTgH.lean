/-
  A region that draws its order: what only reads; one variable that is made; then a tail whose order is forced. No program is named. After Derived/StillTail.lean and Derived/Deep/Quiet.lean: there no variable is made among what may come in any order.
-/
import Derived.StillTail
import Derived.StillTailTactics
import Derived.Deep.Quiet
import Derived.Lib.QuietBelow
import Derived.BigQuiet
import Derived.Deep.MidRow
import Derived.Deep.WholeRow
namespace Go.Proofs.Ytecedbjkebdeaaa
open Go.RowKit Go.Sort
set_option linter.unusedVariables false
set_option linter.unusedSimpArgs false
set_option maxRecDepth 100000

/-- an operation that enters no function -/
def plainOp (o : Oper) : Bool := match o.op with
  | .move _ | .assign _ | .load _ _ | .binOp _ _ _ _ _ | .fieldAddr _ _ _ | .indexAddr _ _ _ | .nilCheck _ => true
  | _ => false
theorem no_enter_bind {P : Program} {α : Type} {s : Sem α} {k : α → Sem Next} {f : FuncId} {args : Array Value} (h : ∀ y w w', (k y).run P w ≠ .ok (.enter f args) w') {w w' : World} : (s >>= k).run P w ≠ .ok (.enter f args) w' := by
  intro hh
  rw [Sem.run_bind] at hh
  cases hr : s.run P w with
  | ok v w2 => rw [hr] at hh; exact h v w2 w' hh
  | halt x w2 => rw [hr] at hh; simp [Result.andThen] at hh
theorem no_enter_v {P : Program} {w w' : World} {s : Sem Value} {f : FuncId} {args : Array Value} : (do pure (.value (← s)) : Sem Next).run P w ≠ .ok (.enter f args) w' :=
  no_enter_bind fun y w w' => by simp
theorem plainOp_spec {P : Program} {o : Oper} (h : plainOp o = true) {ev : Operand → Value} {w w' : World} {f : FuncId} {args : Array Value} : (execOp ev o).run P w ≠ .ok (.enter f args) w' := by
  cases ho : o.op
  all_goals simp only [plainOp, ho] at h
  all_goals try cases h
  all_goals simp only [execOp, ho]
  case move => intro h; simp at h
  case assign => intro h; simp at h
  case load => exact no_enter_v
  case binOp => exact no_enter_v
  case fieldAddr => exact no_enter_v
  case indexAddr => exact no_enter_v
  case nilCheck x =>
    split
    · simp [runtimePanic]
    · simp [runtimePanic]
    · simp [runtimePanic]
    · rename_i name first captured hx
      generalize (first[0]? : Option Value) = y
      split
      · simp [runtimePanic]
      · refine no_enter_bind fun y w w' => no_enter_bind fun z w w' => ?_
        split
        · exact no_enter_bind fun u w w' => by simp
        · simp
      · simp
    · simp

section
variable {P : Program} {ops : Array Oper} {md : Region.Mode} {C : World → Prop}
/-- what an operation yields: number n, the variable; each other, as it does in every world of the class -/
def YG (P : Program) (ops : Array Oper) (C : World → Prop) (n : Nat) (p : Value) (i : Nat) (o : Oper) (v : Value) (a : Act) : Prop :=
  (i = n ∧ v = p ∧ Region.wanted o (yielded ops a.tmps) = true) ∨ (i ≠ n ∧ plainOp o = true ∧ YieldsIn P ops C o v a)
theorem YG.of_same {n i : Nat} {p v : Value} {o : Oper} {a a' : Act} (hy : YG P ops C n p i o v a) (he : execOp a'.eval o = execOp a.eval o) (hw : Region.wanted o (yielded ops a'.tmps) = Region.wanted o (yielded ops a.tmps)) : YG P ops C n p i o v a' := by
  rcases hy with ⟨h1, h2, h3⟩ | ⟨h1, h2, h3⟩
  · exact .inl ⟨h1, h2, hw.trans h3⟩
  · exact .inr ⟨h1, h2, h3.of_same he hw⟩
def stG (P : Program) (ops : Array Oper) (C : World → Prop) (n : Nat) (p : Value) (i : Nat) (K : Act → Prop) (a : Act) : Prop :=
  ∃ o v, ops[i]? = some o ∧ YG P ops C n p i o v a ∧ K (a.put o.dst v)
theorem stG_mono {n i : Nat} {p : Value} {a : Act} {K K' : Act → Prop} (h : ∀ a, K a → K' a) (hh : stG P ops C n p i K a) : stG P ops C n p i K' a := by
  obtain ⟨o, v, h1, h2, h3⟩ := hh
  exact ⟨o, v, h1, h2, h _ h3⟩
theorem stG_put {n i j : Nat} {p : Value} {oi oj : Oper} {v : Value} (hj : ops[j]? = some oj) (hap : oi.apart ops oj = true)
    (hsi : ∀ cs b, oi.op ≠ .select cs b) (hsj : ∀ cs b, oj.op ≠ .select cs b) {K : Act → Prop} {a : Act}
    (hy : YG P ops C n p i oi v a) (h : stG P ops C n p j K (a.put oi.dst v)) :
    stG P ops C n p j (fun a' => YG P ops C n p i oi v a' ∧ K (a'.put oi.dst v)) a := by
  obtain ⟨h1, h2, h3⟩ := Oper.apart_spec hap
  obtain ⟨o, u, ho, hyj, hk⟩ := h
  have e : o = oj := Option.some.inj (ho.symm.trans hj)
  subst e
  refine ⟨o, u, ho, hyj.of_same (execOp_put o hsj a oi.dst v h1).symm (wanted_put o a oi.dst v h1).symm, hy.of_same (execOp_put oi hsi a o.dst u h3) (wanted_put oi a o.dst u h3), ?_⟩
  rw [← Act.put_comm a v u h2]
  exact hk
def wpAnyG (P : Program) (md : Region.Mode) (ops : Array Oper) (C : World → Prop) (n : Nat) (p : Value) (L : Array Bool → Act → Prop) : Nat → Array Bool → Act → Prop
  | 0, listed, a => L listed a
  | f + 1, listed, a => Region.ready md ops listed ≠ [] ∧ ∀ i ∈ Region.ready md ops listed, i < n + 1 ∧ stG P ops C n p i (wpAnyG P md ops C n p L f (listed.setIfInBounds i true)) a
theorem wpAnyG_first {n i : Nat} {p : Value} {oi : Oper} {v : Value} {L : Array Bool → Act → Prop} (hi : ops[i]? = some oi) (hsel : ∀ (j : Nat) (o : Oper) cs b, ops[j]? = some o → o.op ≠ .select cs b)
    (hs : Region.sinkB md ops (n + 1) = true) (hc : Region.chainB md ops (n + 1) = true) (hn : n + 1 < ops.size) (hin : i < n + 1)
    (hdone : ∀ listed a, L listed a → ∀ j ∈ Region.ready md ops listed, n + 1 ≤ j) :
    ∀ (f : Nat) (listed : Array Bool) (a : Act), HeadInv md ops (n + 1) listed →
      (∀ j oj, ops[j]? = some oj → j ≠ i → listed.getD j true = false → (∀ e ∈ oj.after, Region.binds md e = true → e.on ≠ i) → oi.apart ops oj = true) →
      i ∈ Region.ready md ops listed → YG P ops C n p i oi v a →
      wpAnyG P md ops C n p L f (listed.setIfInBounds i true) (a.put oi.dst v) → wpAnyG P md ops C n p L (f + 1) listed a := by
  intro f
  induction f with
  | zero =>
    intro listed a inv _ hr hy H
    have hun := (mem_ready.1 hr).1
    refine ⟨fun h => (by rw [h] at hr; cases hr), fun j hj => ?_⟩
    have hjn : j < n + 1 := by
      rcases Nat.lt_or_ge j (n + 1) with h | h
      · exact h
      · exact absurd hj (tail_waits hs hc hn inv _ i rfl hin hun j h)
    refine ⟨hjn, ?_⟩
    by_cases hji : j = i
    · subst hji; exact ⟨oi, v, hi, hy, H⟩
    · have := hdone _ _ H j (ready_mono hj hji)
      omega
  | succ f ih =>
    intro listed a inv hfree hr hy H
    have hun := (mem_ready.1 hr).1
    refine ⟨fun h => (by rw [h] at hr; cases hr), fun j hj => ?_⟩
    have hjn : j < n + 1 := by
      rcases Nat.lt_or_ge j (n + 1) with h | h
      · exact h
      · exact absurd hj (tail_waits hs hc hn inv _ i rfl hin hun j h)
    refine ⟨hjn, ?_⟩
    by_cases hji : j = i
    · subst hji; exact ⟨oi, v, hi, hy, H⟩
    · have h1 := (H.2 j (ready_mono hj hji)).2
      obtain ⟨hjun, oj, hoj, hall⟩ := mem_ready.1 hj
      have hnot : ∀ e ∈ oj.after, Region.binds md e = true → e.on ≠ i := fun e he hb heq => by
        have h1 := hall e he hb
        rw [heq, getD_both hun] at h1
        cases h1
      have h2 := stG_put hoj (hfree j oj hoj hji hjun hnot) (fun cs b => hsel i oi cs b hi) (fun cs b => hsel j oj cs b hoj) hy h1
      have hfree' : ∀ k ok, ops[k]? = some ok → k ≠ i → (listed.setIfInBounds j true).getD k true = false →
          (∀ e ∈ ok.after, Region.binds md e = true → e.on ≠ i) → oi.apart ops ok = true := fun k ok hk hki hun hno => by
        refine hfree k ok hk hki ?_ hno
        by_cases hjk : j = k
        · subst hjk; exact hjun
        · rw [getD_set_ne true hjk] at hun; exact hun
      refine stG_mono (fun a' h3 => ih (listed.setIfInBounds j true) a' (inv.set hj hjn) hfree' (ready_mono hr (Ne.symm hji)) h3.1 ?_) h2
      rw [Array.setIfInBounds_comm _ _ hji]
      exact h3.2
/-- the head, in the text's order -/
def wpSeqG (P : Program) (ops : Array Oper) (C : World → Prop) (n : Nat) (p : Value) (Q : Act → Prop) : Nat → Nat → Act → Prop
  | 0, _, a => Q a
  | c + 1, k, a => stG P ops C n p k (wpSeqG P ops C n p Q c (k + 1)) a
theorem wpAnyG_lex {n g : Nat} {p : Value} {Lq : Act → Prop} (hsel : Region.noSelect ops = true) (hs : Region.sinkB md ops (n + 1) = true) (hc : Region.chainB md ops (n + 1) = true) (hn : n + 1 < ops.size) :
    ∀ (c k : Nat) (listed : Array Bool) (a : Act), k + c = n + 1 → HeadInv md ops (n + 1) listed →
    Region.lexHead md ops g c k listed = true → wpSeqG P ops C n p Lq c k a →
    wpAnyG P md ops C n p (fun listed' a' => Region.seqB md ops g (n + 1) listed' = true ∧ HeadInv md ops (n + 1) listed' ∧ Lq a') c listed a
  | 0, k, listed, a, hk, inv, hB, h => by
    have : k = n + 1 := by simpa using hk
    subst this
    exact ⟨by simpa [Region.lexHead] using hB, inv, h⟩
  | c + 1, k, listed, a, hk, inv, hB, h => by
    simp only [Region.lexHead, Bool.and_eq_true] at hB
    obtain ⟨⟨hr, hf⟩, hB'⟩ := hB
    have hkn : k < n + 1 := by omega
    have hr' : k ∈ Region.ready md ops listed := by simpa using hr
    obtain ⟨o, v, h0, hy, hK⟩ := h
    exact wpAnyG_first h0 (Region.noSelect_spec hsel) hs hc hn hkn (fun listed' a' hL => seqB_ready hL.1) c listed a inv (Region.free_spec h0 hf) hr' hy
      (wpAnyG_lex hsel hs hc hn c (k + 1) _ _ (by omega) (inv.set hr' hkn) hB' hK)
/-- the world, by whether the variable is made -/
def WG (w0 w1 : World) (n : Nat) (listed : Array Bool) : World := if listed.getD n false = true then w1 else w0
theorem getD_set_self {listed : Array Bool} {i : Nat} (h : listed.getD i true = false) : (listed.setIfInBounds i true).getD i false = true := by
  have hlt : i < listed.size := by
    rcases Nat.lt_or_ge i listed.size with h' | h'
    · exact h'
    · simp [Array.getElem?_eq_none h'] at h
  simp [hlt]
theorem wpAny_of_G {n g : Nat} {p : Value} {w0 w1 : World} {on : Oper} {L : Array Bool → Act → Prop} {Q' : Exit → Act → World → Prop} (h0 : C w0) (h1 : C w1) (hon : ops[n]? = some on)
    (hrun : ∀ a : Act, (execOp a.eval on).run P w0 = .ok (.value p) w1) (hL : ∀ listed a, L listed a → wpAny P md ops Q' g listed a (WG w0 w1 n listed)) :
    ∀ (f : Nat) (listed : Array Bool) (a : Act), wpAnyG P md ops C n p L f listed a → wpAny P md ops Q' (f + g) listed a (WG w0 w1 n listed)
  | 0, listed, a, h => by rw [Nat.zero_add]; exact hL _ _ h
  | f + 1, listed, a, h => by
    rw [show f + 1 + g = (f + g) + 1 by omega]
    refine ⟨fun hr => absurd hr h.1, fun i hi => ?_⟩
    obtain ⟨o, v, ho, hy, hk⟩ := (h.2 i hi).2
    have hun := (mem_ready.1 hi).1
    have ih := wpAny_of_G h0 h1 hon hrun hL f _ _ hk
    unfold wpOp
    simp only [ho]
    rcases hy with ⟨rfl, rfl, hw⟩ | ⟨hne, hpl, ⟨hw, hv⟩ | ⟨hw, rfl⟩⟩
    · have e : on = o := Option.some.inj (hon.symm.trans ho)
      subst e
      have e0 : WG w0 w1 i listed = w0 := by unfold WG; rw [getD_both hun]; rfl
      have e1 : WG w0 w1 i (listed.setIfInBounds i true) = w1 := by unfold WG; rw [getD_set_self hun]; rfl
      rw [if_pos hw, e0]
      rw [e1] at ih
      refine .inl ?_
      unfold Oper.wp
      rw [hrun a]
      exact ih
    · have e1 : WG w0 w1 n (listed.setIfInBounds i true) = WG w0 w1 n listed := by unfold WG; rw [getD_set_ne false hne]
      rw [if_pos hw]
      rw [e1] at ih
      have hC : C (WG w0 w1 n listed) := by unfold WG; split <;> assumption
      generalize WG w0 w1 n listed = W at *
      have h3 := hv W hC
      refine .inl ?_
      unfold Oper.quietAt at h3
      unfold Oper.wp
      have hne := fun f args w' => plainOp_spec (P := P) hpl (ev := a.eval) (w := W) (w' := w') (f := f) (args := args)
      generalize (execOp a.eval o).run P W = r at *
      cases r with
      | ok x w' =>
        cases x <;> simp only [Oper.quietUpon] at h3 <;> simp only [Oper.upon]
        case value u =>
          obtain ⟨e1, e2⟩ := h3
          rw [e1, e2]
          exact ih
        case skip =>
          obtain ⟨e1, e2⟩ := h3
          rw [e1, ← e2]
          exact ih
        case enter f args => exact absurd rfl (hne f args w')
      | halt x w' => simp only [Oper.quietUpon] at h3
    · have e1 : WG w0 w1 n (listed.setIfInBounds i true) = WG w0 w1 n listed := by unfold WG; rw [getD_set_ne false hne]
      rw [e1] at ih
      simp only [hw]
      exact ih
theorem seqG_of_quiet {n : Nat} {p : Value} {on : Oper} {Q : Act → Prop} (hon : ops[n]? = some on) (hg : on.guard = none) : ∀ (l : List Oper) (k : Nat) (a : Act), (∀ j, j < l.length → l[j]? = ops[k + j]?) → k + l.length = n → l.all plainOp = true →
    wpQuiet P ops C (fun a' => Q (a'.put on.dst p)) l a → wpSeqG P ops C n p Q (l.length + 1) k a
  | [], k, a, _, hk, _, h => by
    have : k = n := by simpa using hk
    subst this
    exact ⟨on, p, hon, .inl ⟨rfl, rfl, by simp [Region.wanted, hg]⟩, h⟩
  | o :: l, k, a, hl, hk, hp, h => by
    have h0 : ops[k]? = some o := by simpa using (hl 0 (by simp)).symm
    simp only [List.all_cons, Bool.and_eq_true] at hp
    have hkn : k ≠ n := by simp only [List.length_cons] at hk; omega
    have hq : qOp P ops C k (wpQuiet P ops C (fun a' => Q (a'.put on.dst p)) l) a := by unfold qOp; simp only [h0]; exact h
    obtain ⟨v, hy, hK⟩ := yieldsIn_of_qOp h0 hq
    exact ⟨o, v, h0, .inr ⟨hkn, hp.1, hy⟩, seqG_of_quiet hon hg l (k + 1) _ (fun j hj => by have := hl (j + 1) (by simp; omega); simpa [Nat.add_assoc, Nat.add_comm 1 j] using this) (by simp only [List.length_cons] at hk; omega) hp.2 hK⟩
/-- reads in whatever order, a variable made anywhere among them, then a tail whose order is forced -/
theorem wp_region_new_tail {id : Nat} {Q : Exit → Act → World → Prop} {a : Act} {w : World} {l : List Oper} (n : Nat) (on : Oper) (obj : Obj) (hm : P.follows .mixedOrders = true) (hB : Region.lexTailB .any l.toArray (n + 1) = true) (hpl : (l.take n).all plainOp = true) (hon : l[n]? = some on) (hg : on.guard = none)
    (hrun : ∀ (a : Act) (w : World), (execOp a.eval on).run P w = .ok (.value (.pointer (some ⟨w.heap.size, 0, none⟩))) (w.alloc obj))
    (h : wpQuiet P l.toArray (fun w' => ∃ p : Regrown, w' = grow (redrawn w p.d) p.os) (fun a' => wpList P l.toArray Q (l.drop (n + 1)) (a'.put on.dst (.pointer (some ⟨w.heap.size, 0, none⟩))) (w.alloc obj).drew) (l.take n) a) : (Code.region id l.toArray true).wp P Q a w := by
  simp only [Region.lexTailB, Bool.and_eq_true, decide_eq_true_eq] at hB
  obtain ⟨⟨⟨⟨hsel, hn⟩, hs⟩, hc⟩, hlex⟩ := hB
  have hn' : n + 1 < l.length := by simpa using hn
  have htl : (l.take n).length = n := by simp; omega
  have hdl : (l.drop (n + 1)).length = l.toArray.size - (n + 1) := by simp
  have hon' : l.toArray[n]? = some on := by simpa using hon
  have inv0 : HeadInv .any l.toArray (n + 1) (Array.replicate l.toArray.size false) :=
    ⟨by simp, fun j oj _ hl => (by rw [getD_replicate_false] at hl; cases hl), fun t _ ht => getD_in (by simpa using ht) (getD_replicate_false _ _)⟩
  have C0 : (fun w' => ∃ p : Regrown, w' = grow (redrawn w p.d) p.os) w.drew := ⟨⟨w.drawn + 1, #[]⟩, by rw [grow_empty]; rfl⟩
  have C1 : (fun w' => ∃ p : Regrown, w' = grow (redrawn w p.d) p.os) (w.alloc obj).drew := ⟨⟨w.drawn + 1, #[obj]⟩, rfl⟩
  have hseq := seqG_of_quiet (Q := fun a' => wpList P l.toArray Q (l.drop (n + 1)) a' (w.alloc obj).drew) hon' hg (l.take n) 0 a (fun j hj => by
    have hj' : j < n := by rw [htl] at hj; exact hj
    simp [hj']) (by rw [htl]; omega) hpl h
  rw [htl] at hseq
  have H := wpAnyG_lex (md := .any) (g := l.toArray.size - (n + 1)) hsel hs hc hn (n + 1) 0 _ a (by omega) inv0 hlex hseq
  refine wp_region_any hm ?_
  have := wpAny_of_G (Q' := Q) (g := l.toArray.size - (n + 1)) (w0 := w.drew) (w1 := (w.alloc obj).drew) C0 C1 hon' (fun a => hrun a w.drew) (fun listed a' hL => by
    have hlast : WG w.drew (w.alloc obj).drew n listed = (w.alloc obj).drew := by
      unfold WG
      rw [if_pos]
      cases hu : listed.getD n true with
      | false =>
        exfalso
        have h1 := tail_waits hs hc hn hL.2.1 _ n rfl (by omega) hu (n + 1) (Nat.le_refl _)
        have h2 := hL.1
        have hg1 : l.toArray.size - (n + 1) = (l.toArray.size - (n + 1) - 1) + 1 := by omega
        rw [hg1] at h2
        simp only [Region.seqB, Bool.and_eq_true, decide_eq_true_eq] at h2
        exact h1 (by rw [h2.1]; exact List.mem_cons_self)
      | true =>
        have hlt : n < listed.size := by rw [hL.2.1.size]; omega
        simp [hlt] at hu ⊢
        exact hu
    rw [hlast]
    have := wpAny_of_seq (md := .any) (Q' := Q) (l.drop (n + 1)) (n + 1) listed a' (w.alloc obj).drew (fun j => by simp [List.getElem?_drop]) (by rw [hdl]; exact hL.1) hL.2.2
    rwa [hdl] at this) _ _ _ H
  rw [show n + 1 + (l.toArray.size - (n + 1)) = l.toArray.size by omega] at this
  have e0 : WG w.drew (w.alloc obj).drew n (Array.replicate l.toArray.size false) = w.drew := by unfold WG; rw [getD_replicate_false]; rfl
  rw [e0] at this
  exact this
end
theorem tq_load_mid {P : Program} {C : World → Prop} {a : Act} {o : Oper} {K : Act → Prop} (ty : TypeId) (x : Operand) (ho : o.op = .load ty x) (b off : Nat) (hx : a.eval x = .pointer (some ⟨b, off, none⟩)) (cs : List Value) (d : TypeDesc)
    (hc : ∀ w, C w → w.rangeAt b off cs) (hu : P.underlying ty = some d) (hd : d.isRow = true) (hi : (P.info? ty).map (·.size) = some cs.length) (hk : K (a.put o.dst (.agg cs.toArray))) : o.quiet P a C K :=
  ⟨_, fun w hw => by
    unfold Oper.quietAt execOp
    simp only [ho, hx, Instr.loadAt, Instr.sureAddr, Sem.run_bind, Sem.run_pure, Result.andThen_ok, run_loadVar_mid w b off ty cs d (hc w hw) hu hd hi]
    exact ⟨rfl, rfl⟩, hk⟩
theorem tq_still {P : Program} {ops : Array Oper} {w : World} {Q : Act → Prop} {a : Act} {o : Oper} {rest : List Oper} (hgd : o.guard = none) (ty : TypeId) (x : Operand) (ho : o.op = .load ty x) (b off : Nat) (hx : a.eval x = .pointer (some ⟨b, off, none⟩)) (cs : List Value) (d : TypeDesc)
    (hc : w.rangeAt b off cs) (hu : P.underlying ty = some d) (hd : d.isRow = true) (hi : (P.info? ty).map (·.size) = some cs.length) (hk : wpStill P ops w Q rest (a.put o.dst (.agg cs.toArray))) : wpStill P ops w Q (o :: rest) a := by
  refine wpStill_step fun K hK => ?_
  have hw : Region.wanted o (yielded ops a.tmps) = true := by simp [Region.wanted, hgd]
  rw [if_pos hw]
  unfold Oper.still execOp
  simp only [ho, hx, Instr.loadAt, Instr.sureAddr, Sem.run_bind, Sem.run_pure, Result.andThen_ok, run_loadVar_mid w b off ty cs d hc hu hd hi]
  exact ⟨rfl, hK _ hk⟩
theorem tq_range {w : World} {b off : Nat} {cs : List Value} (h : w.rangeAt b off cs) : ∀ w', (∃ p : Regrown, w' = Go.Sort.grow (redrawn w p.d) p.os) → w'.rangeAt b off cs := by
  rintro w' ⟨p, rfl⟩ j v hv
  exact cell_regrown (h j v hv) p.d p.os
theorem tq_put {l : List Value} {ds : List Deferred} {n : Nat} {v : Value} : (Act.put { tmps := l.toArray, defers := ds } (some n) v) = { tmps := (l.set n v).toArray, defers := ds } := by
  simp [Act.put]
end Go.Proofs.Ytecedbjkebdeaaa
