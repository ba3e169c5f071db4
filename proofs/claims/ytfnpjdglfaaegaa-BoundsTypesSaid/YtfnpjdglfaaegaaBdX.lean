/-
  A law's arguments within reach, in a program without listed variables.
-/
import Derived.Test.YtfnpjdglfaaegaaRows
import Derived.Test.YtfnpjdglfaaegaaBdW
import Derived.Test.YtfnpjdglfaaegaaShO
import Derived.OpenShut
namespace Go.Proofs.Ytfnpjdglfaaegaa
open Go.RowKit Go.ChangeShapes Go.WideShapes Go.Deep
set_option linter.unusedVariables false
set_option linter.unusedSimpArgs false
set_option maxRecDepth 100000

/-! ### pure: the ends of a right list; levels that are enough -/
theorem ends_says {r : List Rg} (h : rgt r) (h0 : 0 < r.length) : hasB r (eLo r) = true ∧ hasB r (eHi r) = true ∧ ∀ n, mem r n → eLo r ≤ n ∧ n ≤ eHi r := by
  have e1 : eLo r = r[0]!.1 := by unfold eLo; rw [if_neg (by omega)]
  have e2 : eHi r = r[r.length - 1]!.2 := by unfold eHi; rw [if_neg (by omega)]
  rcases snoc_cases r with rfl | ⟨i, k, rfl⟩
  · simp at h0
  · have hk : (i ++ [k])[(i ++ [k]).length - 1]! = k := by simp
    rw [hk] at e2
    have h1 := rgt_append.1 h
    have hkk := h.2 k (by simp)
    refine ⟨?_, ?_, fun n hn => ⟨?_, ?_⟩⟩
    · rw [hasB_iff, e1]
      have hm : (i ++ [k])[0]! ∈ i ++ [k] := by rw [getElem!_pos _ 0 h0]; exact List.getElem_mem h0
      exact ⟨_, hm, Int.le_refl _, h.2 _ hm⟩
    · rw [hasB_iff, e2]
      exact ⟨k, by simp, hkk, Int.le_refl _⟩
    · rw [e1]
      obtain ⟨x, l, hx⟩ : ∃ x l, i ++ [k] = x :: l := by cases i <;> simp
      rw [hx] at h hn ⊢
      exact h.lo hn
    · rw [e2]
      rcases mem_append.1 hn with ⟨s, hs, _, h3⟩ | h2
      · have := h1.2.2 s hs k (by simp)
        omega
      · exact (mem_one.1 h2).2
theorem allN_congr {f g : Nat → Bool} {n : Nat} (h : ∀ i, i < n → f i = g i) : allN f n = allN g n := by
  induction n with
  | zero => rfl
  | succ n ih => simp only [allN]; rw [ih (fun i hi => h i (by omega)), h n (by omega)]
theorem anyN_congr {f g : Nat → Bool} {n : Nat} (h : ∀ i, i < n → f i = g i) : anyN f n = anyN g n := by
  unfold anyN
  rw [allN_congr (fun i hi => by rw [h i hi])]
theorem adm_deep : ∀ (c : CT) (k j : Nat) (x : Int), c.sz ≤ k → c.sz ≤ j → adm c k x = adm c j x
  | .nil, _, _, _, _, _ => by simp [adm]
  | .mk op lo hi low high a n cap ch, k, j, x, hk, hj => by
    rw [CT.sz_mk] at hk hj
    obtain ⟨k, rfl⟩ : ∃ k', k = k' + 1 := ⟨k - 1, by omega⟩
    obtain ⟨j, rfl⟩ : ∃ j', j = j' + 1 := ⟨j - 1, by omega⟩
    have hc : ∀ i, i < n → adm (ch i) k x = adm (ch i) j x := fun i hi => by
      have := sz_child (ch := ch) hi
      exact adm_deep (ch i) k j x (by omega) (by omega)
    simp only [adm]
    have e1 : anyN (fun i => adm (ch i) k x) n = anyN (fun i => adm (ch i) j x) n := anyN_congr hc
    have e2 : allN (fun i => adm (ch i) k x) n = allN (fun i => adm (ch i) j x) n := allN_congr hc
    have e3 : allN (fun i => adm (ch i) k x == decide (i = 0)) n = allN (fun i => adm (ch i) j x == decide (i = 0)) n := allN_congr (fun i hi => by rw [hc i hi])
    rw [e1, e2, e3]
/-- what two let in together, both, the one without the other -/
theorem adm_two (op : Int) (g : Nat) (c d : CT) (x : Int) (hc : c.sz ≤ 39) (hd : d.sz ≤ 39) (k : Nat) (hk : k = 40) :
    (op = 2 → (adm (.mk op 0 0 false false (some ⟨g, 0, none⟩) 2 2 (fun i => if i = 0 then c else d)) k x = true ↔ adm c 40 x = true ∨ adm d 40 x = true)) ∧
    (op = 3 → (adm (.mk op 0 0 false false (some ⟨g, 0, none⟩) 2 2 (fun i => if i = 0 then c else d)) k x = true ↔ adm c 40 x = true ∧ adm d 40 x = true)) ∧
    (op = 4 → (adm (.mk op 0 0 false false (some ⟨g, 0, none⟩) 2 2 (fun i => if i = 0 then c else d)) k x = true ↔ adm c 40 x = true ∧ ¬ adm d 40 x = true)) := by
  subst hk
  rw [adm_deep c 40 39 x (by omega) hc, adm_deep d 40 39 x (by omega) hd]
  refine ⟨?_, ?_, ?_⟩
  · rintro rfl
    rw [adm_union, anyN_iff]
    constructor
    · rintro ⟨i, hi, h⟩
      match i, hi with
      | 0, _ => exact .inl h
      | 1, _ => exact .inr h
    · rintro (h | h)
      · exact ⟨0, by omega, h⟩
      · exact ⟨1, by omega, h⟩
  · rintro rfl
    rw [adm_meet, allN_iff]
    constructor
    · exact fun h => ⟨h 0 (by omega), h 1 (by omega)⟩
    · rintro ⟨h1, h2⟩ i hi
      match i, hi with
      | 0, _ => exact h1
      | 1, _ => exact h2
  · rintro rfl
    rw [adm_except, allN_iff]
    constructor
    · intro h
      refine ⟨by simpa using h 0 (by omega), ?_⟩
      simpa using h 1 (by omega)
    · rintro ⟨h1, h2⟩ i hi
      match i, hi with
      | 0, _ => simpa using h1
      | 1, _ => simpa using h2
theorem two_sz (op : Int) (g : Nat) (c d : CT) : (CT.mk op 0 0 false false (some ⟨g, 0, none⟩) 2 2 (fun i => if i = 0 then c else d)).sz = 1 + (c.sz + d.sz) := by
  simp [CT.sz, sumN]
theorem handed_light {H : Type} {enc : TypeId × Value → H} {a : Assume} {C : Checked} {os : Os} {f : FuncId} {fn : Func} {s : ChangeSpec} {conds : List PathCond} {apart fresh handsOn again : Bool}
    (own : ownKnob C.prog.godebug = none) (started : os.Started) (noInit : C.prog.inits.idxOf? f = none) (hfn : C.prog.funcs[f]? = some fn)
    (witness : ∃ (w : World) (tape : Tape) (i : Input), w.os = os ∧ (w.forCall tape i).Shaped C.prog ∧ i.vars = [] ∧ Input.okWide C.prog (w.forCall tape i) .any w.heap.size f i ∧
      s.pre6 enc C.prog fn conds apart (w.forCall tape i).memory i.args ∧ a.holds C.prog (lone (Frame.enter C.prog f i.args .normal) [] (w.forCall tape i)))
    (contract : ∀ (W : World) (base : Nat) (args : Array Value) (ds gs : List (DataW H)) (before : List MemPlace),
      (∀ (j : Nat) t v, fn.params[j]? = some t → args[j]? = some v → Value.okWide C.prog W .any base t v) →
      DataW.Whole enc C.prog fn.params.toList s.vars apart W args.toList ds gs before →
      (∀ n ∈ DataW.weightsEach C.prog (fn.params.toList ++ (OpenSpec.ofChange s).bare.plain.varTypes C.prog) (ds ++ gs), n ≤ reachBytes) →
      Calls C.prog f args W fun e W' => ∃ v, e = .returned v ∧ s.post enc C.prog fn apart fresh handsOn again W args v W') :
    ReturnsInHanded a C os f .any (s.pre6 enc C.prog fn conds apart) (s.post enc C.prog fn apart fresh handsOn again) := by
  refine returnsInHanded_of_calls own started noInit witness fun w tape i _ _ _ hok hpre _ => ?_
  obtain ⟨_, _, _, fn2, hfn2, _, _, _, _, hval⟩ := hok
  obtain rfl : fn2 = fn := Option.some.inj (hfn2.symm.trans hfn)
  obtain ⟨_, ⟨_, ds, gs, before, hw, hall⟩⟩ := hpre
  refine (contract (w.forCall tape i) w.heap.size i.args ds gs before hval (DataW.Whole.of_heap (w' := w.forCall tape i) (by rfl) hw) (fun n hn => of_decide_eq_true (List.all_eq_true.1 hall n hn))).mono fun e W' ⟨v, he, hp⟩ => ?_
  subst he
  exact ChangeSpec.post_blind hp
end Go.Proofs.Ytfnpjdglfaaegaa
