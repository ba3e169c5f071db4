/-
  The laws of package token: what the program's variables are when a call begins.
-/
import Derived.Test.YthcodmcfkmochaaDoorRows
import Derived.Test.YthcodmcfkmochaaDoorTkA
import Derived.LaidLaws
import Derived.Stop.LaidErr
import Derived.MakeChecks
import Derived.OpenShut
import Derived.HandedShaped
import Derived.Shelf.Vars
import Derived.Lay
namespace Go.Proofs.YthcodmcfkmochaaDoor
open Go.RowKit
set_option linter.unusedVariables false
set_option linter.unusedSimpArgs false
set_option maxRecDepth 100000

theorem laid_mem {P : Program} {W : World} : ∀ {l : List (String × DataW Unit)} {ps : List MemPlace}, DataW.LaidVars P W l ps → ∀ {n : String} {d : DataW Unit}, (n, d) ∈ l →
    ∃ g t cs fuel p, P.globalNamed n = some g ∧ (P.globals[g]?).map (·.type) = some t ∧ W.var? P n = some cs ∧ DataW.trod (fun _ => ()) P W 0 (fun _ => true) false fuel t cs.toList = some (d, p)
  | [], _, _, n, d, hm => by cases hm
  | (n0, d0) :: r, ps, h, n, d, hm => by
    obtain ⟨g, t, cs, fuel, p, q, h1, h2, h3, h4, h5, _⟩ := h
    rcases List.mem_cons.1 hm with e | hm
    · injection e with e1 e2
      subst e1
      subst e2
      exact ⟨g, t, cs, fuel, p, h1, h2, h3, h4⟩
    · exact laid_mem h5 hm
abbrev laidL : List (String × DataW Unit) := Rows.tokenWordsRow.laid
theorem mem_er : ("strconv.ErrRange", Rows.laid_strconv_ErrRange) ∈ laidL := .tail _ (.tail _ (.tail _ (.tail _ (.head _))))
theorem mem_sg : ("spandrel/token.signs", Rows.laid_spandrel_token_signs) ∈ laidL := .tail _ (.tail _ (.tail _ (.tail _ (.tail _ (.tail _ (.head _))))))
theorem gEr : Tryd.prog.globalNamed "strconv.ErrRange" = some 2 := by kernel_rfl
theorem gErT : (Tryd.prog.globals[2]?).map (·.type) = some 47 := by kernel_rfl
theorem gSg : Tryd.prog.globalNamed "spandrel/token.signs" = some 0 := by kernel_rfl
theorem gSgT : (Tryd.prog.globals[0]?).map (·.type) = some 52 := by kernel_rfl
theorem cStr : Tryd.prog.cellsOf 9 = 1 := by kernel_rfl
theorem sg_datum : (Rows.laid_spandrel_token_signs : DataW Unit) = .agg (sgB.map fun b => .lit (.string b.data.toList)) := rfl
theorem er_of {W : World} (h : laidMet Tryd.prog laidL W) : ErAt W := by
  obtain ⟨ps, hv, _, _⟩ := h
  obtain ⟨g, t, cs, fuel, p, hg, ht, hvar, hd⟩ := laid_mem hv mem_er
  obtain rfl := Option.some.inj (gEr.symm.trans hg)
  obtain rfl := Option.some.inj (gErT.symm.trans ht)
  obtain ⟨_, u, v, hcs, _, _⟩ := iface_of_trod Tryd.underlying47 hd
  refine ⟨u, v, (World.var?_cell gEr hvar 0).trans ?_⟩
  rw [← Array.getElem?_toList, hcs]
  rfl
theorem sg_of {W : World} (h : laidMet Tryd.prog laidL W) : SgAt W := by
  obtain ⟨ps, hv, _, _⟩ := h
  obtain ⟨g, t, cs, fuel, p, hg, ht, hvar, hd⟩ := laid_mem hv mem_sg
  obtain rfl := Option.some.inj (gSg.symm.trans hg)
  obtain rfl := Option.some.inj (gSgT.symm.trans ht)
  rw [sg_datum] at hd
  obtain ⟨xs, m, _, hx, _, hn, hel⟩ := DataW.trod_array Tryd.underlying52 hd
  injection hx with hx1 _
  injection hx1 with hx1
  intro i hi
  have he := hel i hi
  rw [cStr, Nat.mul_one] at he
  obtain ⟨y, hy⟩ : ∃ y, xs[i]? = some y := ⟨xs[i]'(by omega), List.getElem?_eq_getElem (by omega)⟩
  rw [hy] at he
  obtain ⟨s, hs1, hs2, _⟩ := DataW.trod_string Tryd.underlying9 he
  have hb : (sgB.map fun b => (DataW.lit (.string b.data.toList) : DataW Unit))[i]? = some y.1 := by
    rw [hx1, List.getElem?_map, hy]
    rfl
  rw [hs2, List.getElem?_map] at hb
  obtain ⟨b, hb1, hb2⟩ := Option.map_eq_some_iff.1 hb
  injection hb2 with hb2
  injection hb2 with hb2
  have hbs : b = s := by
    apply ByteArray.ext
    exact Array.toList_inj.1 hb2
  have hc : cs[i]? = some (.string s) := by
    have h1 : (cs.toList.drop i)[0]? = some (.string s) := by
      have h2 : ((cs.toList.drop i).take 1)[0]? = some (.string s) := by rw [hs1]; rfl
      rw [List.getElem?_take, if_pos (by decide)] at h2
      exact h2
    rw [List.getElem?_drop, Nat.add_zero, Array.getElem?_toList] at h1
    exact h1
  refine (World.var?_cell gSg hvar i).trans (hc.trans ?_)
  rw [List.getD_eq_getElem?_getD, hb1, ← hbs]
  rfl
theorem mx_of {W : World} (h : W.ShapedOpen Tryd.prog) : MxAt W :=
  cell_of_shapedOpen_int (zero := #[.int .i64 0]) (t := 3) h (of_decide_eq_true (by kernel_rfl)) (by kernel_rfl) rfl (by kernel_rfl) (by kernel_rfl) Tryd.underlying3
theorem plainL : (laidL.all fun x => x.2.handleName?.isNone) = true := by kernel_rfl
theorem gl_of {W : World} (h : laidMetH Tryd.prog laidL W) (hs : W.ShapedOpen Tryd.prog) : Gl W := by
  rw [MakeChecks.laidMetH_plain _ _ _ plainL] at h
  exact ⟨sg_of h, er_of h, mx_of hs⟩
/-- a law whose call reads listed variables, in a world whose variables have their shapes -/
theorem handed_laid {H : Type} {enc : TypeId × Value → H} {C : Checked} {os : Os} {f : FuncId} {fn : Func} {s : ChangeSpec} {X : World → Array Value → Prop}
    (hX : ∀ (w w' : World) (args : Array Value), w.heap = w'.heap → X w args → X w' args)
    (own : ownKnob C.prog.godebug = none) (started : os.Started) (noInit : C.prog.inits.idxOf? f = none) (hfn : C.prog.funcs[f]? = some fn)
    (witness : ∃ (w : World) (tape : Tape) (i : Input), w.os = os ∧ (w.forCall tape i).Shaped C.prog ∧ i.vars = [] ∧ Input.okWide C.prog (w.forCall tape i) .any w.heap.size f i ∧
      ((s.pre enc C.prog fn [] false (w.forCall tape i).memory i.args ∧ X (w.forCall tape i).memory i.args) ∧ sizedMet enc C.prog fn (OpenSpec.ofChange s) false (w.forCall tape i).memory i.args) ∧ ({} : Assume).holds C.prog (lone (Frame.enter C.prog f i.args .normal) [] (w.forCall tape i)))
    (contract : ∀ (W : World) (base : Nat) (args : Array Value) (ds gs : List (DataW H)) (before : List MemPlace),
      (∀ (j : Nat) t v, fn.params[j]? = some t → args[j]? = some v → Value.okWide C.prog W .any base t v) →
      DataW.Whole enc C.prog fn.params.toList s.vars false W args.toList ds gs before → X W args → W.ShapedOpen C.prog →
      Calls C.prog f args W fun e W' => ∃ v, e = .returned v ∧ s.post enc C.prog fn false true false false W args v W') :
    ReturnsInHanded {} C os f .any (fun w args => (s.pre enc C.prog fn [] false w args ∧ X w args) ∧ sizedMet enc C.prog fn (OpenSpec.ofChange s) false w args) (s.post enc C.prog fn false true false false) := by
  refine returnsInHanded_of_calls own started noInit witness fun w tape i _ hsh _ hok hpre _ => ?_
  obtain ⟨_, _, _, fn2, hfn2, _, _, _, _, hval⟩ := hok
  obtain rfl : fn2 = fn := Option.some.inj (hfn2.symm.trans hfn)
  obtain ⟨⟨⟨ds, gs, before, hw, _⟩, hx⟩, _⟩ := hpre
  refine (contract (w.forCall tape i) w.heap.size i.args ds gs before hval (DataW.Whole.of_heap (w' := w.forCall tape i) (by rfl) hw) (hX _ _ _ (by rfl) hx) hsh).mono fun e W' ⟨v, he, hp⟩ => ?_
  subst he
  exact ChangeSpec.post_blind hp
theorem own : ownKnob Tryd.prog.godebug = none := by kernel_rfl
theorem laidOut : laidOutB Tryd.prog = true := by kernel_rfl
theorem laid_world (os : Os) (args : Array Value) : laidMetH Tryd.prog laidL ((World.laidAll Tryd.prog os laidL).forCall (fun _ _ => 0) ⟨#[], args, []⟩).memory := by
  rw [MakeChecks.laidMetH_plain _ _ _ plainL]
  exact laidMet_laidAll _ (by kernel_rfl) (by kernel_rfl)
end Go.Proofs.YthcodmcfkmochaaDoor
