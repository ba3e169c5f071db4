/-
  Proved: the statement TagsTwins, for every input; no further condition; ahead of it what its walk rests on.
-/
import Derived.Test.YtidpbchlnbmgoaaTgAw
import Derived.Test.YtidpbchlnbmgoaaRows
import Derived.Test.YtidpbchlnbmgoaaShO
import Derived.OpenShut
import Derived.ProofKit
import Derived.ShutString
import Derived.ChangeOld
/-
  Package tags' laws: a type twice.
-/
namespace Go.Proofs.Ytidpbchlnbmgoaa
open Go.RowKit Go.Maps Go.WideElems Go.ChangeMaps Go.MapKept Go.Shelf
set_option linter.unusedVariables false
set_option linter.unusedSimpArgs false
set_option maxRecDepth 100000

/-- a type twice: in a sequence, the first optional; in a choice -/
def twS (g : Nat) (t : TT) : TT := two g 8 (pd ⟨#[97]⟩ true) (pd ⟨#[98]⟩ false) t t
def twH (g : Nat) (t : TT) : TT := two g 10 (pd ⟨#[98]⟩ false) (pd ⟨#[99]⟩ false) t t
def twE (au : Bool) (t : TT) : ET := ⟨⟨#[77]⟩, ⟨#[65]⟩, au, t⟩
theorem twS_in {B : Nat} {W : World} {g : Nat} {t : TT} {v0 v1 v2 v3 v4 v5 v6 v7 v8 v9 v10 v11 v12 v13 v14 : Value} (hcs : t.cells = [v0, v1, v2, v3, v4, v5, v6, v7, v8, v9, v10, v11, v12, v13, v14]) (ht : TIn B W t) (h : Bx W g #[.string ⟨#[97]⟩, v0, v1, v2, v3, v4, v5, v6, v7, v8, v9, v10, v11, v12, v13, v14, .bool true, .slice none 0 0, .string ⟨#[98]⟩, v0, v1, v2, v3, v4, v5, v6, v7, v8, v9, v10, v11, v12, v13, v14, .bool false, .slice none 0 0] 45) (hg : g < B) : TIn B W (twS g t) :=
  two_in h (by unfold pcells; rw [hcs]; rfl) hg (i64_s _ (by omega)) (pd_in _ _ _ _ (by decide)) (pd_in _ _ _ _ (by decide)) ht ht
theorem twH_in {B : Nat} {W : World} {g : Nat} {t : TT} {v0 v1 v2 v3 v4 v5 v6 v7 v8 v9 v10 v11 v12 v13 v14 : Value} (hcs : t.cells = [v0, v1, v2, v3, v4, v5, v6, v7, v8, v9, v10, v11, v12, v13, v14]) (ht : TIn B W t) (h : Bx W g #[.string ⟨#[98]⟩, v0, v1, v2, v3, v4, v5, v6, v7, v8, v9, v10, v11, v12, v13, v14, .bool false, .slice none 0 0, .string ⟨#[99]⟩, v0, v1, v2, v3, v4, v5, v6, v7, v8, v9, v10, v11, v12, v13, v14, .bool false, .slice none 0 0] 45) (hg : g < B) : TIn B W (twH g t) :=
  two_in h (by unfold pcells; rw [hcs]; rfl) hg (i64_s _ (by omega)) (pd_in _ _ _ _ (by decide)) (pd_in _ _ _ _ (by decide)) ht ht
theorem twS_no {l : EL} {g : Nat} {t : TT} {x : Int} (h : Tg l false t x) : ¬ Rt l (twS g t) := fun hr => rt_two_no (two_opt _ _ _ _ _ rfl) hr x ⟨h, h⟩
theorem twH_no {l : EL} {g : Nat} {t : TT} {x : Int} (h : Tg l false t x) : ¬ Rt l (twH g t) := fun hr => rt_two_no (two_choice _ _ _ _ _) hr x ⟨h, h⟩
theorem TagL.some {l : EL} {a : Bool} {t : TT} {xs : List Int} (h : TagL l a t xs) (hn : xs.length ≠ 0) : ∃ x, Tg l a t x := by
  cases xs with
  | nil => exact absurd rfl hn
  | cons x r => exact ⟨x, (h.2 x).1 List.mem_cons_self⟩
/-- the blocks of the law: s is the world's size ahead of them -/
structure Tw (au : Bool) (t : TT) (cs : Array Value) (g s : Nat) (V : Array Value × Array Value) (W : World) : Prop where
  bt : Bx W g cs 35
  b3 : Bx W (s + 3) V.1 45
  b4 : Bx W (s + 4) (twE au (twS (s + 3) t)).cells.toArray 38
  b5 : Bx W (s + 5) V.2 45
  b6 : Bx W (s + 6) (twE au (twH (s + 5) t)).cells.toArray 38
theorem Tw.step {au : Bool} {t : TT} {cs : Array Value} {g s : Nat} {V : Array Value × Array Value} {W W' : World} (h : Tw au t cs g s V W) (hb : Below W.heap.size W W') : Tw au t cs g s V W' :=
  ⟨h.bt.below hb h.bt.lt, h.b3.below hb h.b3.lt, h.b4.below hb h.b4.lt, h.b5.below hb h.b5.lt, h.b6.below hb h.b6.lt⟩
/-- what the calls answer there -/
theorem Tw.calls {au : Bool} {t : TT} {g s : Nat} {v0 v1 v2 v3 v4 v5 v6 v7 v8 v9 v10 v11 v12 v13 v14 : Value} {W : World} (h : Tw au t #[v0, v1, v2, v3, v4, v5, v6, v7, v8, v9, v10, v11, v12, v13, v14] g s (#[.string ⟨#[97]⟩, v0, v1, v2, v3, v4, v5, v6, v7, v8, v9, v10, v11, v12, v13, v14, .bool true, .slice none 0 0, .string ⟨#[98]⟩, v0, v1, v2, v3, v4, v5, v6, v7, v8, v9, v10, v11, v12, v13, v14, .bool false, .slice none 0 0], #[.string ⟨#[98]⟩, v0, v1, v2, v3, v4, v5, v6, v7, v8, v9, v10, v11, v12, v13, v14, .bool false, .slice none 0 0, .string ⟨#[99]⟩, v0, v1, v2, v3, v4, v5, v6, v7, v8, v9, v10, v11, v12, v13, v14, .bool false, .slice none 0 0]) W) (hcs : t.cells = [v0, v1, v2, v3, v4, v5, v6, v7, v8, v9, v10, v11, v12, v13, v14]) (ht : TIn W.heap.size W t) (hz : t.sz ≤ 1000) :
    (Calls Try.prog 9 #[.slice (some ⟨s + 4, 0, none⟩) 1 1] W fun r w' => (∃ z : Int, r = .returned (.int .i64 z) ∧ ((z = 0 ∧ (au = false → Rt (el1 (s + 4) (twE au (twS (s + 3) t))) (twS (s + 3) t))) ∨ (z = 8 ∧ ¬ (au = false → Rt (el1 (s + 4) (twE au (twS (s + 3) t))) (twS (s + 3) t))))) ∧ Below W.heap.size W w') ∧
    (Calls Try.prog 9 #[.slice (some ⟨s + 6, 0, none⟩) 1 1] W fun r w' => (∃ z : Int, r = .returned (.int .i64 z) ∧ ((z = 0 ∧ (au = false → Rt (el1 (s + 6) (twE au (twH (s + 5) t))) (twH (s + 5) t))) ∨ (z = 8 ∧ ¬ (au = false → Rt (el1 (s + 6) (twE au (twH (s + 5) t))) (twH (s + 5) t))))) ∧ Below W.heap.size W w') ∧
    (Calls Try.prog 13 #[.slice (some ⟨s + 4, 0, none⟩) 1 1, .bool false, .agg #[v0, v1, v2, v3, v4, v5, v6, v7, v8, v9, v10, v11, v12, v13, v14]] W fun e w' => ∃ v xs, e = .returned v ∧ w'.ownsRow W.heap.size 3 1 v xs.length (xs.map (Value.int .i64)) ∧ TagL (el1 (s + 4) (twE au (twS (s + 3) t))) false t xs ∧ Below W.heap.size W w') ∧
    (Calls Try.prog 13 #[.slice (some ⟨s + 6, 0, none⟩) 1 1, .bool false, .agg #[v0, v1, v2, v3, v4, v5, v6, v7, v8, v9, v10, v11, v12, v13, v14]] W fun e w' => ∃ v xs, e = .returned v ∧ w'.ownsRow W.heap.size 3 1 v xs.length (xs.map (Value.int .i64)) ∧ TagL (el1 (s + 6) (twE au (twH (s + 5) t))) false t xs ∧ Below W.heap.size W w') := by
  have h1 := twS_in hcs ht h.b3 h.b3.lt
  have h2 := twH_in hcs ht h.b5 h.b5.lt
  have z1 := two_sz (s + 3) 8 (pd ⟨#[97]⟩ true) (pd ⟨#[98]⟩ false) t t
  have z2 := two_sz (s + 5) 10 (pd ⟨#[98]⟩ false) (pd ⟨#[99]⟩ false) t t
  have hw := t.wid_le
  have e : (Value.agg #[v0, v1, v2, v3, v4, v5, v6, v7, v8, v9, v10, v11, v12, v13, v14]) = .agg t.cells.toArray := by rw [hcs]
  have o1 := el1_ok (B := W.heap.size) (e := twE au (twS (s + 3) t)) h.b4 rfl h.b4.lt (by show (1 : Nat) ≤ _; omega) (by show (1 : Nat) ≤ _; omega) h1
  have o2 := el1_ok (B := W.heap.size) (e := twE au (twH (s + 5) t)) h.b6 rfl h.b6.lt (by show (1 : Nat) ≤ _; omega) (by show (1 : Nat) ≤ _; omega) h2
  refine ⟨check1 (e := twE au (twS (s + 3) t)) h.b4 rfl (by show (1 : Nat) ≤ _; omega) (by show (1 : Nat) ≤ _; omega) h1 (by show (two _ _ _ _ _ _).sz ≤ _; omega), check1 (e := twE au (twH (s + 5) t)) h.b6 rfl (by show (1 : Nat) ≤ _; omega) (by show (1 : Nat) ≤ _; omega) h2 (by show (two _ _ _ _ _ _).sz ≤ _; omega), ?_, ?_⟩
  · rw [e]
    exact Of_ok W _ false t o1 ht (by show 1 ≤ _; omega) (fun p hp => by show (two _ _ _ _ _ _).wid ≤ _; omega) (by omega)
  · rw [e]
    exact Of_ok W _ false t o2 ht (by show 1 ≤ _; omega) (fun p hp => by show (two _ _ _ _ _ _).wid ≤ _; omega) (by omega)
end Go.Proofs.Ytidpbchlnbmgoaa

/-
  A law's arguments within reach, in a program without listed variables.
-/
namespace Go.Proofs.Ytidpbchlnbmgoaa
open Go.RowKit Go.ChangeShapes Go.WideShapes Go.Deep
set_option linter.unusedVariables false
set_option linter.unusedSimpArgs false
set_option maxRecDepth 100000

theorem handed_light {H : Type} {enc : TypeId × Value → H} {a : Assume} {C : Checked} {os : Os} {f : FuncId} {fn : Func} {s : ChangeSpec} {conds : List PathCond} {apart fresh handsOn again : Bool}
    (own : ownKnob C.prog.godebug = none) (started : os.Started) (noInit : C.prog.inits.idxOf? f = none) (hfn : C.prog.funcs[f]? = some fn)
    (witness : ∃ (w : World) (tape : Tape) (i : Input), w.os = os ∧ (w.forCall tape i).Shaped C.prog ∧ i.vars = [] ∧ Input.okWide C.prog (w.forCall tape i) .any w.heap.size f i ∧
      s.pre6 enc C.prog fn conds apart (w.forCall tape i).memory i.args ∧ a.holds C.prog (lone (Frame.enter C.prog f i.args .normal) [] (w.forCall tape i)))
    (contract : ∀ (W : World) (base : Nat) (args : Array Value) (ds gs : List (DataW H)) (before : List MemPlace),
      (∀ (j : Nat) t v, fn.params[j]? = some t → args[j]? = some v → Value.okWide C.prog W .any base t v) →
      DataW.Whole enc C.prog fn.params.toList s.vars apart W args.toList ds gs before →
      (∀ n ∈ DataW.weightsEach C.prog (fn.params.toList ++ (OpenSpec.ofChange s).bare.plain.varTypes C.prog) (ds ++ gs), n ≤ reachBytes) →
      Calls C.prog f args W fun e W' => ∃ v, e = .returned v ∧ s.post enc C.prog fn apart fresh handsOn again W args v W') :
    ReturnsInHanded a C os f .any (s.pre6 enc C.prog fn conds apart) (s.post enc C.prog fn apart fresh handsOn again) := by
  refine returnsInHanded_of_calls own started noInit witness fun w tape i _ _ _ hok hpre _ => ?_
  obtain ⟨_, _, _, fn2, hfn2, _, _, _, _, hval⟩ := hok
  obtain rfl : fn2 = fn := Option.some.inj (hfn2.symm.trans hfn)
  obtain ⟨_, ⟨_, ds, gs, before, hw, hall⟩⟩ := hpre
  refine (contract (w.forCall tape i) w.heap.size i.args ds gs before hval (DataW.Whole.of_heap (w' := w.forCall tape i) (by rfl) hw) (fun n hn => of_decide_eq_true (List.all_eq_true.1 hall n hn))).mono fun e W' ⟨v, he, hp⟩ => ?_
  subst he
  exact ChangeSpec.post_blind hp
end Go.Proofs.Ytidpbchlnbmgoaa

/-
  Proved: the statement TagsTwins (a part that may be left out, ahead of one of the same type that has a tag, is not apart from it, but where tags are automatic; nor are two alternatives of one type), for every input; no further condition.
-/
namespace Go.Proofs.Ytidpbchlnbmgoaa.tagsTwins
open Go.ChangeShapes Go.WideShapes Go.ChangeAt Go.RowKit
open Go.ChangeMaps (open_string shut_string)
set_option linter.unusedVariables false
set_option linter.unusedSimpArgs false
set_option maxRecDepth 100000

theorem own : ownKnob Try.prog.godebug = none := by kernel_rfl
theorem laidOut : laidOutB Try.prog = true := by kernel_rfl

set_option maxHeartbeats 16000000 in
theorem walk (w : World) (x0 : TT) (hx0 : TIn w.heap.size w x0) (a1 : Bool) :
    Calls Try.prog 6 #[.agg x0.cells.toArray, .bool a1] w fun e w' => e = .returned (.bool true) ∧ Below w.heap.size w w' := by
  obtain ⟨t, ht⟩ : ∃ t, x0 = t := ⟨_, rfl⟩
  rw [ht] at hx0 ⊢
  have HTI := Lib.hid hx0
  obtain ⟨v0, v1, v2, v3, v4, v5, v6, v7, v8, v9, v10, v11, v12, v13, v14, hcs⟩ := list15 t.cells (one_tcells hx0).1
  have HCS := Lib.hid hcs
  have HX := Lib.hid (Bx.new w #[v0, v1, v2, v3, v4, v5, v6, v7, v8, v9, v10, v11, v12, v13, v14] 35)
  have HB := Lib.hid ((Below.refl w.heap.size w).alloc (Nat.le_refl _) (.cells #[v0, v1, v2, v3, v4, v5, v6, v7, v8, v9, v10, v11, v12, v13, v14] 35))
  rw [hcs]
  clear hx0 hcs ht
  go_enter Try.func6, Try.ntmps6
  go_wp2_with fail
  generalize w.alloc (.cells #[v0, v1, v2, v3, v4, v5, v6, v7, v8, v9, v10, v11, v12, v13, v14] 35) = W0 at *
  obtain ⟨g, hg0⟩ : ∃ g, w.heap.size = g := ⟨_, rfl⟩
  have HG := Lib.hid hg0
  rw [hg0] at HX ⊢
  clear hg0
  refine (awake13_ok _).mono ?_
  rintro e wA ⟨rfl, h2⟩
  have HX_1 := Lib.hid (HX.out.below h2 HX.out.lt)
  have HB_1 := Lib.hid (HB.out.trans (h2.mono HB.out.size))
  clear h2 HX HB
  have hcf := Few_ok t w.heap.size 60 wA (HTI.out.below HB_1.out (Nat.le_refl _)) HB_1.out.size (by omega) (by omega)
  obtain ⟨b, hb⟩ : ∃ b, decide (0 ≤ t.few 60) = b := ⟨_, rfl⟩
  have HBF := Lib.hid hb
  rw [hb, HCS.out] at hcf
  have HC := Lib.hid hcf
  clear hb hcf
  have HR := Lib.hid (show wA.rangeAt g 0 [v0, v1, v2, v3, v4, v5, v6, v7, v8, v9, v10, v11, v12, v13, v14] from HX_1.out.range)
  cases b with
  | false =>
    go_wp2_with (refine wpList_load_mid rfl 35 (.tmp 2) rfl g 0 rfl [v0, v1, v2, v3, v4, v5, v6, v7, v8, v9, v10, v11, v12, v13, v14] _ HR.out Try.underlying35 rfl (by rw [info_T]; rfl) ?_)
    refine HC.out.mono ?_
    rintro e wB ⟨rfl, h2⟩
    have HB_2 := Lib.hid (HB_1.out.trans (h2.mono HB_1.out.size))
    clear h2
    go_wp2_with fail
    go_ret
    exact ⟨rfl, by first | exact HB_2.out | (rw [← HG.out]; exact HB_2.out)⟩
  | true =>
  have HSM := Lib.hid (few_small (x := 60) HTI.out (of_decide_eq_true HBF.out) (by omega)).1
  go_wp2_with (refine wpList_load_mid rfl 35 (.tmp 2) rfl g 0 rfl [v0, v1, v2, v3, v4, v5, v6, v7, v8, v9, v10, v11, v12, v13, v14] _ HR.out Try.underlying35 rfl (by rw [info_T]; rfl) ?_)
  refine HC.out.mono ?_
  rintro e wB ⟨rfl, h2⟩
  have HX_2 := Lib.hid (HX_1.out.below h2 HX_1.out.lt)
  have HB_2 := Lib.hid (HB_1.out.trans (h2.mono HB_1.out.size))
  clear h2 HX_1 HB_1 HC HR
  have HR0 := Lib.hid (show wB.rangeAt g 0 [v0, v1, v2, v3, v4, v5, v6, v7, v8, v9, v10, v11, v12, v13, v14] from HX_2.out.range)
  have HR1 := Lib.hid (show ∀ o, (wB.alloc o).rangeAt g 0 [v0, v1, v2, v3, v4, v5, v6, v7, v8, v9, v10, v11, v12, v13, v14] from fun o => (HX_2.out.alloc o).range)
  have HR2 := Lib.hid (show ∀ o o', ((wB.alloc o).alloc o').rangeAt g 0 [v0, v1, v2, v3, v4, v5, v6, v7, v8, v9, v10, v11, v12, v13, v14] from fun o o' => ((HX_2.out.alloc o).alloc o').range)
  have b0 := Bx.new wB #[.string ⟨#[97]⟩, v0, v1, v2, v3, v4, v5, v6, v7, v8, v9, v10, v11, v12, v13, v14, .bool true, .slice none 0 0] 45
  have b1 := Bx.new (wB.alloc (.cells #[.string ⟨#[97]⟩, v0, v1, v2, v3, v4, v5, v6, v7, v8, v9, v10, v11, v12, v13, v14, .bool true, .slice none 0 0] 45)) #[.string ⟨#[98]⟩, v0, v1, v2, v3, v4, v5, v6, v7, v8, v9, v10, v11, v12, v13, v14, .bool false, .slice none 0 0] 45
  have b2 := Bx.new ((wB.alloc (.cells #[.string ⟨#[97]⟩, v0, v1, v2, v3, v4, v5, v6, v7, v8, v9, v10, v11, v12, v13, v14, .bool true, .slice none 0 0] 45)).alloc (.cells #[.string ⟨#[98]⟩, v0, v1, v2, v3, v4, v5, v6, v7, v8, v9, v10, v11, v12, v13, v14, .bool false, .slice none 0 0] 45)) #[.string ⟨#[99]⟩, v0, v1, v2, v3, v4, v5, v6, v7, v8, v9, v10, v11, v12, v13, v14, .bool false, .slice none 0 0] 45
  have b3 := Bx.new (((wB.alloc (.cells #[.string ⟨#[97]⟩, v0, v1, v2, v3, v4, v5, v6, v7, v8, v9, v10, v11, v12, v13, v14, .bool true, .slice none 0 0] 45)).alloc (.cells #[.string ⟨#[98]⟩, v0, v1, v2, v3, v4, v5, v6, v7, v8, v9, v10, v11, v12, v13, v14, .bool false, .slice none 0 0] 45)).alloc (.cells #[.string ⟨#[99]⟩, v0, v1, v2, v3, v4, v5, v6, v7, v8, v9, v10, v11, v12, v13, v14, .bool false, .slice none 0 0] 45)) #[.string ⟨#[97]⟩, v0, v1, v2, v3, v4, v5, v6, v7, v8, v9, v10, v11, v12, v13, v14, .bool true, .slice none 0 0, .string ⟨#[98]⟩, v0, v1, v2, v3, v4, v5, v6, v7, v8, v9, v10, v11, v12, v13, v14, .bool false, .slice none 0 0] 45
  have b4 := Bx.new ((((wB.alloc (.cells #[.string ⟨#[97]⟩, v0, v1, v2, v3, v4, v5, v6, v7, v8, v9, v10, v11, v12, v13, v14, .bool true, .slice none 0 0] 45)).alloc (.cells #[.string ⟨#[98]⟩, v0, v1, v2, v3, v4, v5, v6, v7, v8, v9, v10, v11, v12, v13, v14, .bool false, .slice none 0 0] 45)).alloc (.cells #[.string ⟨#[99]⟩, v0, v1, v2, v3, v4, v5, v6, v7, v8, v9, v10, v11, v12, v13, v14, .bool false, .slice none 0 0] 45)).alloc (.cells #[.string ⟨#[97]⟩, v0, v1, v2, v3, v4, v5, v6, v7, v8, v9, v10, v11, v12, v13, v14, .bool true, .slice none 0 0, .string ⟨#[98]⟩, v0, v1, v2, v3, v4, v5, v6, v7, v8, v9, v10, v11, v12, v13, v14, .bool false, .slice none 0 0] 45)) #[.string ⟨#[77]⟩, .string ⟨#[65]⟩, .bool a1, .int .i64 8, .string ⟨#[]⟩, .int .i64 0, .int .i64 0, .int .i64 0, .bool false, .bool false, .slice none 0 0, .bool false, .string ⟨#[]⟩, .slice none 0 0, .slice none 0 0, .slice (some ⟨wB.heap.size + 3, 0, none⟩) 2 2, .slice none 0 0, .slice none 0 0] 38
  have b5 := Bx.new (((((wB.alloc (.cells #[.string ⟨#[97]⟩, v0, v1, v2, v3, v4, v5, v6, v7, v8, v9, v10, v11, v12, v13, v14, .bool true, .slice none 0 0] 45)).alloc (.cells #[.string ⟨#[98]⟩, v0, v1, v2, v3, v4, v5, v6, v7, v8, v9, v10, v11, v12, v13, v14, .bool false, .slice none 0 0] 45)).alloc (.cells #[.string ⟨#[99]⟩, v0, v1, v2, v3, v4, v5, v6, v7, v8, v9, v10, v11, v12, v13, v14, .bool false, .slice none 0 0] 45)).alloc (.cells #[.string ⟨#[97]⟩, v0, v1, v2, v3, v4, v5, v6, v7, v8, v9, v10, v11, v12, v13, v14, .bool true, .slice none 0 0, .string ⟨#[98]⟩, v0, v1, v2, v3, v4, v5, v6, v7, v8, v9, v10, v11, v12, v13, v14, .bool false, .slice none 0 0] 45)).alloc (.cells #[.string ⟨#[77]⟩, .string ⟨#[65]⟩, .bool a1, .int .i64 8, .string ⟨#[]⟩, .int .i64 0, .int .i64 0, .int .i64 0, .bool false, .bool false, .slice none 0 0, .bool false, .string ⟨#[]⟩, .slice none 0 0, .slice none 0 0, .slice (some ⟨wB.heap.size + 3, 0, none⟩) 2 2, .slice none 0 0, .slice none 0 0] 38)) #[.string ⟨#[98]⟩, v0, v1, v2, v3, v4, v5, v6, v7, v8, v9, v10, v11, v12, v13, v14, .bool false, .slice none 0 0, .string ⟨#[99]⟩, v0, v1, v2, v3, v4, v5, v6, v7, v8, v9, v10, v11, v12, v13, v14, .bool false, .slice none 0 0] 45
  have b6 := Bx.new ((((((wB.alloc (.cells #[.string ⟨#[97]⟩, v0, v1, v2, v3, v4, v5, v6, v7, v8, v9, v10, v11, v12, v13, v14, .bool true, .slice none 0 0] 45)).alloc (.cells #[.string ⟨#[98]⟩, v0, v1, v2, v3, v4, v5, v6, v7, v8, v9, v10, v11, v12, v13, v14, .bool false, .slice none 0 0] 45)).alloc (.cells #[.string ⟨#[99]⟩, v0, v1, v2, v3, v4, v5, v6, v7, v8, v9, v10, v11, v12, v13, v14, .bool false, .slice none 0 0] 45)).alloc (.cells #[.string ⟨#[97]⟩, v0, v1, v2, v3, v4, v5, v6, v7, v8, v9, v10, v11, v12, v13, v14, .bool true, .slice none 0 0, .string ⟨#[98]⟩, v0, v1, v2, v3, v4, v5, v6, v7, v8, v9, v10, v11, v12, v13, v14, .bool false, .slice none 0 0] 45)).alloc (.cells #[.string ⟨#[77]⟩, .string ⟨#[65]⟩, .bool a1, .int .i64 8, .string ⟨#[]⟩, .int .i64 0, .int .i64 0, .int .i64 0, .bool false, .bool false, .slice none 0 0, .bool false, .string ⟨#[]⟩, .slice none 0 0, .slice none 0 0, .slice (some ⟨wB.heap.size + 3, 0, none⟩) 2 2, .slice none 0 0, .slice none 0 0] 38)).alloc (.cells #[.string ⟨#[98]⟩, v0, v1, v2, v3, v4, v5, v6, v7, v8, v9, v10, v11, v12, v13, v14, .bool false, .slice none 0 0, .string ⟨#[99]⟩, v0, v1, v2, v3, v4, v5, v6, v7, v8, v9, v10, v11, v12, v13, v14, .bool false, .slice none 0 0] 45)) #[.string ⟨#[77]⟩, .string ⟨#[65]⟩, .bool a1, .int .i64 10, .string ⟨#[]⟩, .int .i64 0, .int .i64 0, .int .i64 0, .bool false, .bool false, .slice none 0 0, .bool false, .string ⟨#[]⟩, .slice none 0 0, .slice none 0 0, .slice (some ⟨wB.heap.size + 5, 0, none⟩) 2 2, .slice none 0 0, .slice none 0 0] 38
  simp only [World.size_alloc, Nat.add_assoc, Nat.reduceAdd] at b0 b1 b2 b3 b4 b5 b6
  have hbw : Below wB.heap.size wB (((((((wB.alloc (.cells #[.string ⟨#[97]⟩, v0, v1, v2, v3, v4, v5, v6, v7, v8, v9, v10, v11, v12, v13, v14, .bool true, .slice none 0 0] 45)).alloc (.cells #[.string ⟨#[98]⟩, v0, v1, v2, v3, v4, v5, v6, v7, v8, v9, v10, v11, v12, v13, v14, .bool false, .slice none 0 0] 45)).alloc (.cells #[.string ⟨#[99]⟩, v0, v1, v2, v3, v4, v5, v6, v7, v8, v9, v10, v11, v12, v13, v14, .bool false, .slice none 0 0] 45)).alloc (.cells #[.string ⟨#[97]⟩, v0, v1, v2, v3, v4, v5, v6, v7, v8, v9, v10, v11, v12, v13, v14, .bool true, .slice none 0 0, .string ⟨#[98]⟩, v0, v1, v2, v3, v4, v5, v6, v7, v8, v9, v10, v11, v12, v13, v14, .bool false, .slice none 0 0] 45)).alloc (.cells #[.string ⟨#[77]⟩, .string ⟨#[65]⟩, .bool a1, .int .i64 8, .string ⟨#[]⟩, .int .i64 0, .int .i64 0, .int .i64 0, .bool false, .bool false, .slice none 0 0, .bool false, .string ⟨#[]⟩, .slice none 0 0, .slice none 0 0, .slice (some ⟨wB.heap.size + 3, 0, none⟩) 2 2, .slice none 0 0, .slice none 0 0] 38)).alloc (.cells #[.string ⟨#[98]⟩, v0, v1, v2, v3, v4, v5, v6, v7, v8, v9, v10, v11, v12, v13, v14, .bool false, .slice none 0 0, .string ⟨#[99]⟩, v0, v1, v2, v3, v4, v5, v6, v7, v8, v9, v10, v11, v12, v13, v14, .bool false, .slice none 0 0] 45)).alloc (.cells #[.string ⟨#[77]⟩, .string ⟨#[65]⟩, .bool a1, .int .i64 10, .string ⟨#[]⟩, .int .i64 0, .int .i64 0, .int .i64 0, .bool false, .bool false, .slice none 0 0, .bool false, .string ⟨#[]⟩, .slice none 0 0, .slice none 0 0, .slice (some ⟨wB.heap.size + 5, 0, none⟩) 2 2, .slice none 0 0, .slice none 0 0] 38)) := ((((((((Below.refl wB.heap.size wB).alloc (Nat.le_refl _) _).alloc (by simp) _).alloc (by simp; omega) _).alloc (by simp; omega) _).alloc (by simp; omega) _).alloc (by simp; omega) _).alloc (by simp; omega) _)
  have H1A := Lib.hid (show ([.string ⟨#[97]⟩, v0, v1, v2, v3, v4, v5, v6, v7, v8, v9, v10, v11, v12, v13, v14, .bool true, .slice none 0 0] : List Value).length = 18 ∧ ∀ v ∈ ([.string ⟨#[97]⟩, v0, v1, v2, v3, v4, v5, v6, v7, v8, v9, v10, v11, v12, v13, v14, .bool true, .slice none 0 0] : List Value), v.oneCell' = true from by
    have h := one_pcells (p := pd ⟨#[97]⟩ true) HTI.out
    unfold pcells at h
    rw [HCS.out] at h
    exact h)
  have H1B := Lib.hid (show ([.string ⟨#[98]⟩, v0, v1, v2, v3, v4, v5, v6, v7, v8, v9, v10, v11, v12, v13, v14, .bool false, .slice none 0 0] : List Value).length = 18 ∧ ∀ v ∈ ([.string ⟨#[98]⟩, v0, v1, v2, v3, v4, v5, v6, v7, v8, v9, v10, v11, v12, v13, v14, .bool false, .slice none 0 0] : List Value), v.oneCell' = true from by
    have h := one_pcells (p := pd ⟨#[98]⟩ false) HTI.out
    unfold pcells at h
    rw [HCS.out] at h
    exact h)
  have H1C := Lib.hid (show ([.string ⟨#[99]⟩, v0, v1, v2, v3, v4, v5, v6, v7, v8, v9, v10, v11, v12, v13, v14, .bool false, .slice none 0 0] : List Value).length = 18 ∧ ∀ v ∈ ([.string ⟨#[99]⟩, v0, v1, v2, v3, v4, v5, v6, v7, v8, v9, v10, v11, v12, v13, v14, .bool false, .slice none 0 0] : List Value), v.oneCell' = true from by
    have h := one_pcells (p := pd ⟨#[99]⟩ false) HTI.out
    unfold pcells at h
    rw [HCS.out] at h
    exact h)
  have R6 := Lib.hid (show (((wB.alloc (.cells #[.string ⟨#[97]⟩, v0, v1, v2, v3, v4, v5, v6, v7, v8, v9, v10, v11, v12, v13, v14, .bool true, .slice none 0 0] 45)).alloc (.cells #[.string ⟨#[98]⟩, v0, v1, v2, v3, v4, v5, v6, v7, v8, v9, v10, v11, v12, v13, v14, .bool false, .slice none 0 0] 45)).alloc (.cells #[.string ⟨#[99]⟩, v0, v1, v2, v3, v4, v5, v6, v7, v8, v9, v10, v11, v12, v13, v14, .bool false, .slice none 0 0] 45)).rangeAt wB.heap.size 0 [.string ⟨#[97]⟩, v0, v1, v2, v3, v4, v5, v6, v7, v8, v9, v10, v11, v12, v13, v14, .bool true, .slice none 0 0] from ((b0.alloc _).alloc _).range)
  have R7 := Lib.hid (show (((wB.alloc (.cells #[.string ⟨#[97]⟩, v0, v1, v2, v3, v4, v5, v6, v7, v8, v9, v10, v11, v12, v13, v14, .bool true, .slice none 0 0] 45)).alloc (.cells #[.string ⟨#[98]⟩, v0, v1, v2, v3, v4, v5, v6, v7, v8, v9, v10, v11, v12, v13, v14, .bool false, .slice none 0 0] 45)).alloc (.cells #[.string ⟨#[99]⟩, v0, v1, v2, v3, v4, v5, v6, v7, v8, v9, v10, v11, v12, v13, v14, .bool false, .slice none 0 0] 45)).rangeAt (wB.heap.size + 1) 0 [.string ⟨#[98]⟩, v0, v1, v2, v3, v4, v5, v6, v7, v8, v9, v10, v11, v12, v13, v14, .bool false, .slice none 0 0] from (b1.alloc _).range)
  have S7 := Lib.hid (show (((((wB.alloc (.cells #[.string ⟨#[97]⟩, v0, v1, v2, v3, v4, v5, v6, v7, v8, v9, v10, v11, v12, v13, v14, .bool true, .slice none 0 0] 45)).alloc (.cells #[.string ⟨#[98]⟩, v0, v1, v2, v3, v4, v5, v6, v7, v8, v9, v10, v11, v12, v13, v14, .bool false, .slice none 0 0] 45)).alloc (.cells #[.string ⟨#[99]⟩, v0, v1, v2, v3, v4, v5, v6, v7, v8, v9, v10, v11, v12, v13, v14, .bool false, .slice none 0 0] 45)).alloc (.cells #[.string ⟨#[97]⟩, v0, v1, v2, v3, v4, v5, v6, v7, v8, v9, v10, v11, v12, v13, v14, .bool true, .slice none 0 0, .string ⟨#[98]⟩, v0, v1, v2, v3, v4, v5, v6, v7, v8, v9, v10, v11, v12, v13, v14, .bool false, .slice none 0 0] 45)).alloc (.cells #[.string ⟨#[77]⟩, .string ⟨#[65]⟩, .bool a1, .int .i64 8, .string ⟨#[]⟩, .int .i64 0, .int .i64 0, .int .i64 0, .bool false, .bool false, .slice none 0 0, .bool false, .string ⟨#[]⟩, .slice none 0 0, .slice none 0 0, .slice (some ⟨wB.heap.size + 3, 0, none⟩) 2 2, .slice none 0 0, .slice none 0 0] 38)).rangeAt (wB.heap.size + 1) 0 [.string ⟨#[98]⟩, v0, v1, v2, v3, v4, v5, v6, v7, v8, v9, v10, v11, v12, v13, v14, .bool false, .slice none 0 0] from (((b1.alloc _).alloc _).alloc _).range)
  have S8 := Lib.hid (show (((((wB.alloc (.cells #[.string ⟨#[97]⟩, v0, v1, v2, v3, v4, v5, v6, v7, v8, v9, v10, v11, v12, v13, v14, .bool true, .slice none 0 0] 45)).alloc (.cells #[.string ⟨#[98]⟩, v0, v1, v2, v3, v4, v5, v6, v7, v8, v9, v10, v11, v12, v13, v14, .bool false, .slice none 0 0] 45)).alloc (.cells #[.string ⟨#[99]⟩, v0, v1, v2, v3, v4, v5, v6, v7, v8, v9, v10, v11, v12, v13, v14, .bool false, .slice none 0 0] 45)).alloc (.cells #[.string ⟨#[97]⟩, v0, v1, v2, v3, v4, v5, v6, v7, v8, v9, v10, v11, v12, v13, v14, .bool true, .slice none 0 0, .string ⟨#[98]⟩, v0, v1, v2, v3, v4, v5, v6, v7, v8, v9, v10, v11, v12, v13, v14, .bool false, .slice none 0 0] 45)).alloc (.cells #[.string ⟨#[77]⟩, .string ⟨#[65]⟩, .bool a1, .int .i64 8, .string ⟨#[]⟩, .int .i64 0, .int .i64 0, .int .i64 0, .bool false, .bool false, .slice none 0 0, .bool false, .string ⟨#[]⟩, .slice none 0 0, .slice none 0 0, .slice (some ⟨wB.heap.size + 3, 0, none⟩) 2 2, .slice none 0 0, .slice none 0 0] 38)).rangeAt (wB.heap.size + 2) 0 [.string ⟨#[99]⟩, v0, v1, v2, v3, v4, v5, v6, v7, v8, v9, v10, v11, v12, v13, v14, .bool false, .slice none 0 0] from ((b2.alloc _).alloc _).range)
  have htw : Tw a1 t #[v0, v1, v2, v3, v4, v5, v6, v7, v8, v9, v10, v11, v12, v13, v14] g wB.heap.size (#[.string ⟨#[97]⟩, v0, v1, v2, v3, v4, v5, v6, v7, v8, v9, v10, v11, v12, v13, v14, .bool true, .slice none 0 0, .string ⟨#[98]⟩, v0, v1, v2, v3, v4, v5, v6, v7, v8, v9, v10, v11, v12, v13, v14, .bool false, .slice none 0 0], #[.string ⟨#[98]⟩, v0, v1, v2, v3, v4, v5, v6, v7, v8, v9, v10, v11, v12, v13, v14, .bool false, .slice none 0 0, .string ⟨#[99]⟩, v0, v1, v2, v3, v4, v5, v6, v7, v8, v9, v10, v11, v12, v13, v14, .bool false, .slice none 0 0]) (((((((wB.alloc (.cells #[.string ⟨#[97]⟩, v0, v1, v2, v3, v4, v5, v6, v7, v8, v9, v10, v11, v12, v13, v14, .bool true, .slice none 0 0] 45)).alloc (.cells #[.string ⟨#[98]⟩, v0, v1, v2, v3, v4, v5, v6, v7, v8, v9, v10, v11, v12, v13, v14, .bool false, .slice none 0 0] 45)).alloc (.cells #[.string ⟨#[99]⟩, v0, v1, v2, v3, v4, v5, v6, v7, v8, v9, v10, v11, v12, v13, v14, .bool false, .slice none 0 0] 45)).alloc (.cells #[.string ⟨#[97]⟩, v0, v1, v2, v3, v4, v5, v6, v7, v8, v9, v10, v11, v12, v13, v14, .bool true, .slice none 0 0, .string ⟨#[98]⟩, v0, v1, v2, v3, v4, v5, v6, v7, v8, v9, v10, v11, v12, v13, v14, .bool false, .slice none 0 0] 45)).alloc (.cells #[.string ⟨#[77]⟩, .string ⟨#[65]⟩, .bool a1, .int .i64 8, .string ⟨#[]⟩, .int .i64 0, .int .i64 0, .int .i64 0, .bool false, .bool false, .slice none 0 0, .bool false, .string ⟨#[]⟩, .slice none 0 0, .slice none 0 0, .slice (some ⟨wB.heap.size + 3, 0, none⟩) 2 2, .slice none 0 0, .slice none 0 0] 38)).alloc (.cells #[.string ⟨#[98]⟩, v0, v1, v2, v3, v4, v5, v6, v7, v8, v9, v10, v11, v12, v13, v14, .bool false, .slice none 0 0, .string ⟨#[99]⟩, v0, v1, v2, v3, v4, v5, v6, v7, v8, v9, v10, v11, v12, v13, v14, .bool false, .slice none 0 0] 45)).alloc (.cells #[.string ⟨#[77]⟩, .string ⟨#[65]⟩, .bool a1, .int .i64 10, .string ⟨#[]⟩, .int .i64 0, .int .i64 0, .int .i64 0, .bool false, .bool false, .slice none 0 0, .bool false, .string ⟨#[]⟩, .slice none 0 0, .slice none 0 0, .slice (some ⟨wB.heap.size + 5, 0, none⟩) 2 2, .slice none 0 0, .slice none 0 0] 38)) := ⟨HX_2.out.below hbw HX_2.out.lt, ((b3.alloc _).alloc _).alloc _, (b4.alloc _).alloc _, b5.alloc _, b6⟩
  have HBW := Lib.hid (HB_2.out.trans (hbw.mono HB_2.out.size))
  have HTW := Lib.hid htw
  clear b0 b1 b2 b3 b4 b5 b6 hbw htw HX_2 HB_2
  go_upto_region 9 with (first | (refine wpList_store_new rfl 45 (.tmp 6) (.tmp 17) rfl 18 _ [.string ⟨#[97]⟩, v0, v1, v2, v3, v4, v5, v6, v7, v8, v9, v10, v11, v12, v13, v14, .bool true, .slice none 0 0] H1A.out.1 (by kernel_rfl) info_P H1A.out.2 rfl rfl ?_) | (refine wpList_store_new rfl 45 (.tmp 7) (.tmp 19) rfl 18 _ [.string ⟨#[98]⟩, v0, v1, v2, v3, v4, v5, v6, v7, v8, v9, v10, v11, v12, v13, v14, .bool false, .slice none 0 0] H1B.out.1 (by kernel_rfl) info_P H1B.out.2 (show Value.pointer (some ⟨wB.heap.size + 1, 0, none⟩) = _ by simp) rfl ?_) | (refine wpList_store_new rfl 45 (.tmp 8) (.tmp 21) rfl 18 _ [.string ⟨#[99]⟩, v0, v1, v2, v3, v4, v5, v6, v7, v8, v9, v10, v11, v12, v13, v14, .bool false, .slice none 0 0] H1C.out.1 (by kernel_rfl) info_P H1C.out.2 (show Value.pointer (some ⟨wB.heap.size + 2, 0, none⟩) = _ by simp) rfl ?_) | (refine wpList_load_mid rfl 45 (.tmp 6) rfl (wB.heap.size + 0) 0 rfl [.string ⟨#[97]⟩, v0, v1, v2, v3, v4, v5, v6, v7, v8, v9, v10, v11, v12, v13, v14, .bool true, .slice none 0 0] _ R6.out Try.underlying45 rfl (by rw [info_P]; rfl) ?_) | (refine wpList_load_mid rfl 45 (.tmp 7) rfl (wB.heap.size + 1) 0 rfl [.string ⟨#[98]⟩, v0, v1, v2, v3, v4, v5, v6, v7, v8, v9, v10, v11, v12, v13, v14, .bool false, .slice none 0 0] _ R7.out Try.underlying45 rfl (by rw [info_P]; rfl) ?_) | (refine wpList_load_mid rfl 45 (.tmp 7) rfl (wB.heap.size + 1) 0 rfl [.string ⟨#[98]⟩, v0, v1, v2, v3, v4, v5, v6, v7, v8, v9, v10, v11, v12, v13, v14, .bool false, .slice none 0 0] _ S7.out Try.underlying45 rfl (by rw [info_P]; rfl) ?_) | (refine wpList_load_mid rfl 45 (.tmp 8) rfl (wB.heap.size + 2) 0 rfl [.string ⟨#[99]⟩, v0, v1, v2, v3, v4, v5, v6, v7, v8, v9, v10, v11, v12, v13, v14, .bool false, .slice none 0 0] _ S8.out Try.underlying45 rfl (by rw [info_P]; rfl) ?_) | (refine wpList_load_mid rfl 35 (.tmp 2) rfl g 0 rfl [v0, v1, v2, v3, v4, v5, v6, v7, v8, v9, v10, v11, v12, v13, v14] _ (HR2.out _ _) Try.underlying35 rfl (by rw [info_T]; rfl) ?_) | (refine wpList_load_mid rfl 35 (.tmp 2) rfl g 0 rfl [v0, v1, v2, v3, v4, v5, v6, v7, v8, v9, v10, v11, v12, v13, v14] _ (HR1.out _) Try.underlying35 rfl (by rw [info_T]; rfl) ?_) | (refine wpList_load_mid rfl 35 (.tmp 2) rfl g 0 rfl [v0, v1, v2, v3, v4, v5, v6, v7, v8, v9, v10, v11, v12, v13, v14] _ HR0.out Try.underlying35 rfl (by rw [info_T]; rfl) ?_))
  try simp only [Nat.add_assoc, Nat.reduceAdd]
  change Code.wp _ _ _ _ (((((((wB.alloc (.cells #[.string ⟨#[97]⟩, v0, v1, v2, v3, v4, v5, v6, v7, v8, v9, v10, v11, v12, v13, v14, .bool true, .slice none 0 0] 45)).alloc (.cells #[.string ⟨#[98]⟩, v0, v1, v2, v3, v4, v5, v6, v7, v8, v9, v10, v11, v12, v13, v14, .bool false, .slice none 0 0] 45)).alloc (.cells #[.string ⟨#[99]⟩, v0, v1, v2, v3, v4, v5, v6, v7, v8, v9, v10, v11, v12, v13, v14, .bool false, .slice none 0 0] 45)).alloc (.cells #[.string ⟨#[97]⟩, v0, v1, v2, v3, v4, v5, v6, v7, v8, v9, v10, v11, v12, v13, v14, .bool true, .slice none 0 0, .string ⟨#[98]⟩, v0, v1, v2, v3, v4, v5, v6, v7, v8, v9, v10, v11, v12, v13, v14, .bool false, .slice none 0 0] 45)).alloc (.cells #[.string ⟨#[77]⟩, .string ⟨#[65]⟩, .bool a1, .int .i64 8, .string ⟨#[]⟩, .int .i64 0, .int .i64 0, .int .i64 0, .bool false, .bool false, .slice none 0 0, .bool false, .string ⟨#[]⟩, .slice none 0 0, .slice none 0 0, .slice (some ⟨wB.heap.size + 3, 0, none⟩) 2 2, .slice none 0 0, .slice none 0 0] 38)).alloc (.cells #[.string ⟨#[98]⟩, v0, v1, v2, v3, v4, v5, v6, v7, v8, v9, v10, v11, v12, v13, v14, .bool false, .slice none 0 0, .string ⟨#[99]⟩, v0, v1, v2, v3, v4, v5, v6, v7, v8, v9, v10, v11, v12, v13, v14, .bool false, .slice none 0 0] 45)).alloc (.cells #[.string ⟨#[77]⟩, .string ⟨#[65]⟩, .bool a1, .int .i64 10, .string ⟨#[]⟩, .int .i64 0, .int .i64 0, .int .i64 0, .bool false, .bool false, .slice none 0 0, .bool false, .string ⟨#[]⟩, .slice none 0 0, .slice none 0 0, .slice (some ⟨wB.heap.size + 5, 0, none⟩) 2 2, .slice none 0 0, .slice none 0 0] 38))
  clear R6 R7 S7 S8 HR0 HR1 HR2 H1A H1B H1C
  generalize (((((((wB.alloc (.cells #[.string ⟨#[97]⟩, v0, v1, v2, v3, v4, v5, v6, v7, v8, v9, v10, v11, v12, v13, v14, .bool true, .slice none 0 0] 45)).alloc (.cells #[.string ⟨#[98]⟩, v0, v1, v2, v3, v4, v5, v6, v7, v8, v9, v10, v11, v12, v13, v14, .bool false, .slice none 0 0] 45)).alloc (.cells #[.string ⟨#[99]⟩, v0, v1, v2, v3, v4, v5, v6, v7, v8, v9, v10, v11, v12, v13, v14, .bool false, .slice none 0 0] 45)).alloc (.cells #[.string ⟨#[97]⟩, v0, v1, v2, v3, v4, v5, v6, v7, v8, v9, v10, v11, v12, v13, v14, .bool true, .slice none 0 0, .string ⟨#[98]⟩, v0, v1, v2, v3, v4, v5, v6, v7, v8, v9, v10, v11, v12, v13, v14, .bool false, .slice none 0 0] 45)).alloc (.cells #[.string ⟨#[77]⟩, .string ⟨#[65]⟩, .bool a1, .int .i64 8, .string ⟨#[]⟩, .int .i64 0, .int .i64 0, .int .i64 0, .bool false, .bool false, .slice none 0 0, .bool false, .string ⟨#[]⟩, .slice none 0 0, .slice none 0 0, .slice (some ⟨wB.heap.size + 3, 0, none⟩) 2 2, .slice none 0 0, .slice none 0 0] 38)).alloc (.cells #[.string ⟨#[98]⟩, v0, v1, v2, v3, v4, v5, v6, v7, v8, v9, v10, v11, v12, v13, v14, .bool false, .slice none 0 0, .string ⟨#[99]⟩, v0, v1, v2, v3, v4, v5, v6, v7, v8, v9, v10, v11, v12, v13, v14, .bool false, .slice none 0 0] 45)).alloc (.cells #[.string ⟨#[77]⟩, .string ⟨#[65]⟩, .bool a1, .int .i64 10, .string ⟨#[]⟩, .int .i64 0, .int .i64 0, .int .i64 0, .bool false, .bool false, .slice none 0 0, .bool false, .string ⟨#[]⟩, .slice none 0 0, .slice none 0 0, .slice (some ⟨wB.heap.size + 5, 0, none⟩) 2 2, .slice none 0 0, .slice none 0 0] 38)) = W at *
  obtain ⟨s, hs⟩ : ∃ s, wB.heap.size = s := ⟨_, rfl⟩
  rw [hs] at HTW ⊢
  clear hs
  cases a1 with
  | true =>
    go_wp2_with fail
    have HCC := Lib.hid (HTW.out.calls HCS.out ((HTI.out.below HBW.out (Nat.le_refl _)).below (Below.refl _ _) HBW.out.size) HSM.out)
    refine HCC.out.1.mono ?_
    rintro e w1 ⟨⟨z, rfl, hz⟩, h2⟩
    obtain rfl : z = 0 := by
      rcases hz with ⟨rfl, _⟩ | ⟨_, hz⟩
      · rfl
      · exact absurd (fun h => (by cases h)) hz
    clear hz
    have HTW1 := Lib.hid (HTW.out.step h2)
    have HBW1 := Lib.hid (HBW.out.trans (h2.mono HBW.out.size))
    clear h2 HTW HBW HCC
    go_wp2_with fail
    have HCC := Lib.hid (HTW1.out.calls HCS.out ((HTI.out.below HBW1.out (Nat.le_refl _)).below (Below.refl _ _) HBW1.out.size) HSM.out)
    refine HCC.out.2.1.mono ?_
    rintro e w2 ⟨⟨z, rfl, hz⟩, h2⟩
    obtain rfl : z = 0 := by
      rcases hz with ⟨rfl, _⟩ | ⟨_, hz⟩
      · rfl
      · exact absurd (fun h => (by cases h)) hz
    clear hz
    have HTW2 := Lib.hid (HTW1.out.step h2)
    have HBW2 := Lib.hid (HBW1.out.trans (h2.mono HBW1.out.size))
    clear h2 HTW1 HBW1 HCC
    go_wp2_with fail
    go_ret
    exact ⟨rfl, by first | exact HBW2.out | (rw [← HG.out]; exact HBW2.out)⟩
  | false =>
    have HRW := Lib.hid (show W.rangeAt g 0 [v0, v1, v2, v3, v4, v5, v6, v7, v8, v9, v10, v11, v12, v13, v14] from HTW.out.bt.range)
    have HCC := Lib.hid (HTW.out.calls HCS.out ((HTI.out.below HBW.out (Nat.le_refl _)).below (Below.refl _ _) HBW.out.size) HSM.out)
    go_wp2_with (refine wpList_load_mid rfl 35 (.tmp 2) rfl g 0 rfl [v0, v1, v2, v3, v4, v5, v6, v7, v8, v9, v10, v11, v12, v13, v14] _ HRW.out Try.underlying35 rfl (by rw [info_T]; rfl) ?_)
    refine HCC.out.2.2.1.mono ?_
    rintro e w1 ⟨r1, xs, rfl, ho, ht, h2⟩
    obtain ⟨ra, rc, rfl⟩ := own_slice ho
    have HT1 := Lib.hid ht
    obtain ⟨n1, hn1⟩ : ∃ n1, xs.length = n1 := ⟨_, rfl⟩
    have HN1 := Lib.hid hn1
    rw [hn1]
    clear ho ht hn1 HRW
    have HTW1 := Lib.hid (HTW.out.step h2)
    have HBW1 := Lib.hid (HBW.out.trans (h2.mono HBW.out.size))
    clear h2 HTW HBW HCC
    have HR1w := Lib.hid (show w1.rangeAt g 0 [v0, v1, v2, v3, v4, v5, v6, v7, v8, v9, v10, v11, v12, v13, v14] from HTW1.out.bt.range)
    by_cases h0 : n1 = 0
    · subst h0
      have q0 : (((0 : Nat) : Int) == 0) = true := rfl
      go_wp2_with fail
      go_ret
      exact ⟨rfl, by first | exact HBW1.out | (rw [← HG.out]; exact HBW1.out)⟩
    have q0 : ((n1 : Int) == 0) = false := beq_eq_false_iff_ne.2 (by omega)
    obtain ⟨x, hx⟩ := HT1.out.some (by have := HN1.out; omega)
    have HNS := Lib.hid (twS_no (g := s + 3) hx)
    clear hx
    have HCC := Lib.hid (HTW1.out.calls HCS.out ((HTI.out.below HBW1.out (Nat.le_refl _)).below (Below.refl _ _) HBW1.out.size) HSM.out)
    go_wp2_with (refine tg_load_midG (by rfl) 35 (.tmp 2) rfl g 0 rfl [v0, v1, v2, v3, v4, v5, v6, v7, v8, v9, v10, v11, v12, v13, v14] _ HR1w.out Try.underlying35 rfl (by rw [info_T]; rfl) ?_)
    refine HCC.out.2.2.2.mono ?_
    rintro e w2 ⟨r2, ys, rfl, ho, ht, h2⟩
    obtain ⟨rb, rd, rfl⟩ := own_slice ho
    have HT2 := Lib.hid ht
    obtain ⟨n2, hn2⟩ : ∃ n2, ys.length = n2 := ⟨_, rfl⟩
    have HN2 := Lib.hid hn2
    rw [hn2]
    clear ho ht hn2 HR1w
    have HTW2 := Lib.hid (HTW1.out.step h2)
    have HBW2 := Lib.hid (HBW1.out.trans (h2.mono HBW1.out.size))
    clear h2 HTW1 HBW1 HCC
    by_cases h02 : n2 = 0
    · subst h02
      have q02 : (((0 : Nat) : Int) == 0) = true := rfl
      go_wp2_with fail
      go_ret
      exact ⟨rfl, by first | exact HBW2.out | (rw [← HG.out]; exact HBW2.out)⟩
    have q02 : ((n2 : Int) == 0) = false := beq_eq_false_iff_ne.2 (by omega)
    obtain ⟨x, hx⟩ := HT2.out.some (by have := HN2.out; omega)
    have HNH := Lib.hid (twH_no (g := s + 5) hx)
    clear hx
    have HCC := Lib.hid (HTW2.out.calls HCS.out ((HTI.out.below HBW2.out (Nat.le_refl _)).below (Below.refl _ _) HBW2.out.size) HSM.out)
    go_wp2_with fail
    refine HCC.out.1.mono ?_
    rintro e w3 ⟨⟨z, rfl, hz⟩, h2⟩
    obtain rfl : z = 8 := by
      rcases hz with ⟨_, hz⟩ | ⟨rfl, _⟩
      · exact absurd (hz (by first | rfl | trivial)) HNS.out
      · rfl
    clear hz
    have HTW3 := Lib.hid (HTW2.out.step h2)
    have HBW3 := Lib.hid (HBW2.out.trans (h2.mono HBW2.out.size))
    clear h2 HTW2 HBW2 HCC
    go_wp2_with fail
    have HCC := Lib.hid (HTW3.out.calls HCS.out ((HTI.out.below HBW3.out (Nat.le_refl _)).below (Below.refl _ _) HBW3.out.size) HSM.out)
    refine HCC.out.2.1.mono ?_
    rintro e w4 ⟨⟨z, rfl, hz⟩, h2⟩
    obtain rfl : z = 8 := by
      rcases hz with ⟨_, hz⟩ | ⟨rfl, _⟩
      · exact absurd (hz (by first | rfl | trivial)) HNH.out
      · rfl
    clear hz
    have HTW4 := Lib.hid (HTW3.out.step h2)
    have HBW4 := Lib.hid (HBW3.out.trans (h2.mono HBW3.out.size))
    clear h2 HTW3 HBW3 HCC
    go_wp2_with fail
    go_ret
    exact ⟨rfl, by first | exact HBW4.out | (rw [← HG.out]; exact HBW4.out)⟩

set_option maxRecDepth 100000 in
theorem lifted (os : Os) (started : os.Started) (H : Type) (enc : TypeId × Value → H) :
    ReturnsInHanded {} Try.checked os 6 .any (Rows.tagsTwinsSpec.pre6 enc Try.prog Try.f6 Rows.tagsTwinsRow.domain false) (Rows.tagsTwinsSpec.post enc Try.prog Try.f6 false true false false) := by
  refine handed_light (C := Try.checked) own started (by kernel_rfl) Try.func6
    (ChangeSpec.witness6 (enc := enc) (C := Try.checked) false ⟨#[], #[.agg #[.int .i64 0, .string ByteArray.empty, .int .i64 0, .int .i64 0, .int .i64 0, .bool false, .bool false, .slice none 0 0, .bool false, .string ByteArray.empty, .slice none 0 0, .slice none 0 0, .slice none 0 0, .slice none 0 0, .slice none 0 0], .bool false], []⟩ 8 (by kernel_rfl) (by kernel_rfl) (by kernel_rfl) (by kernel_rfl)) ?_
  intro W base args ds gs before hval0 hW hsz0
  have hval : ∀ (j : Nat) t v, Try.f6.params[j]? = some t → args[j]? = some v → Value.okWide Try.prog W .any base t v := hval0
  have hW' := hW
  obtain ⟨p, q, hA0, hV, rfl, hfz, hnd⟩ := hW
  have hA : DataW.TrodAll enc Try.prog W 0 (fun _ => true) true Try.f6.params.toList args.toList ds p := hA0
  rw [Try.params6] at hA hval
  obtain ⟨v0, vs0, d0, ds0, p0, q0, hargs, rfl, rfl, h0, r0⟩ := trodAll_cons hA
  obtain ⟨v1, vs1, d1, ds1, p1, q1, rfl, rfl, rfl, h1, r1⟩ := trodAll_cons r0
  obtain ⟨rfl, rfl, rfl⟩ := trodAll_nil r1
  obtain rfl : args = #[v0, v1] := by cases args; simp_all
  obtain ⟨rfl, rfl⟩ := trodVars_none hV
  obtain ⟨cs0, rfl, _⟩ := okWide_struct Try.underlying35 (hval 0 35 v0 rfl rfl)
  have k0 := h0
  have lt0 : ∀ x ∈ p0, x.block < W.heap.size := by obtain ⟨m, hm⟩ := k0; exact DataW.trod_lt m _ _ _ hm
  have li0 : Light 35 d0 := light_each hsz0 0 _ _ rfl rfl
  obtain ⟨fuel0, hf0⟩ := h0
  obtain ⟨x0, hc0, hx0⟩ := open_type (W := W) fuel0 (cs := cs0.toList) hf0 li0
  obtain rfl : cs0 = x0.cells.toArray := by rw [← hc0]
  obtain ⟨a1, rfl, rfl, rfl⟩ := open_bool Try.underlying4 (hval 1 4 v1 rfl rfl) h1
  clear hA0 hval0
  refine (walk W x0 hx0 a1).mono fun e W' ⟨he, bel⟩ => ?_
  subst he
  exact ⟨_, rfl, _, _, _, [], _, [], hW', trodAll_mk1 (shut_bool Try.underlying4 _), (trodAll_cons_mk (Below.trod laidOut (by kernel_rfl) (of_decide_eq_true (by kernel_rfl)) k0 bel lt0) (trodAll_cons_mk (shut_bool Try.underlying4 a1) trodAll_mk0)), rfl, bel.frame _, fun h => by cases h⟩

theorem over : Rows.tagsTwinsRow.holds Try.pinned (OpenSpec.ofChange Rows.tagsTwinsSpec) :=
  OpenClaim.holds_of_wide 6 Try.f6 rfl rfl rfl rfl rfl rfl rfl ⟨rfl, rfl, rfl, rfl, rfl⟩ rfl rfl rfl rfl rfl (by kernel_rfl) Try.func6 (by kernel_rfl)
    (of_decide_eq_true (by kernel_rfl)) (by unfold Func.isWrapper; first | (rw [if_pos (by decide +kernel)]; kernel_rfl) | (rw [if_neg (by decide +kernel)]; exact ⟨rfl, rfl⟩))
    (fun os started H enc _ => lifted os started H enc)

theorem proved : Rows.TagsTwinsSaid := over
end Go.Proofs.Ytidpbchlnbmgoaa.tagsTwins
