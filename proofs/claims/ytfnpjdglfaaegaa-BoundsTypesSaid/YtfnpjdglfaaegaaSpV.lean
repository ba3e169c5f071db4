/-
  The document's answers for sets; the law's helper 'same'; its example.
-/
import Derived.Test.YtfnpjdglfaaegaaSpQ
import Derived.Test.YtfnpjdglfaaegaaSpW
namespace Go.Proofs.Ytfnpjdglfaaegaa
open Go.RowKit Go.Shelf
set_option linter.unusedVariables false
set_option linter.unusedSimpArgs false
set_option maxRecDepth 100000

theorem RSl.nil (w : World) : RSl w (.slice none 0 0) [] := ⟨Bd.nil, .inr ⟨rfl, _, _, rfl⟩⟩
theorem Says.cast {r : List Rg} {p q : Int → Prop} (h : Says r p) (hpq : ∀ n, p n ↔ q n) : Says r q := ⟨h.1, h.2.1, fun n hn => (h.2.2 n hn).trans (hpq n)⟩
theorem sel0 (a b : List Rg) (n : Int) : selOp a b 0 n = true ↔ mem a n ∨ mem b n := by
  unfold selOp
  rw [if_pos rfl, Bool.or_eq_true, hasB_iff, hasB_iff]
theorem sel1 (a b : List Rg) (n : Int) : selOp a b 1 n = true ↔ mem a n ∧ mem b n := by
  unfold selOp
  rw [if_neg (by decide), if_pos rfl, Bool.and_eq_true, hasB_iff, hasB_iff]
theorem sel2 (a b : List Rg) (n : Int) : selOp a b 2 n = true ↔ mem a n ∧ ¬ mem b n := by
  unfold selOp
  rw [if_neg (by decide), if_neg (by decide), Bool.and_eq_true, hasB_iff, Bool.not_eq_true', hasB_false]
theorem sel0n (a : List Rg) (n : Int) : selOp a [] 0 n = true ↔ mem a n := by
  rw [sel0]
  simp [mem_nil]
set_option maxHeartbeats 1000000 in
theorem rNorm_ok (w : World) (v : Value) (l : List Rg) (h : RSl w v l) (hl : l.length ≤ 300) :
    Calls Try.prog 36 #[v] w fun e w' => ∃ v' r, e = .returned v' ∧ Ans w' v' (mem l) 10000 r ∧ Below w.heap.size w w' := by
  have HC := Lib.hid (ofLoop_ok 0 (.inl rfl) w v (.slice none 0 0) l [] h (RSl.nil w) hl (by simp))
  clear h hl
  go_enter Try.func36, Try.ntmps36
  go_wp2_with fail
  refine HC.out.mono ?_
  rintro e w' ⟨v', r, rfl, h1, h2, h3, h4⟩
  have HA := Lib.hid (show Ans w' v' (mem l) 10000 r from ⟨h1, h2.cast (sel0n l), h3⟩)
  have HB := Lib.hid h4
  clear h1 h2 h3 h4
  go_wp2_with fail
  go_ret
  exact ⟨_, r, rfl, HA.out, HB.out⟩
set_option maxHeartbeats 1000000 in
theorem rMeet_ok (w : World) (va vb : Value) (a b : List Rg) (ha : RSl w va a) (hb : RSl w vb b) (hla : a.length ≤ 300) (hlb : b.length ≤ 300) :
    Calls Try.prog 33 #[va, vb] w fun e w' => ∃ v' r, e = .returned v' ∧ Ans w' v' (fun n => mem a n ∧ mem b n) 10000 r ∧ Below w.heap.size w w' := by
  have HC := Lib.hid (ofLoop_ok 1 (.inr (.inl rfl)) w va vb a b ha hb hla hlb)
  clear ha hb hla hlb
  go_enter Try.func33, Try.ntmps33
  go_wp2_with fail
  refine HC.out.mono ?_
  rintro e w' ⟨v', r, rfl, h1, h2, h3, h4⟩
  have HA := Lib.hid (show Ans w' v' (fun n => mem a n ∧ mem b n) 10000 r from ⟨h1, h2.cast (sel1 a b), h3⟩)
  have HB := Lib.hid h4
  clear h1 h2 h3 h4
  go_wp2_with fail
  go_ret
  exact ⟨_, r, rfl, HA.out, HB.out⟩
theorem rgt_iff_norm {s r : List Rg} (h : Says r (mem s)) (hb : Bd s) : s = r ↔ rgt s := by
  constructor
  · intro e
    rw [e]
    exact h.1
  · intro hs
    exact hs.uniq h.1 fun n => ⟨fun hm => (h.2.2 n (hb.mem hm)).2 hm, fun hm => (h.2.2 n (h.2.1.mem hm)).1 hm⟩
end Go.Proofs.Ytfnpjdglfaaegaa
