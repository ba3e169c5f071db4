/-
  The document's answers for sets; the law's helper 'same'; its example.
-/
import Derived.Test.YtjcanhfbgnopdaaSpQ
import Derived.Test.YtjcanhfbgnopdaaSpW
namespace Go.Proofs.Ytjcanhfbgnopdaa
open Go.RowKit Go.Shelf
set_option linter.unusedVariables false
set_option linter.unusedSimpArgs false
set_option maxRecDepth 100000

theorem RSl.nil (w : World) : RSl w (.slice none 0 0) [] := ⟨Bd.nil, .inr ⟨rfl, _, _, rfl⟩⟩
theorem Says.cast {r : List Rg} {p q : Int → Prop} (h : Says r p) (hpq : ∀ n, p n ↔ q n) : Says r q := ⟨h.1, h.2.1, fun n hn => (h.2.2 n hn).trans (hpq n)⟩
theorem sel0 (a b : List Rg) (n : Int) : selOp a b 0 n = true ↔ mem a n ∨ mem b n := by
  unfold selOp
  rw [if_pos rfl, Bool.or_eq_true, hasB_iff, hasB_iff]
theorem sel1 (a b : List Rg) (n : Int) : selOp a b 1 n = true ↔ mem a n ∧ mem b n := by
  unfold selOp
  rw [if_neg (by decide), if_pos rfl, Bool.and_eq_true, hasB_iff, hasB_iff]
theorem sel2 (a b : List Rg) (n : Int) : selOp a b 2 n = true ↔ mem a n ∧ ¬ mem b n := by
  unfold selOp
  rw [if_neg (by decide), if_neg (by decide), Bool.and_eq_true, hasB_iff, Bool.not_eq_true', hasB_false]
theorem sel0n (a : List Rg) (n : Int) : selOp a [] 0 n = true ↔ mem a n := by
  rw [sel0]
  simp [mem_nil]
set_option maxHeartbeats 1000000 in
theorem rNorm_ok (w : World) (v : Value) (l : List Rg) (h : RSl w v l) (hl : l.length ≤ 300) :
    Calls Try.prog 14 #[v] w fun e w' => ∃ v' r, e = .returned v' ∧ Ans w' v' (mem l) 10000 r ∧ Below w.heap.size w w' := by
  have HC := Lib.hid (ofLoop_ok 0 (.inl rfl) w v (.slice none 0 0) l [] h (RSl.nil w) hl (by simp))
  clear h hl
  go_enter Try.func14, Try.ntmps14
  go_wp2_with fail
  refine HC.out.mono ?_
  rintro e w' ⟨v', r, rfl, h1, h2, h3, h4⟩
  have HA := Lib.hid (show Ans w' v' (mem l) 10000 r from ⟨h1, h2.cast (sel0n l), h3⟩)
  have HB := Lib.hid h4
  clear h1 h2 h3 h4
  go_wp2_with fail
  go_ret
  exact ⟨_, r, rfl, HA.out, HB.out⟩
set_option maxHeartbeats 1000000 in
theorem rUnion_ok (w : World) (va vb : Value) (a b : List Rg) (ha : RSl w va a) (hb : RSl w vb b) (hla : a.length ≤ 300) (hlb : b.length ≤ 300) :
    Calls Try.prog 18 #[va, vb] w fun e w' => ∃ v' r, e = .returned v' ∧ Ans w' v' (fun n => mem a n ∨ mem b n) 10000 r ∧ Below w.heap.size w w' := by
  have HC := Lib.hid (ofLoop_ok 0 (.inl rfl) w va vb a b ha hb hla hlb)
  clear ha hb hla hlb
  go_enter Try.func18, Try.ntmps18
  go_wp2_with fail
  refine HC.out.mono ?_
  rintro e w' ⟨v', r, rfl, h1, h2, h3, h4⟩
  have HA := Lib.hid (show Ans w' v' (fun n => mem a n ∨ mem b n) 10000 r from ⟨h1, h2.cast (sel0 a b), h3⟩)
  have HB := Lib.hid h4
  clear h1 h2 h3 h4
  go_wp2_with fail
  go_ret
  exact ⟨_, r, rfl, HA.out, HB.out⟩
set_option maxHeartbeats 1000000 in
theorem rMeet_ok (w : World) (va vb : Value) (a b : List Rg) (ha : RSl w va a) (hb : RSl w vb b) (hla : a.length ≤ 300) (hlb : b.length ≤ 300) :
    Calls Try.prog 20 #[va, vb] w fun e w' => ∃ v' r, e = .returned v' ∧ Ans w' v' (fun n => mem a n ∧ mem b n) 10000 r ∧ Below w.heap.size w w' := by
  have HC := Lib.hid (ofLoop_ok 1 (.inr (.inl rfl)) w va vb a b ha hb hla hlb)
  clear ha hb hla hlb
  go_enter Try.func20, Try.ntmps20
  go_wp2_with fail
  refine HC.out.mono ?_
  rintro e w' ⟨v', r, rfl, h1, h2, h3, h4⟩
  have HA := Lib.hid (show Ans w' v' (fun n => mem a n ∧ mem b n) 10000 r from ⟨h1, h2.cast (sel1 a b), h3⟩)
  have HB := Lib.hid h4
  clear h1 h2 h3 h4
  go_wp2_with fail
  go_ret
  exact ⟨_, r, rfl, HA.out, HB.out⟩
set_option maxHeartbeats 1000000 in
theorem rMinus_ok (w : World) (va vb : Value) (a b : List Rg) (ha : RSl w va a) (hb : RSl w vb b) (hla : a.length ≤ 300) (hlb : b.length ≤ 300) :
    Calls Try.prog 22 #[va, vb] w fun e w' => ∃ v' r, e = .returned v' ∧ Ans w' v' (fun n => mem a n ∧ ¬ mem b n) 10000 r ∧ Below w.heap.size w w' := by
  have HC := Lib.hid (ofLoop_ok 2 (.inr (.inr rfl)) w va vb a b ha hb hla hlb)
  clear ha hb hla hlb
  go_enter Try.func22, Try.ntmps22
  go_wp2_with fail
  refine HC.out.mono ?_
  rintro e w' ⟨v', r, rfl, h1, h2, h3, h4⟩
  have HA := Lib.hid (show Ans w' v' (fun n => mem a n ∧ ¬ mem b n) 10000 r from ⟨h1, h2.cast (sel2 a b), h3⟩)
  have HB := Lib.hid h4
  clear h1 h2 h3 h4
  go_wp2_with fail
  go_ret
  exact ⟨_, r, rfl, HA.out, HB.out⟩
set_option maxHeartbeats 1000000 in
theorem same_ok (w : World) (va vb : Value) (a b : List Rg) (ha : RSl w va a) (hb : RSl w vb b) (hn : a.length ≤ 1000000000) :
    Calls Try.prog 12 #[va, vb] w fun e w' => e = .returned (.bool (decide (a = b))) ∧ Below w.heap.size w w' := by
  have HC := Lib.hid (Same_ok w va vb a b ha hb hn)
  generalize decide (a = b) = r at *
  clear ha hb hn
  go_enter Try.func12, Try.ntmps12
  go_wp2_with fail
  refine HC.out.mono ?_
  rintro e w' ⟨rfl, h⟩
  have HB := Lib.hid h
  clear h
  go_wp2_with fail
  go_ret
  exact ⟨rfl, HB.out⟩
theorem same_yes (w : World) (va vb : Value) (a b : List Rg) (ha : RSl w va a) (hb : RSl w vb b) (hn : a.length ≤ 1000000000) (he : a = b) :
    Calls Try.prog 12 #[va, vb] w fun e w' => e = .returned (.bool true) ∧ Below w.heap.size w w' := by
  have h := same_ok w va vb a b ha hb hn
  rw [show decide (a = b) = true from decide_eq_true he] at h
  exact h
/-- two answers that say the same -/
theorem same_ans (w : World) (va vb : Value) (a b : List Rg) (p q : Int → Prop) (K L : Nat) (ha : Ans w va p K a) (hb : Ans w vb q L b) (hK : K ≤ 1000000) (h : ∀ n, I64 n → (p n ↔ q n)) :
    Calls Try.prog 12 #[va, vb] w fun e w' => e = .returned (.bool true) ∧ Below w.heap.size w w' :=
  same_yes w va vb a b ha.1 hb.1 (by have := ha.2.2; omega) (ha.2.1.eq hb.2.1 h)
theorem rgt_iff_norm {s r : List Rg} (h : Says r (mem s)) (hb : Bd s) : s = r ↔ rgt s := by
  constructor
  · intro e
    rw [e]
    exact h.1
  · intro hs
    exact hs.uniq h.1 fun n => ⟨fun hm => (h.2.2 n (hb.mem hm)).2 hm, fun hm => (h.2.2 n (h.2.1.mem hm)).1 hm⟩
set_option maxHeartbeats 1000000 in
theorem rRight_ok (w : World) (v : Value) (s : List Rg) (h : RSl w v s) (hl : s.length ≤ 300) :
    Calls Try.prog 11 #[v] w fun e w' => ∃ b, e = .returned (.bool b) ∧ (b = true ↔ rgt s) ∧ Below w.heap.size w w' := by
  have HC := Lib.hid (rNorm_ok w v s h hl)
  have HV := Lib.hid h
  have HL := Lib.hid hl
  clear h hl
  go_enter Try.func11, Try.ntmps11
  go_wp2_with fail
  refine HC.out.mono ?_
  rintro e w' ⟨v', r, rfl, h1, h2⟩
  have HB := Lib.hid h2
  have HS := Lib.hid (Same_ok w' v v' s r (HV.out.below h2) h1.1 (by have := HL.out; omega))
  have HI := Lib.hid (show decide (s = r) = true ↔ rgt s from by rw [decide_eq_true_iff]; exact rgt_iff_norm h1.2.1 HV.out.bd)
  generalize decide (s = r) = b at *
  clear h1 h2 HC
  go_wp2_with fail
  refine HS.out.mono ?_
  rintro e w2 ⟨rfl, h⟩
  have HB2 := Lib.hid (HB.out.trans (h.mono HB.out.size))
  clear h HS HB
  go_wp2_with fail
  go_ret
  exact ⟨b, rfl, HI.out, HB2.out⟩
end Go.Proofs.Ytjcanhfbgnopdaa
