/-
  Cells of one's own (boxes) and slices of octets that lie outside one block: how they stay while a Writer or a Reader changes.
-/
import Derived.Test.YtbpfggkpfaobhaaGreatOpM
import Derived.Test.YtbpfggkpfaobhaaGreatLen
import Derived.Test.YtbpfggkpfaobhaaGreatRFn
namespace Go.Proofs.YtbpfggkpfaobhaaGreat
open Go.RowKit
set_option linter.unusedVariables false
set_option linter.unusedSimpArgs false
set_option maxRecDepth 100000

/-- block k is one cell of type t that holds v -/
def Cel (w : World) (k : Nat) (t : TypeId) (v : Value) : Prop := w.heap[k]? = some (.cells #[v] t (0, 0))
theorem Cel.cell {w : World} {k : Nat} {t : TypeId} {v : Value} (h : Cel w k t v) : w.cell? ⟨k, 0, none⟩ = some v := cell_of_list (l := [v]) h rfl
theorem Cel.free {w : World} {k : Nat} {t : TypeId} {v : Value} (h : Cel w k t v) : w.frozen? ⟨k, 0, none⟩ = false := frozen_of_row w k 0 _ _ h
theorem Cel.lt {w : World} {k : Nat} {t : TypeId} {v : Value} (h : Cel w k t v) : k < w.heap.size := (Array.getElem?_eq_some_iff.1 h).1
theorem Cel.only {w w' : World} {k b : Nat} {t : TypeId} {v : Value} (h : Cel w k t v) (ho : Only b w w') (hk : k ≠ b) : Cel w' k t v := (ho.block k h.lt hk).trans h
theorem Cel.below {w w' : World} {k : Nat} {t : TypeId} {v : Value} (h : Cel w k t v) (ho : Below w.heap.size w w') : Cel w' k t v := (ho.block k h.lt).trans h
theorem Cel.new (w : World) (t : TypeId) (v : Value) : Cel (w.alloc (.cells #[v] t)) w.heap.size t v := heap_alloc_new _ _
theorem Cel.alloc {w : World} {k : Nat} {t : TypeId} {v : Value} (h : Cel w k t v) (o : Obj) : Cel (w.alloc o) k t v := h.below ((Below.refl _ _).alloc (Nat.le_refl _) o)
theorem Cel.set {w : World} {k : Nat} {t : TypeId} {v : Value} (h : Cel w k t v) (u : Value) : Cel (w.setCell ⟨k, 0, none⟩ u) k t u := heap_setCell_same w k 0 _ _ u h
theorem Cel.other {w : World} {k : Nat} {t : TypeId} {v : Value} (h : Cel w k t v) (g j : Nat) (u : Value) (hk : k ≠ g) : Cel (w.setCell ⟨g, j, none⟩ u) k t v := h.only (Only.setCell j u) hk
/-- a block that is no cells turns -/
theorem only_put {W : World} (l : Nat) (o' : Obj) : Only l W (W.putObj l o') := ⟨rfl, rfl, rfl, by simp, fun k _ hk => World.putObj_heap_other hk⟩
theorem no_cells {W : World} {l : Nat} {o : Obj} (h : W.heap[l]? = some o) (hc : o.isCells = false) (cs : Array Value) (t : TypeId) (fr : Nat × Nat) : W.heap[l]? ≠ some (.cells cs t fr) := by
  rintro e
  rw [h] at e
  cases e
  cases hc
theorem ne_cells {W : World} {l k : Nat} {o : Obj} (h : W.heap[l]? = some o) (hc : o.isCells = false) {cs : Array Value} {t : TypeId} {fr : Nat × Nat} (hk : W.heap[k]? = some (.cells cs t fr)) : k ≠ l := by
  rintro rfl
  exact no_cells h hc _ _ _ hk
theorem Cel.bk {W : World} {l k : Nat} {o : Obj} {t : TypeId} {v : Value} (h : Cel W k t v) (hl : W.heap[l]? = some o) (hc : o.isCells = false) (o' : Obj) : Cel (W.putObj l o') k t v := h.only (only_put l o') (ne_cells hl hc h)
theorem WrAt.ne {W : World} {b l : Nat} {o : Obj} {B : List Bool} (h : WrAt W b B) (hl : W.heap[l]? = some o) (hc : o.isCells = false) : b ≠ l := by
  obtain ⟨c, hb, _⟩ := h
  exact ne_cells hl hc hb
theorem WrAt.bk {W : World} {b l : Nat} {o : Obj} {B : List Bool} (h : WrAt W b B) (hl : W.heap[l]? = some o) (hc : o.isCells = false) (o' : Obj) : WrAt (W.putObj l o') b B :=
  h.keep (only_put l o') (h.ne hl hc) (fun c' q' => no_cells hl hc _ _ _)
theorem RdAt.ne {W : World} {b l : Nat} {o : Obj} {s : Value} {L : List Nat} {p : Nat} (h : RdAt W b s L p) (hl : W.heap[l]? = some o) (hc : o.isCells = false) : b ≠ l := ne_cells hl hc h.1
theorem RdAt.bk {W : World} {b l : Nat} {o : Obj} {s : Value} {L : List Nat} {p : Nat} (h : RdAt W b s L p) (hl : W.heap[l]? = some o) (hc : o.isCells = false) (o' : Obj) : RdAt (W.putObj l o') b s L p :=
  h.keep (only_put l o') (h.ne hl hc) (fun cs fr => no_cells hl hc _ _ _)
/-- whatever is no cells stays where one block of cells changes -/
theorem Only.keeps {b : Nat} {w w' : World} (h : Only b w w') (hb : ∃ cs t fr, w.heap[b]? = some (.cells cs t fr)) : KeepsOthers w w' := ⟨h.size, fun k o hk ho => by
  obtain ⟨cs, t, fr, hb⟩ := hb
  exact (h.block k (Array.getElem?_eq_some_iff.1 hk).1 (by rintro rfl; rw [hb] at hk; cases hk; cases ho)).trans hk⟩
theorem WrAt.cells {w : World} {b : Nat} {B : List Bool} (h : WrAt w b B) : ∃ cs t fr, w.heap[b]? = some (.cells cs t fr) := by
  obtain ⟨c, hb, _⟩ := h
  exact ⟨_, _, _, hb⟩
theorem RdAt.cells {w : World} {b : Nat} {s : Value} {L : List Nat} {p : Nat} (h : RdAt w b s L p) : ∃ cs t fr, w.heap[b]? = some (.cells cs t fr) := ⟨_, _, _, h.1⟩
/-- a mere block turns that came after w0 -/
theorem Only.put {b l : Nat} {w0 W : World} {o : Obj} (h : Only b w0 W) (hl : w0.heap.size ≤ l) (o' : Obj) : Only b w0 (W.putObj l o') :=
  ⟨h.os, h.tape, h.output, by simpa using h.size, fun k hk hb => (World.putObj_heap_other (by omega)).trans (h.block k hk hb)⟩
theorem Only.alloc {b : Nat} {w0 W : World} (h : Only b w0 W) (o : Obj) : Only b w0 (W.alloc o) := h.trans (Only.of_below ((Below.refl _ _).alloc (Nat.le_refl _) o))
theorem Only.set {b g j : Nat} {w0 W : World} (h : Only b w0 W) (hg : w0.heap.size ≤ g) (u : Value) : Only b w0 (W.setCell ⟨g, j, none⟩ u) :=
  ⟨h.os, h.tape, h.output, by simpa using h.size, fun k hk hb => (heap_setCell_other _ _ _ _ (by show k ≠ g; omega)).trans (h.block k hk hb)⟩

/-- a slice's value that holds the octets l, outside block b -/
def Sb (w : World) (b : Nat) (v : Value) (l : List Nat) : Prop := ∃ a cap, v = .slice a l.length cap ∧ l.length ≤ cap ∧ (l = [] ∨ ∃ g o, a = some ⟨g, o, none⟩ ∧ DataAt w g o l ∧ g ≠ b)
theorem Sb.sl {w : World} {b : Nat} {v : Value} {l : List Nat} (h : Sb w b v l) : SlAt w v l := by
  obtain ⟨a, cap, rfl, hc, rfl | ⟨g, o, rfl, hd, _⟩⟩ := h
  · exact .inr ⟨rfl, _, _, rfl⟩
  · exact .inl ⟨g, o, cap, rfl, hd⟩
theorem Sb.apart {w : World} {b : Nat} {v : Value} {l : List Nat} (h : Sb w b v l) : ∀ g o cap, v = .slice (some ⟨g, o, none⟩) l.length cap → l ≠ [] → g ≠ b := by
  rintro g o cap e hne
  obtain ⟨a, cap', rfl, hc, h0 | ⟨g', o', rfl, hd, hg⟩⟩ := h
  · exact absurd h0 hne
  · injection e with e1 e2 e3
    injection e1 with e1
    injection e1 with e1
    rw [← e1]
    exact hg
theorem Sb.only {w w' : World} {b : Nat} {v : Value} {l : List Nat} (h : Sb w b v l) (ho : Only b w w') : Sb w' b v l := by
  obtain ⟨a, cap, rfl, hc, h0 | ⟨g, o, rfl, hd, hg⟩⟩ := h
  · exact ⟨_, _, rfl, hc, .inl h0⟩
  · exact ⟨_, _, rfl, hc, .inr ⟨g, o, rfl, hd.keep ho hg, hg⟩⟩
theorem Sb.take {w : World} {b : Nat} {a : Option Addr} {n cap : Nat} {l : List Nat} (h : Sb w b (.slice a n cap) l) {c : Nat} (hc : c ≤ l.length) (a' : Option Addr) (ha : cap = 0 ∨ a' = a) : Sb w b (.slice a' c cap) (l.take c) := by
  obtain ⟨a1, cap1, e, hcap, hh⟩ := h
  injection e with e1 e2 e3
  subst e1
  subst e3
  have ht := take_len hc
  refine ⟨a', cap, by rw [ht], by omega, ?_⟩
  rcases hh with rfl | ⟨g, o, rfl, hd, hg⟩
  · exact .inl (by simp)
  · rcases ha with h0 | rfl
    · subst h0
      exact .inl (by have : l = [] := by cases l with
          | nil => rfl
          | cons x r => simp at hcap
                     subst this; simp)
    · refine .inr ⟨g, o, rfl, ⟨fun i hi => ?_, fun i => ?_⟩, hg⟩
      · rw [ht] at hi
        rw [hd.cell i (by omega), List.getD_eq_getElem?_getD, List.getD_eq_getElem?_getD, List.getElem?_take, if_pos hi]
      · exact getD_take hd.byte c i
theorem Sb.drop {w : World} {b : Nat} {a : Option Addr} {n cap : Nat} {l : List Nat} (h : Sb w b (.slice a n cap) l) {c : Nat} (hc : c ≤ l.length) (a' : Option Addr) (ha : cap = c ∨ a' = a.map (·.add c)) : Sb w b (.slice a' (n - c) (cap - c)) (l.drop c) := by
  obtain ⟨a1, cap1, e, hcap, hh⟩ := h
  injection e with e1 e2 e3
  subst e1
  subst e2
  subst e3
  refine ⟨a', cap - c, by rw [List.length_drop], by rw [List.length_drop]; omega, ?_⟩
  by_cases hlc : l.length = c
  · exact .inl (List.drop_of_length_le (by omega))
  rcases hh with rfl | ⟨g, o, rfl, hd, hg⟩
  · exact .inl (by simp)
  · rcases ha with h0 | rfl
    · omega
    · refine .inr ⟨g, o + c, by simp [Addr.add_mid], ⟨fun i hi => ?_, fun i => ?_⟩, hg⟩
      · rw [List.length_drop] at hi
        rw [show o + c + i = o + (c + i) by omega, hd.cell (c + i) (by omega), List.getD_eq_getElem?_getD, List.getD_eq_getElem?_getD, List.getElem?_drop]
      · exact getD_drop hd.byte c i
theorem Sb.len {w : World} {b : Nat} {a : Option Addr} {n cap : Nat} {l : List Nat} (h : Sb w b (.slice a n cap) l) : l.length = n ∧ n ≤ cap := by
  obtain ⟨a1, cap1, e, hcap, _⟩ := h
  injection e with e1 e2 e3
  omega
theorem Sb.shape {w : World} {b : Nat} {v : Value} {l : List Nat} (h : Sb w b v l) : ∃ a n cap, v = .slice a n cap := by
  obtain ⟨a, cap, rfl, _⟩ := h
  exact ⟨_, _, _, rfl⟩
end Go.Proofs.YtbpfggkpfaobhaaGreat
