/-
  Reading what lies in a row: an element's address, its cells at once.
-/
import Derived.Test.YtecedbjkebdeaaaShM
import Derived.Deep.Slices
import Derived.Deep.MidRow
import Derived.Deep.WholeRow
import Derived.Lib.Slices
import Derived.Lib.Agree
import Derived.Shelf.Abstract
import Derived.Deep.QuietTactic
import Derived.BigQuiet
import Derived.Deep.DeepCutAuto
import Derived.StillTailTactics
import Derived.Deep.RegionHeld3
import Derived.Lib.Walk
import Derived.Lib.SmallJoins
namespace Go.Proofs.Ytecedbjkebdeaaa
open Go.RowKit
set_option linter.unusedVariables false
set_option linter.unusedSimpArgs false
set_option maxRecDepth 100000

/-- block g is a variable of these cells -/
def Bx (W : World) (g : Nat) (cs : Array Value) (t : TypeId) : Prop := W.heap[g]? = some (.cells cs t (0, 0))
theorem Bx.new (w : World) (cs : Array Value) (t : TypeId) : Bx (w.alloc (.cells cs t)) w.heap.size cs t := heap_alloc_new _ _
theorem Bx.lt {w : World} {g : Nat} {cs : Array Value} {t : TypeId} (h : Bx w g cs t) : g < w.heap.size := (Array.getElem?_eq_some_iff.1 h).1
theorem Bx.below {w w' : World} {g : Nat} {cs : Array Value} {t : TypeId} {B : Nat} (h : Bx w g cs t) (ho : Below B w w') (hB : g < B) : Bx w' g cs t := (ho.block g hB).trans h
theorem Bx.alloc {w : World} {g : Nat} {cs : Array Value} {t : TypeId} (h : Bx w g cs t) (o : Obj) : Bx (w.alloc o) g cs t := (Below.heap_alloc w o g h.lt).trans h
theorem Bx.drew {w : World} {g : Nat} {cs : Array Value} {t : TypeId} (h : Bx w g cs t) (n : Nat) : Bx (w.drewN n) g cs t := h
theorem Bx.cell {w : World} {g : Nat} {cs : Array Value} {t : TypeId} (h : Bx w g cs t) (j : Nat) {v : Value} (hj : cs[j]? = some v) : w.cell? ⟨g, j, none⟩ = some v := (cell_of_row w g j cs t _ h).trans hj

/-- a whole variable stored into the block that was made last -/
theorem wpList_store_new {ops : Array Oper} {rest : List Oper} {op : Oper} {a : Act} {w : World} {Q : Exit → Act → World → Prop} (hgd : op.guard = none) (ty : TypeId) (x y : Operand) (ho : op.op = .store ty x y) (k : Nat)
    (c : Array Value) (cs : List Value) (hl : cs.length = k) (hc : c.size = k) (hi : (Try.prog.info? ty).map (·.size) = some k) (h1 : ∀ v ∈ cs, v.oneCell' = true)
    (hx : a.eval x = .pointer (some ⟨w.heap.size, 0, none⟩)) (hy : a.eval y = .agg cs.toArray)
    (h : wpList Try.prog ops Q rest (a.put op.dst undef) (w.alloc (.cells cs.toArray ty))) : wpList Try.prog ops Q (op :: rest) a (w.alloc (.cells c ty)) := by
  refine wpList_plain hgd fun _ hK => ?_
  unfold Oper.wp execOp
  simp only [ho, hx, hy, Instr.storeAt, Instr.sureAddr, Sem.run_bind, Sem.run_pure, Result.andThen_ok, run_storeVar_new (P := Try.prog) w ty c cs.toArray (by rw [hi]; simp [hl]) (by simp [hl, hc]) (all_oneCell_toArray h1)]
  exact hK _ _ h
theorem Bx.setRow {w : World} {g : Nat} {c : Array Value} {t : TypeId} (h : Bx w g c t) (cs : Array Value) : Bx (w.setRow g cs) g cs t ∧ Below g w (w.setRow g cs) ∧ (w.setRow g cs).heap.size = w.heap.size ∧ ∀ j, j ≠ g → (w.setRow g cs).heap[j]? = w.heap[j]? := by
  have hj : ∀ j, j ≠ g → (w.setRow g cs).heap[j]? = w.heap[j]? := fun j hj => by
    simp only [World.setRow, Array.getElem?_modify, if_neg (Ne.symm hj)]
  refine ⟨?_, ⟨rfl, rfl, rfl, by simp [World.setRow], fun k hk => hj k (by omega)⟩, by simp [World.setRow], hj⟩
  unfold Bx at h ⊢
  simp [World.setRow, Array.getElem?_modify, h]
/-- a whole variable stored into its block -/
theorem wpList_store_bx {ops : Array Oper} {rest : List Oper} {op : Oper} {a : Act} {w : World} {Q : Exit → Act → World → Prop} (hgd : op.guard = none) (ty : TypeId) (x y : Operand) (ho : op.op = .store ty x y) (k g : Nat)
    (c : Array Value) (cs : List Value) (hb : Bx w g c ty) (hl : cs.length = k) (hc : c.size = k) (hi : (Try.prog.info? ty).map (·.size) = some k) (h1 : ∀ v ∈ cs, v.oneCell' = true)
    (hx : a.eval x = .pointer (some ⟨g, 0, none⟩)) (hy : a.eval y = .agg cs.toArray)
    (h : ∀ w', w'.heap.size = w.heap.size → Bx w' g cs.toArray ty → Below g w w' → (∀ j, j ≠ g → w'.heap[j]? = w.heap[j]?) → wpList Try.prog ops Q rest (a.put op.dst undef) w') : wpList Try.prog ops Q (op :: rest) a w := by
  refine wpList_plain hgd fun _ hK => ?_
  unfold Oper.wp execOp
  simp only [ho, hx, hy, Instr.storeAt, Instr.sureAddr, Sem.run_bind, Sem.run_pure, Result.andThen_ok, run_storeVar_row (P := Try.prog) w g ty ty c cs.toArray hb (by rw [hi]; simp [hl]) (by simp [hl, hc]) (all_oneCell_toArray h1)]
  obtain ⟨e1, e2, e3, e4⟩ := hb.setRow cs.toArray
  exact hK _ _ (h _ e3 e1 e2 e4)
theorem Bx.range {w : World} {g : Nat} {cs : List Value} {t : TypeId} (h : Bx w g cs.toArray t) : w.rangeAt g 0 cs := fun j v hv => by
  rw [Nat.zero_add]
  exact h.cell j (by simpa using hv)
theorem wrap_ok {x : Int} (h : I64 x) : IntKind.i64.wrap x = x := by
  have h2 := h
  unfold I64 at h2
  rw [IntKind.wrap_i64]
  omega
theorem wrap_succ {i n : Nat} (h : i < n) (hn : n ≤ 9223372036854775807) : IntKind.i64.wrap ((i : Int) + 1) = ((i + 1 : Nat) : Int) := (wrap_ok (x := (i : Int) + 1) (by unfold I64; omega)).trans (by omega)
/-- the element's address and its cells -/
theorem RowAt.read {B : Nat} {W : World} {a : Option Addr} {n cap k : Nat} {cells : Nat → List Value} (h : RowAt B W a n cap k cells) (t e : TypeId) (hu : Try.prog.underlying t = some (.slice e)) (he : Try.prog.elem t = e) (hs : ∀ w, (sizeOf e).run Try.prog w = .ok k w) {i : Nat} (hi : i < n) :
    ∃ gx ox : Nat, (∀ w, (Instr.indexAt t (.slice a n cap) (.int .i64 (i : Nat))).run Try.prog w = .ok (.pointer (some ⟨gx, ox, none⟩)) w) ∧ gx < B ∧ ∀ w : World, w.heap[gx]? = W.heap[gx]? → ∀ j u, (cells i)[j]? = some u → w.cell? ⟨gx, ox + j, none⟩ = some u := by
  obtain ⟨g, o, rfl, hg, hc⟩ := h.2.2.2 (by omega)
  refine ⟨g, o + i * k, fun w => ?_, hg, fun w hw j u hj => ?_⟩
  · rw [run_indexAt_slice (h := by rw [he]; exact hu), if_pos (by omega), he, hs]
    simp [Result.andThen, Addr.add_mid]
  · exact (World.cell?_of_block (w := W) (a := ⟨g, o + i * k + j, none⟩) hw).trans (hc i hi j u hj)
/-- a constraint in a row: its address and its six cells -/
theorem cRow_read {B : Nat} {W : World} {a : Option Addr} {n cap : Nat} {ch : Nat → CT} (h : RowAt B W a n cap 6 (fun i => (ch i).cells)) {i : Nat} (hi : i < n) (hc : CIn B W (ch i)) :
    ∃ gx ox op lo hi low high a' n' cap' ch', ch i = .mk op lo hi low high a' n' cap' ch' ∧ (∀ w, (Instr.indexAt 28 (.slice a n cap) (.int .i64 (i : Nat))).run Try.prog w = .ok (.pointer (some ⟨gx, ox, none⟩)) w) ∧ gx < B ∧
      ∀ w : World, w.heap[gx]? = W.heap[gx]? → w.cell? ⟨gx, ox, none⟩ = some (.int .i64 op) ∧ w.cell? ⟨gx, ox + 1, none⟩ = some (.int .i64 lo) ∧ w.cell? ⟨gx, ox + 2, none⟩ = some (.int .i64 hi) ∧ w.cell? ⟨gx, ox + 3, none⟩ = some (.bool low) ∧ w.cell? ⟨gx, ox + 4, none⟩ = some (.bool high) ∧ w.cell? ⟨gx, ox + 5, none⟩ = some (.slice a' n' cap') := by
  obtain ⟨gx, ox, h1, h2, h3⟩ := h.read 28 30 Try.underlying28 (by kernel_rfl) Try.sizeOf30 hi
  cases hch : ch i with
  | nil => rw [hch] at hc; exact hc.elim
  | mk op lo hi low high a' n' cap' ch' =>
    refine ⟨gx, ox, op, lo, hi, low, high, a', n', cap', ch', rfl, h1, h2, fun w hw => ?_⟩
    have hx := h3 w hw
    rw [hch] at hx
    exact ⟨hx 0 _ rfl, hx 1 _ rfl, hx 2 _ rfl, hx 3 _ rfl, hx 4 _ rfl, hx 5 _ rfl⟩
end Go.Proofs.Ytecedbjkebdeaaa
